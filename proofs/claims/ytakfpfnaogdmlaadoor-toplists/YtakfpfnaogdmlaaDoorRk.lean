/-
  A reader that takes what a writer put, thing by thing. Its conditions: the reader is the call's own; what is put next is there.
-/
import Derived.Test.YtakfpfnaogdmlaaDoorRl
import Derived.Test.YtakfpfnaogdmlaaDoorXRdFix
namespace Go.Proofs.YtakfpfnaogdmlaaDoor
open Go.RowKit Sch
/-- The reader in block p has l left, and nothing below w0's blocks has turned. -/
structure Rk (w0 : World) (p : Nat) (l : List UInt8) (w : World) : Prop where
  rd : X.Rd w p l 0
  low : Below w0.heap.size w0 w
theorem Rk.drew {w0 w : World} {p : Nat} {l : List UInt8} (h : Rk w0 p l w) : Rk w0 p l w.drew := ⟨h.rd, ⟨h.low.os, h.low.tape, h.low.output, h.low.size, h.low.block⟩⟩
theorem Rk.cell {w0 w : World} {p : Nat} {l : List UInt8} (h : Rk w0 p l w) {b : Addr} {v : Value} (hb : b.block < w0.heap.size) (hc : w0.cell? b = some v) : w.cell? b = some v := (World.cell?_of_block (h.low.block b.block hb)).trans hc
section
variable {w0 w : World} {p : Nat} {l : List UInt8}
theorem rk_bool (b : Bool) (hp : w0.heap.size ≤ p) (hl : l.length ≤ 1000000) (h : Rk w0 p (Y.numBytes (b2i b) 4 ++ l) w) :
    Calls Tryd.prog 21 #[.pointer (some ⟨p, 0, none⟩)] w fun r w' => r = .returned (.bool b) ∧ Rk w0 p l w' := by
  refine (X.rbool_any p _ 0 w h.rd (by rw [List.length_append, Y.numBytes_length]; omega)).mono ?_
  rw [putB]
  rintro e w' ⟨rfl, hr, ho⟩
  exact ⟨rfl, hr, h.low.trans (ho.below hp)⟩
theorem rk_one (hp : w0.heap.size ≤ p) (hl : l.length ≤ 1000000) (h : Rk w0 p (Y.numBytes 1 4 ++ l) w) :
    Calls Tryd.prog 21 #[.pointer (some ⟨p, 0, none⟩)] w fun r w' => r = .returned (.bool true) ∧ Rk w0 p l w' := rk_bool true hp hl h
theorem rk_nought (hp : w0.heap.size ≤ p) (hl : l.length ≤ 1000000) (h : Rk w0 p (Y.numBytes 0 4 ++ l) w) :
    Calls Tryd.prog 21 #[.pointer (some ⟨p, 0, none⟩)] w fun r w' => r = .returned (.bool false) ∧ Rk w0 p l w' := rk_bool false hp hl h
theorem rk_hyper (x : Int) (hx : -9223372036854775808 ≤ x ∧ x ≤ 9223372036854775807) (hp : w0.heap.size ≤ p) (hl : l.length ≤ 1000000) (h : Rk w0 p (Y.numBytes x 8 ++ l) w) :
    Calls Tryd.prog 23 #[.pointer (some ⟨p, 0, none⟩)] w fun r w' => r = .returned (.int .i64 x) ∧ Rk w0 p l w' := by
  refine (X.rhyper_any p _ 0 w h.rd (by rw [List.length_append, Y.numBytes_length]; omega)).mono ?_
  rw [put8 hx]
  rintro e w' ⟨rfl, hr, ho⟩
  exact ⟨rfl, hr, h.low.trans (ho.below hp)⟩
theorem rk_opaque (s : ByteArray) (hs : s.size ≤ 300) (hp : w0.heap.size ≤ p) (hl : l.length ≤ 1000000) (h : Rk w0 p (Y.opaqueOf s ++ l) w) :
    Calls Tryd.prog 24 #[.pointer (some ⟨p, 0, none⟩), .int .i64 300] w fun r w' => r = .returned (.string s) ∧ Rk w0 p l w' := by
  have hpo : X.opqR 300 (Y.opaqueOf s ++ l) 0 = (s, l, 0) := putO (k := 300) hs (by omega) l
  refine (X.ropaque_any p _ 0 300 w h.rd (by rw [List.length_append, Y.opaqueOf_length]; have := Y.pad_lt s.size; omega)).mono ?_
  rw [hpo]
  rintro e w' ⟨rfl, hr, ho⟩
  exact ⟨rfl, hr, h.low.trans (ho.below hp)⟩
end
end Go.Proofs.YtakfpfnaogdmlaaDoor
