/-
  takeCall: what stands behind the Xid and the kind, or the refusal that is thrown. Its conditions: a reader of at most 65536 bytes.
-/
import Derived.Test.YtkbjimbnbocfpaaUx
namespace Go.Proofs.Ytkbjimbnbocfpaa
open Go.RowKit

/-- What is thrown where a call is refused. -/
abbrev Thrown (xid v lo hi : Int) : Ending := .panicked [{ v := .iface 77 (.agg #[.int .i64 xid, .int .i64 v, .int .i64 lo, .int .i64 hi, .string ⟨#[]⟩]), recovered := false }]
set_option maxHeartbeats 400000 in
theorem refuse32 (x : Nat) (xid v lo hi : Int) (w : World) (hc : w.cell? ⟨x, 0, none⟩ = some (.int .i64 xid)) :
    Calls Try.prog 32 #[.int .i64 v, .int .i64 lo, .int .i64 hi, .pointer (some ⟨x, 0, none⟩)] w fun r w' => r = Thrown xid v lo hi ∧ w = w' := by
  go_enter Try.func32, Try.ntmps32
  go_wp2
  exact ⟨rfl, rfl, rfl⟩

def wellR (l : List UInt8) (e : Int) : Bool := endR l e == 0 || endR l e == 6

/-- The reader's block and new blocks alone. -/
theorem Fq.trans {q : Nat} {a b c : World} (h : Fq q a b) (k : Fq q b c) : Fq q a c :=
  ⟨k.os.trans h.os, k.tape.trans h.tape, k.output.trans h.output, Nat.le_trans h.size k.size, fun i hi hq => (k.block i (Nat.lt_of_lt_of_le hi h.size) hq).trans (h.block i hi hq)⟩
theorem Fq.refl (q : Nat) (w : World) : Fq q w w := ⟨rfl, rfl, rfl, Nat.le_refl _, fun _ _ _ => rfl⟩
theorem Fq.ofOnly {p : Nat} {w w' : World} (h : Only p w w') : Fq p w w' := ⟨h.os, h.tape, h.output, by rw [h.size]; exact Nat.le_refl _, fun k _ hk => h.block k hk⟩
theorem Fq.alloc {q : Nat} {w a : World} (h : Fq q w a) (o : Obj) : Fq q w (a.alloc o) := h.trans (Fq.ofBelow ((Below.refl _ _).alloc (Nat.le_refl _) o))
theorem Fq.cell {q x : Nat} {w a : World} {v : Value} (h : Fq q w a) (hx : x < w.heap.size) (hq : x ≠ q) (hc : w.cell? ⟨x, 0, none⟩ = some v) : a.cell? ⟨x, 0, none⟩ = some v :=
  (World.cell?_of_block (a := ⟨x, 0, none⟩) (h.block x hx hq)).trans hc

set_option maxRecDepth 100000 in
set_option maxHeartbeats 1000000 in
/-- The version isn't 2. -/
theorem take_version (p x : Nat) (xid : Int) (l : List UInt8) (w : World) (hR : Rd w p l 0) (hl : l.length ≤ 65536) (hc : w.cell? ⟨x, 0, none⟩ = some (.int .i64 xid)) (hx : x < w.heap.size) (hxp : x ≠ p)
    (v : Int) (l1 : List UInt8) (e1 : Int) (h1 : numR 4 l 0 = (v, l1, e1)) (hv : v ≠ 2) :
    Calls Try.prog 35 #[.pointer (some ⟨p, 0, none⟩), .func (.func 32) #[] #[.pointer (some ⟨x, 0, none⟩)]] w fun r w' => r = Thrown xid 6 2 2 ∧ Fq p w w' := by
  have H1 := Lib.hid h1
  have HR := Lib.hid hR
  have HC := Lib.hid hc
  have hb : (v != 2) = true := by simpa using hv
  clear h1 hR hc hv
  go_enter Try.func35, Try.ntmps35
  go_wp2_with fail
  refine (ruint_n p l 0 _ (HR.out.alloc _) (by omega) v l1 e1 H1.out).mono ?_
  rintro r w1 ⟨rfl, hR1, hO1⟩
  have HF := Lib.hid (((Fq.refl p w).alloc (.cells #[.int .i64 0, .int .i64 0, .int .i64 0, .int .i64 0, .bool false, .int .i64 0, .string ⟨#[]⟩, .int .i64 0, .int .i64 0, .slice none 0 0, .string ⟨#[]⟩] 30)).trans (Fq.ofOnly hO1))
  have hc1 := HF.out.cell hx hxp HC.out
  clear hR1 hO1
  go_wp2_with fail
  refine (refuse32 x xid 6 2 2 w1 hc1).mono ?_
  rintro r w2 ⟨rfl, rfl⟩
  go_wp2
  exact ⟨rfl, rfl, HF.out⟩
/-- What came of a call's bytes behind its version. -/
inductive Out where
  | bad (v lo hi : Int)
  | ok (unix : Bool) (st : Int) (m : ByteArray) (uid gid : Int) (G : List Int)
/-- The credential: what it tells, or how it is refused. -/
def credO (w6 : Bool) (fl : Int) (ux : Option (Int × ByteArray × Int × Int × List Int)) (empty : Bool) : Out :=
  if w6 = false then .bad 7 1 0 else if 1 < fl then .bad 7 5 0 else if fl = 1 then (match ux with | none => .bad 7 1 0 | some (st, m, uid, gid, G) => .ok true st m uid gid G) else if empty then .ok false 0 ⟨#[]⟩ 0 0 [] else .bad 7 1 0

/-- Behind a credential that isn't refused: the verifier and the arguments. -/
def TkTo (p : Nat) (prog vers proc : Int) (unix : Bool) (st : Int) (m : ByteArray) (uid gid : Int) (G : List Int) (args : ByteArray) (w : World) (r : Ending) (w' : World) : Prop :=
  ∃ vg, r = .returned (.agg #[.int .i64 0, .int .i64 prog, .int .i64 vers, .int .i64 proc, .bool unix, .int .i64 st, .string m, .int .i64 uid, .int .i64 gid, vg, .string args]) ∧ w'.ownsRow 0 3 1 vg G.length (ints G) ∧ (∀ g, vg.ownBlock = some g → w.heap.size ≤ g) ∧ Fq p w w'

theorem left_same' (p : Nat) (l : List UInt8) (e : Int) (w : World) (h : Rd w p l e) : Calls Try.prog 53 #[.pointer (some ⟨p, 0, none⟩)] w fun r w' => r = .returned (.int .i64 (l.length : Int)) ∧ w = w' := left_any p l e w h
theorem rfixed_n (p : Nat) (l : List UInt8) (e : Int) (n : Int) (w : World) (h : Rd w p l e) (hl : l.length ≤ 140737488355328) (hn : n ≤ 9223372036854775807) (s : ByteArray) (l' : List UInt8) (e' : Int) (hf : fixR n l e = (s, l', e')) :
    Calls Try.prog 54 #[.pointer (some ⟨p, 0, none⟩), .int .i64 n] w fun r w' => r = .returned (.string s) ∧ Rd w' p l' e' ∧ Only p w w' := by
  have := rfixed_any p l e n w h hl hn
  rw [hf] at this
  exact this

set_option maxRecDepth 100000 in
set_option maxHeartbeats 1000000 in
/-- The head of a call is cut short. -/
theorem take_head (p x : Nat) (xid : Int) (l : List UInt8) (w : World) (hR : Rd w p l 0) (hl : l.length ≤ 65536) (hc : w.cell? ⟨x, 0, none⟩ = some (.int .i64 xid)) (hx : x < w.heap.size) (hxp : x ≠ p)
    (l1 : List UInt8) (e1 : Int) (h1 : numR 4 l 0 = (2, l1, e1)) (prog : Int) (l2 : List UInt8) (e2 : Int) (h2 : numR 4 l1 e1 = (prog, l2, e2)) (vers : Int) (l3 : List UInt8) (e3 : Int) (h3 : numR 4 l2 e2 = (vers, l3, e3)) (proc : Int) (l4 : List UInt8) (e4 : Int) (h4 : numR 4 l3 e3 = (proc, l4, e4))
    (hw : wellR l4 e4 = false) :
    Calls Try.prog 35 #[.pointer (some ⟨p, 0, none⟩), .func (.func 32) #[] #[.pointer (some ⟨x, 0, none⟩)]] w fun r w' => r = Thrown xid 4 0 0 ∧ Fq p w w' := by
  have n1 := numR_len h1
  have n2 := numR_len h2
  have n3 := numR_len h3
  have H1 := Lib.hid h1
  have H2 := Lib.hid h2
  have H3 := Lib.hid h3
  have H4 := Lib.hid h4
  have HW := Lib.hid hw
  have HR := Lib.hid hR
  have HC := Lib.hid hc
  clear h1 h2 h3 h4 hR hc hw
  go_enter Try.func35, Try.ntmps35
  go_wp2_with fail
  refine (ruint_n p l 0 _ (HR.out.alloc _) (by omega) 2 l1 e1 H1.out).mono ?_
  rintro r w1 ⟨rfl, hR1, hO1⟩
  have HF1 := Lib.hid (((Fq.refl p w).alloc (.cells #[.int .i64 0, .int .i64 0, .int .i64 0, .int .i64 0, .bool false, .int .i64 0, .string ⟨#[]⟩, .int .i64 0, .int .i64 0, .slice none 0 0, .string ⟨#[]⟩] 30)).trans (Fq.ofOnly hO1))
  have HR1 := Lib.hid hR1
  clear hR1 hO1
  go_wp2_with fail
  refine (ruint_n p l1 e1 w1 HR1.out (by omega) prog l2 e2 H2.out).mono ?_
  rintro r w2 ⟨rfl, hR2, hO2⟩
  have HF2 := Lib.hid (HF1.out.trans (Fq.ofOnly hO2))
  have HR2 := Lib.hid hR2
  clear hR2 hO2
  go_wp2_with fail
  refine (ruint_n p l2 e2 w2 HR2.out (by omega) vers l3 e3 H3.out).mono ?_
  rintro r w3 ⟨rfl, hR3, hO3⟩
  have HF3 := Lib.hid (HF2.out.trans (Fq.ofOnly hO3))
  have HR3 := Lib.hid hR3
  clear hR3 hO3
  go_wp2_with fail
  refine (ruint_n p l3 e3 w3 HR3.out (by omega) proc l4 e4 H4.out).mono ?_
  rintro r w4 ⟨rfl, hR4, hO4⟩
  have HF4 := Lib.hid (HF3.out.trans (Fq.ofOnly hO4))
  have HR4 := Lib.hid hR4
  clear hR4 hO4
  go_wp2_with fail
  refine (well_any p l4 e4 _ (HR4.out.alloc _) false HW.out).mono ?_
  rintro r w' ⟨rfl, rfl⟩
  have HF5 := Lib.hid (HF4.out.alloc (.cells #[.int .i64 0, .int .i64 prog, .int .i64 vers, .int .i64 proc, .bool false, .int .i64 0, .string ⟨#[]⟩, .int .i64 0, .int .i64 0, .slice none 0 0, .string ⟨#[]⟩] 30))
  have hc5 := HF5.out.cell hx hxp HC.out
  go_wp2_with fail
  refine (refuse32 x xid 4 0 0 _ hc5).mono ?_
  rintro r w' ⟨rfl, rfl⟩
  go_wp2
  exact ⟨rfl, rfl, HF5.out⟩
end Go.Proofs.Ytkbjimbnbocfpaa
