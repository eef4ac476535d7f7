/-
  A parser in memory, and what its small calls do. No condition but that it is one.
-/
import Derived.Test.YtjogcdkebplcpaaGreatDoorMath
import Derived.WalkKit
import Derived.WalkSpells
import Derived.WalkLawsBesides
import Derived.Lib.Hide
import Derived.Lib.ShelfFacts
import Derived.Deep.AppendLies
namespace Go.Proofs.YtjogcdkebplcpaaGreatDoor
open Go.RowKit

/-- What refuses with ErrArg. -/
abbrev Bad (e : Int) : Ending := .panicked [{ v := .iface 58 (.int .i64 e), recovered := false }]
/-- The parser in block p: what is left of the form, and how many brackets are open. -/
def Pa (w : World) (p : Nat) (t : List UInt8) (n : Nat) : Prop := w.heap[p]? = some (.cells #[.string ⟨t.toArray⟩, .int .i64 n] 61 (0, 0))
/-- Block p and new ones alone have turned. -/
structure FrP (p : Nat) (w w' : World) : Prop where
  os : w'.os = w.os
  tape : w'.tape = w.tape
  output : w'.output = w.output
  size : w.heap.size ≤ w'.heap.size
  block : ∀ k, k < w.heap.size → k ≠ p → w'.heap[k]? = w.heap[k]?
theorem FrP.refl (p : Nat) (w : World) : FrP p w w := ⟨rfl, rfl, rfl, Nat.le_refl _, fun _ _ _ => rfl⟩
theorem FrP.trans {p : Nat} {a b c : World} (h : FrP p a b) (k : FrP p b c) : FrP p a c :=
  ⟨k.os.trans h.os, k.tape.trans h.tape, k.output.trans h.output, Nat.le_trans h.size k.size, fun i hi hp => (k.block i (Nat.lt_of_lt_of_le hi h.size) hp).trans (h.block i hi hp)⟩
theorem FrP.set {p : Nat} {a b : World} (h : FrP p a b) (o : Nat) (u : Value) : FrP p a (b.setCell ⟨p, o, none⟩ u) :=
  h.trans ⟨rfl, rfl, rfl, by simp [World.setCell], fun k _ hk => Below.heap_setCell _ _ _ _ hk⟩
theorem FrP.alloc {p : Nat} {a b : World} (h : FrP p a b) (o : Obj) : FrP p a (b.alloc o) :=
  h.trans ⟨rfl, rfl, rfl, by simp, fun k hk _ => Below.heap_alloc _ _ _ hk⟩
theorem FrP.of_below {p : Nat} {w w' : World} (h : Below w.heap.size w w') : FrP p w w' := ⟨h.os, h.tape, h.output, h.size, fun k hk _ => h.block k hk⟩
theorem FrP.below {p : Nat} {w w' : World} (h : FrP p w w') {B : Nat} (hB : B ≤ p) (hs : B ≤ w.heap.size) : Below B w w' := ⟨h.os, h.tape, h.output, h.size, fun k hk => h.block k (by omega) (by omega)⟩

theorem Pa.cells {w : World} {p : Nat} {t : List UInt8} {n : Nat} (h : Pa w p t n) : w.cell? ⟨p, 0, none⟩ = some (.string ⟨t.toArray⟩) ∧ w.cell? ⟨p, 1, none⟩ = some (.int .i64 n) ∧ w.frozen? ⟨p, 0, none⟩ = false ∧ w.frozen? ⟨p, 1, none⟩ = false := by
  refine ⟨?_, ?_, Lib.frozen_of_heap h _, Lib.frozen_of_heap h _⟩
  · rw [cell_of_row w p 0 _ _ _ h]; rfl
  · rw [cell_of_row w p 1 _ _ _ h]; rfl
theorem Pa.set0 {w : World} {p : Nat} {t : List UInt8} {n : Nat} (h : Pa w p t n) (t' : List UInt8) : Pa (w.setCell ⟨p, 0, none⟩ (.string ⟨t'.toArray⟩)) p t' n := by
  simp [Pa] at *; simp [World.setCell, Array.getElem?_modify, h]
theorem Pa.set1 {w : World} {p : Nat} {t : List UInt8} {n : Nat} (h : Pa w p t n) (m : Nat) : Pa (w.setCell ⟨p, 1, none⟩ (.int .i64 m)) p t m := by
  simp [Pa] at *; simp [World.setCell, Array.getElem?_modify, h]
theorem Pa.lt {w : World} {p : Nat} {t : List UInt8} {n : Nat} (h : Pa w p t n) : p < w.heap.size := (Array.getElem?_eq_some_iff.1 h).1

set_option maxHeartbeats 400000 in
theorem refuse_any (e : Int) (w : World) : Calls Tryz.prog 14 #[.int .i64 e] w fun r w' => r = Bad e ∧ w = w' := by
  go_enter Tryz.func14, Tryz.ntmps14
  go_wp2
  exact ⟨rfl, rfl, rfl⟩

set_option maxHeartbeats 400000 in
theorem open_bad (p : Nat) (t : List UInt8) (n : Nat) (w : World) (h : Pa w p t n) (hn : 16 ≤ n) (hb : n ≤ 1000) :
    Calls Tryz.prog 75 #[.pointer (some ⟨p, 0, none⟩)] w fun r w' => r = Bad 1 ∧ FrP p w w' := by
  obtain ⟨c0, c1, f0, f1⟩ := h.cells
  clear h
  go_enter Tryz.func75, Tryz.ntmps75
  go_wp2_with fail
  refine (refuse_any 1 _).mono ?_
  rintro r w' ⟨rfl, rfl⟩
  go_wp2
  exact ⟨rfl, rfl, (FrP.refl p w).set 1 _⟩
set_option maxHeartbeats 400000 in
theorem open_ok (p : Nat) (t : List UInt8) (n : Nat) (w : World) (h : Pa w p t n) (hn : n < 16) :
    Calls Tryz.prog 75 #[.pointer (some ⟨p, 0, none⟩)] w fun r w' => r = .returned (.tuple #[]) ∧ Pa w' p t (n + 1) ∧ FrP p w w' := by
  obtain ⟨c0, c1, f0, f1⟩ := h.cells
  have H := Lib.hid h
  clear h
  go_enter Tryz.func75, Tryz.ntmps75
  go_wp2
  go_end0
  exact ⟨rfl, H.out.set1 (n + 1), (FrP.refl p w).set 1 _⟩

/-- The mark c taken, if it comes next. -/
theorem extract_cons (c : UInt8) (t : List UInt8) : (({ data := (c :: t).toArray } : ByteArray).extract 1 (t.length + 1)) = ⟨t.toArray⟩ := by
  apply ByteArray.ext; apply Array.ext'
  rw [ByteArray.data_extract, Array.toList_extract]; simp
theorem extract_head (c : UInt8) (t : List UInt8) : (({ data := (c :: t).toArray } : ByteArray).extract 0 1).toList = [c] := by
  rw [ByteArray.toList_eq, ByteArray.data_extract, Array.toList_extract]; simp
set_option maxHeartbeats 1000000 in
theorem has_yes (p : Nat) (c : UInt8) (t : List UInt8) (n : Nat) (w : World) (h : Pa w p (c :: t) n) (ht : t.length ≤ 2000) :
    Calls Tryz.prog 76 #[.pointer (some ⟨p, 0, none⟩), .string ⟨#[c]⟩] w fun r w' => r = .returned (.bool true) ∧ Pa w' p t n ∧ FrP p w w' := by
  obtain ⟨c0, c1, f0, f1⟩ := h.cells
  have H := Lib.hid h
  have hx := extract_head c t
  have hx2 := extract_cons c t
  clear h
  go_enter Tryz.func76, Tryz.ntmps76
  go_wp2
  go_ret
  exact ⟨rfl, H.out.set0 t, (FrP.refl p w).set 0 _⟩
set_option maxHeartbeats 1000000 in
theorem has_no (p : Nat) (c : UInt8) (t : List UInt8) (n : Nat) (w : World) (h : Pa w p t n) (ht : t.length ≤ 2000) (hc : t.head? ≠ some c) :
    Calls Tryz.prog 76 #[.pointer (some ⟨p, 0, none⟩), .string ⟨#[c]⟩] w fun r w' => r = .returned (.bool false) ∧ Pa w' p t n ∧ FrP p w w' := by
  obtain ⟨c0, c1, f0, f1⟩ := h.cells
  have H := Lib.hid h
  cases t with
  | nil =>
    clear h
    go_enter Tryz.func76, Tryz.ntmps76
    go_wp2
    go_ret
    exact ⟨rfl, H.out.set0 [], (FrP.refl p w).set 0 _⟩
  | cons d t =>
    have hx := extract_head d t
    have hne : (!([d] == [c])) = true := by simp at hc; simp [hc]
    have hne2 : ([d] == [c]) = false := by simp at hc; simp [hc]
    clear h hc
    go_enter Tryz.func76, Tryz.ntmps76
    go_wp2
    all_goals
      go_ret
      exact ⟨rfl, H.out.set0 (d :: t), (FrP.refl p w).set 0 _⟩

set_option maxHeartbeats 400000 in
theorem want_yes (p : Nat) (c : UInt8) (t : List UInt8) (n : Nat) (w : World) (h : Pa w p (c :: t) n) (ht : t.length ≤ 2000) :
    Calls Tryz.prog 74 #[.pointer (some ⟨p, 0, none⟩), .string ⟨#[c]⟩] w fun r w' => r = .returned (.tuple #[]) ∧ Pa w' p t n ∧ FrP p w w' := by
  go_enter Tryz.func74, Tryz.ntmps74
  go_wp2_with fail
  refine (has_yes p c t n w h ht).mono ?_
  rintro r w1 ⟨rfl, h1, h2⟩
  have H1 := Lib.hid h1
  have H2 := Lib.hid h2
  clear h1 h2
  go_wp2
  go_end0
  exact ⟨rfl, H1.out, H2.out⟩
set_option maxHeartbeats 400000 in
theorem want_no (p : Nat) (c : UInt8) (t : List UInt8) (n : Nat) (w : World) (h : Pa w p t n) (ht : t.length ≤ 2000) (hc : t.head? ≠ some c) :
    Calls Tryz.prog 74 #[.pointer (some ⟨p, 0, none⟩), .string ⟨#[c]⟩] w fun r w' => r = Bad 1 ∧ FrP p w w' := by
  go_enter Tryz.func74, Tryz.ntmps74
  go_wp2_with fail
  refine (has_no p c t n w h ht hc).mono ?_
  rintro r w1 ⟨rfl, h1, h2⟩
  have H2 := Lib.hid h2
  clear h1 h2
  go_wp2_with fail
  refine (refuse_any 1 _).mono ?_
  rintro r w' ⟨rfl, rfl⟩
  go_wp2
  exact ⟨rfl, rfl, H2.out⟩
end Go.Proofs.YtjogcdkebplcpaaGreatDoor
