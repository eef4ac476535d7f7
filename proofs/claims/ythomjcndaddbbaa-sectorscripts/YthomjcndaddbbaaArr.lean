/-
  A row of texts beside a disk, and the disk's calls with what they may have changed. Their conditions: as said.
-/
import Derived.Test.YthomjcndaddbbaaStr
import Derived.Test.YthomjcndaddbbaaDm
import Derived.Test.YthomjcndaddbbaaFull
namespace Go.Proofs.Ythomjcndaddbbaa
open Go.RowKit

def MineK (w0 w : World) (l : Loc) (v : Value) (d : Dk) (n : Nat) (w' : World) : Prop := ∃ v', Mine w0 w' l v' d n ∧ Chg l v v' w w'

section
variable {w0 w : World} {l : Loc} {v : Value} {d : Dk} {n : Nat}
theorem Mine.ofK (h : Mine w0 w l v d n) {d' : Dk} {w' : World} (hd : DkTo w l v d' w') (hok : d'.Ok) (hl : d'.L.length = n) : MineK w0 w l v d' n w' := by
  obtain ⟨v', a, b⟩ := hd
  exact ⟨v', h.next a b hok hl, b⟩

theorem my2_write (h : Mine w0 w l v d n) (k : Nat) (s : ByteArray) (hk : k < n) (hs : s.size ≤ 256) (ho : d.off = false) (hc : d.cut = 0) (hql : d.Q.length < 5000000000000) (hw0 : 0 ≤ d.wr) (hw1 : d.wr < 9223372036854775807) :
    Calls Try.prog 11 #[.pointer (some ⟨l.p, 0, none⟩), .int .i64 k, .string s] w fun e w' => e = .returned (.int .i64 0) ∧ MineK w0 w l v (d.queued k s).wrote n w' := by
  have hk' : k < d.L.length := by rw [h.len]; exact hk
  refine (write_ok h.disk k s hk' hs ho h.ok.inQ hql h.ok.cut0 h.ok.cut1 (by simp [Dk.fails, hc]) hw0 hw1).mono ?_
  rintro e w' ⟨rfl, hd⟩
  rw [Dk.after_none (d := d.queued k s) hc] at hd
  exact ⟨rfl, h.ofK hd (Dk.wrote_ok (Dk.queued_ok h.ok k s hk')) h.len⟩

theorem my2_flush (h : Mine w0 w l v d n) (ho : d.off = false) (hc : d.cut = 0) (hw0 : 0 ≤ d.fl) (hw1 : d.fl < 9223372036854775807) :
    Calls Try.prog 15 #[.pointer (some ⟨l.p, 0, none⟩)] w fun e w' => e = .returned (.int .i64 0) ∧ MineK w0 w l v d.flushed n w' := by
  refine (flush_ok h.disk ho h.ok.cut0 h.ok.cut1 (by simp [Dk.fails, hc]) hw0 hw1).mono ?_
  rintro e w' ⟨rfl, hd⟩
  rw [Dk.after_none hc] at hd
  exact ⟨rfl, h.ofK hd (Dk.flushed_ok h.ok) ((Dk.flushed_len h.ok).trans h.len)⟩

theorem my2_crash (h : Mine w0 w l v d n) (k : Int) : Calls Try.prog 18 #[.pointer (some ⟨l.p, 0, none⟩), .int .i64 k] w fun e w' => e = .returned (.tuple #[]) ∧ MineK w0 w l v (d.crash k) n w' := by
  refine (crash_any h.disk h.ok.inQ k).mono ?_
  rintro e w' ⟨rfl, hd⟩
  exact ⟨rfl, h.ofK hd (Dk.crash_ok h.ok k) ((Dk.crash_len k).trans h.len)⟩

/-- A row of texts of the type t. -/
def Arr (t : TypeId) (w : World) (B : Nat) (O : List ByteArray) : Prop := w.heap[B]? = some (.cells (strs O).toArray t (0, 0))
variable {t : TypeId} {B : Nat} {O : List ByteArray}
theorem Arr.kept (hA : Arr t w B O) (ht : t ≠ 9 ∧ t ≠ 64 ∧ t ≠ 67) (hD : Disk w l v d) {v' : Value} {w' : World} (hC : Chg l v v' w w') : Arr t w' B O := by
  have hl : B < w.heap.size := (Array.getElem?_eq_some_iff.1 hA).1
  refine (hC.block B hl ?_ ?_ ?_ ?_).trans hA
  · intro e; have := hD.head; rw [← e, hA] at this; simp at this; exact ht.2.1 this.2
  · intro e; have := hD.rowL; rw [← e, hA] at this; simp at this; exact ht.1 this.2
  · intro e; have := hD.rowS; rw [← e, hA] at this; simp at this; exact ht.1 this.2
  · exact hD.ne hA ht.2.2
theorem Arr.cell (hA : Arr t w B O) (i : Nat) (hi : i < O.length) : w.cell? ⟨B, i, none⟩ = some (.string O[i]) := by
  rw [cell_of_row w B i _ _ _ hA]; simp [strs, hi]
theorem Arr.free (hA : Arr t w B O) (i : Nat) : w.frozen? ⟨B, i, none⟩ = false := Lib.frozen_of_heap hA _
theorem Arr.lt (hA : Arr t w B O) : B < w.heap.size := (Array.getElem?_eq_some_iff.1 hA).1
theorem Arr.set (hA : Arr t w B O) (i : Nat) (s : ByteArray) : Arr t (w.setCell ⟨B, i, none⟩ (.string s)) B (O.set i s) := by
  unfold Arr
  rw [heap_set _ hA]
  congr 2
  apply Array.ext'
  simp [strs, List.map_set]
theorem Arr.other (hA : Arr t w B O) {B2 i : Nat} (h : B ≠ B2) (x : Value) : Arr t (w.setCell ⟨B2, i, none⟩ x) B O := by
  unfold Arr
  rw [Below.heap_setCell _ _ _ _ h]; exact hA
theorem Arr.below {w' : World} (hA : Arr t w B O) (hb : Below w.heap.size w w') : Arr t w' B O := (hb.block B hA.lt).trans hA

/-- A store into such a row leaves the disk alone. -/
theorem Mine.arr (h : Mine w0 w l v d n) (hA : Arr t w B O) (ht : t ≠ 9 ∧ t ≠ 64 ∧ t ≠ 67) (hB : w0.heap.size ≤ B) (i : Nat) (x : Value) : Mine w0 (w.setCell ⟨B, i, none⟩ x) l v d n := by
  have hD := h.disk
  have hne : ∀ k, k ≠ B → (w.setCell ⟨B, i, none⟩ x).heap[k]? = w.heap[k]? := fun k hk => Below.heap_setCell _ _ _ _ hk
  have e1 : l.p ≠ B := by intro e; have := hD.head; rw [e, hA] at this; simp at this; exact ht.2.1 this.2
  have e2 : l.b ≠ B := by intro e; have := hD.rowL; rw [e, hA] at this; simp at this; exact ht.1 this.2
  have e3 : l.c ≠ B := by intro e; have := hD.rowS; rw [e, hA] at this; simp at this; exact ht.1 this.2
  have e4 := hD.ne hA ht.2.2
  refine ⟨⟨(hne _ e1).trans hD.head, (hne _ e2).trans hD.rowL, (hne _ e3).trans hD.rowS, ownsRow_of hD.queue fun g hg => hne g (fun e => e4 (by rw [hg, e])), hD.apart, hD.len⟩, h.ok, h.len, ?_, h.atP, h.atB, h.atC, h.atV⟩
  exact h.below.setCell hB _
theorem Mine.belowed {w' : World} (h : Mine w0 w l v d n) (hb : Below w.heap.size w w') : Mine w0 w' l v d n :=
  ⟨h.disk.below hb, h.ok, h.len, h.below.trans (hb.mono h.below.size), h.atP, h.atB, h.atC, h.atV⟩
theorem Mine.drew (h : Mine w0 w l v d n) : Mine w0 w.drew l v d n := h.belowed ((Below.refl _ _).drew)
theorem Mine.alloc (h : Mine w0 w l v d n) (o : Obj) : Mine w0 (w.alloc o) l v d n := h.belowed ((Below.refl _ _).alloc (Nat.le_refl _) o)
end
end Go.Proofs.Ythomjcndaddbbaa
