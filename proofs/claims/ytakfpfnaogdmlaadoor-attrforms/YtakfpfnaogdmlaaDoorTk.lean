/-
  A taker in memory, and what its calls take. Its condition: the numbers lie in memory.
-/
import Derived.Test.YtakfpfnaogdmlaaDoorAp
namespace Go.Proofs.YtakfpfnaogdmlaaDoor.A
open Go.RowKit
/-- What is thrown. -/
abbrev Refused : Ending := .panicked [{ v := .iface 115 (.agg #[]), recovered := false }]
/-- Numbers in the blocks below N. -/
def IntsB (w : World) (N : Nat) (ao : Option Addr) (L : List Int) : Prop := ∀ i (_ : i < L.length), ∃ g off, ao = some ⟨g, off, none⟩ ∧ g < N ∧ w.cell? ⟨g, off + i, none⟩ = some (.int .i64 L[i])
/-- Block p and new ones alone have turned. -/
structure Fq (p : Nat) (w w' : World) : Prop where
  os : w'.os = w.os
  tape : w'.tape = w.tape
  output : w'.output = w.output
  size : w.heap.size ≤ w'.heap.size
  block : ∀ k, k < w.heap.size → k ≠ p → w'.heap[k]? = w.heap[k]?
theorem Fq.trans {q : Nat} {a b c : World} (h : Fq q a b) (k : Fq q b c) : Fq q a c :=
  ⟨k.os.trans h.os, k.tape.trans h.tape, k.output.trans h.output, Nat.le_trans h.size k.size, fun i hi hq => (k.block i (Nat.lt_of_lt_of_le hi h.size) hq).trans (h.block i hi hq)⟩
theorem Fq.refl (q : Nat) (w : World) : Fq q w w := ⟨rfl, rfl, rfl, Nat.le_refl _, fun _ _ _ => rfl⟩
theorem Fq.set (p : Nat) (w : World) (o : Nat) (u : Value) : Fq p w (w.setCell ⟨p, o, none⟩ u) :=
  ⟨rfl, rfl, rfl, by simp [World.setCell], fun k _ hk => Below.heap_setCell _ _ _ _ hk⟩
theorem Fq.ofBelow {p : Nat} {w w' : World} (h : Below w.heap.size w w') : Fq p w w' := ⟨h.os, h.tape, h.output, h.size, fun k hk _ => h.block k hk⟩
theorem Fq.below {p N : Nat} {w0 w w' : World} (hF : Fq p w w') (h : Below N w0 w) (hp : N ≤ p) (hN : N ≤ w.heap.size) : Below N w0 w' :=
  ⟨hF.os.trans h.os, hF.tape.trans h.tape, hF.output.trans h.output, Nat.le_trans h.size hF.size, fun k hk => (hF.block k (by omega) (by omega)).trans (h.block k hk)⟩
/-- The taker in block p has the numbers L left, which lie below N; what lay there is as in w0. -/
structure TF (N p : Nat) (L : List Int) (w0 w : World) : Prop where
  hp : N ≤ p
  hN : N ≤ w.heap.size
  box : ∃ ao cap, w.heap[p]? = some (.cells #[.slice ao L.length cap] 100 (0, 0)) ∧ IntsB w N ao L ∧ L.length ≤ cap ∧ cap ≤ 9223372036854775807
  low : Below N w0 w
theorem TF.lt {N p : Nat} {L : List Int} {w0 w : World} (h : TF N p L w0 w) : p < w.heap.size := by
  obtain ⟨ao, cap, h1, _⟩ := h.box
  exact (Array.getElem?_eq_some_iff.1 h1).1
theorem IntsB.far {w w' : World} {N p : Nat} {ao : Option Addr} {L : List Int} (h : IntsB w N ao L) (hF : Fq p w w') (hp : N ≤ p) (hN : N ≤ w.heap.size) : IntsB w' N ao L := by
  intro i hi
  obtain ⟨g, off, e1, e2, e3⟩ := h i hi
  exact ⟨g, off, e1, e2, (World.cell?_of_block (a := ⟨g, off + i, none⟩) (hF.block g (by omega) (by omega))).trans e3⟩
/-- What makes new blocks, or turns a block of its own behind N, leaves the taker. -/
theorem TF.keep {N p q : Nat} {L : List Int} {w0 w w' : World} (h : TF N p L w0 w) (hF : Fq q w w') (hq : N ≤ q) (hqp : q ≠ p) : TF N p L w0 w' := by
  have hlt := h.lt
  obtain ⟨ao, cap, h1, h2, h3⟩ := h.box
  exact ⟨h.hp, Nat.le_trans h.hN hF.size, ⟨ao, cap, (hF.block p hlt (fun e => hqp e.symm)).trans h1, h2.far hF hq h.hN, h3⟩, hF.below h.low hq h.hN⟩
theorem TF.alloc {N p : Nat} {L : List Int} {w0 w : World} (h : TF N p L w0 w) (o : Obj) : TF N p L w0 (w.alloc o) :=
  h.keep (q := p + 1) (Fq.ofBelow ((Below.refl _ _).alloc (Nat.le_refl _) o)) (by have := h.hp; omega) (by omega)
theorem one_set {w : World} {p : Nat} {x u : Value} {t : TypeId} (h : w.heap[p]? = some (.cells #[x] t (0, 0))) : (w.setCell ⟨p, 0, none⟩ u).heap[p]? = some (.cells #[u] t (0, 0)) := by
  simp [World.setCell, Array.getElem?_modify, h]

set_option maxHeartbeats 1000000 in
theorem number_no {N p : Nat} {w0 w : World} (h : TF N p [] w0 w) : Calls Tryd.prog 50 #[.pointer (some ⟨p, 0, none⟩)] w fun r w' => r = Refused ∧ w = w' := by
  obtain ⟨ao, cap, h1, _, _⟩ := h.box
  have c0 : w.cell? ⟨p, 0, none⟩ = some (.slice ao 0 cap) := by rw [cell_of_row w p 0 _ _ _ h1]; rfl
  clear h1
  go_enter Tryd.func50, Tryd.ntmps50
  go_wp2
  exact ⟨rfl, rfl, rfl⟩
set_option maxHeartbeats 1000000 in
theorem number_ok {N p : Nat} {x : Int} {L : List Int} {w0 w : World} (h : TF N p (x :: L) w0 w) : Calls Tryd.prog 50 #[.pointer (some ⟨p, 0, none⟩)] w fun r w' => r = .returned (.int .i64 x) ∧ TF N p L w0 w' ∧ Fq p w w' := by
  have HH := Lib.hid h
  obtain ⟨ao, cap, h1, h2, h3, h4⟩ := h.box
  clear h
  obtain ⟨g, off, rfl, hg, hc⟩ := h2 0 (by simp)
  have c0 : w.cell? ⟨p, 0, none⟩ = some (.slice (some ⟨g, off, none⟩) (L.length + 1) cap) := by rw [cell_of_row w p 0 _ _ _ h1]; rfl
  have f0 := Lib.frozen_of_heap h1 0
  have hc' : w.cell? ⟨g, off, none⟩ = some (.int .i64 x) := hc
  have H1 := Lib.hid h1
  have H2 := Lib.hid h2
  have h3' : L.length + 1 ≤ cap := h3
  clear h1 h2 hc h3
  have hres : ∀ o2 c2, L.length ≤ c2 → c2 ≤ 9223372036854775807 → (L = [] ∨ o2 = off + 1) → TF N p L w0 (w.setCell ⟨p, 0, none⟩ (.slice (some ⟨g, o2, none⟩) L.length c2)) ∧ Fq p w (w.setCell ⟨p, 0, none⟩ (.slice (some ⟨g, o2, none⟩) L.length c2)) := by
    intro o2 c2 hc2 hc3 ho
    have hF := Fq.set p w 0 (.slice (some ⟨g, o2, none⟩) L.length c2)
    refine ⟨⟨HH.out.hp, by simpa [World.setCell] using HH.out.hN, ⟨some ⟨g, o2, none⟩, c2, one_set H1.out, ?_, hc2, hc3⟩, hF.below HH.out.low HH.out.hp HH.out.hN⟩, hF⟩
    have hI := H2.out.far hF HH.out.hp HH.out.hN
    intro i hi
    rcases ho with rfl | rfl
    · simp at hi
    · obtain ⟨g', off', e1, e2, e3⟩ := hI (i + 1) (by simpa using hi)
      injection e1 with e1
      injection e1 with e1 e4 _
      subst e1 e4
      exact ⟨g, off + 1, rfl, e2, by rw [show off + 1 + i = off + (i + 1) by omega, e3]; simp⟩
  have HR := Lib.hid hres
  clear hres
  have q1 : ¬ ((L.length : Int) + 1 = 0) := by omega
  go_enter Tryd.func50, Tryd.ntmps50
  go_wp2
  all_goals go_ret
  · exact ⟨rfl, HR.out off 0 (by omega) (by omega) (.inl (List.eq_nil_of_length_eq_zero (by omega)))⟩
  · exact ⟨rfl, HR.out (off + 1) (cap - 1) (by omega) (by omega) (.inr rfl)⟩
/-- The taker, and a box of two beside it. -/
structure T2 (N p b : Nat) (L : List Int) (w0 w1 w : World) : Prop where
  tf : TF N p L w0 w
  f : Fq p w1 w
  c : w.heap[b]? = some (.cells #[.int .i64 0, .int .i64 0] 39 (0, 0))
  hb : b ≠ p
theorem number_2 {N p b : Nat} {x : Int} {L : List Int} {w0 w1 w : World} (h : T2 N p b (x :: L) w0 w1 w) : Calls Tryd.prog 50 #[.pointer (some ⟨p, 0, none⟩)] w fun r w' => r = .returned (.int .i64 x) ∧ T2 N p b L w0 w1 w' :=
  (number_ok h.tf).mono fun _ _ ⟨a, k, f⟩ => ⟨a, k, h.f.trans f, (f.block b (Array.getElem?_eq_some_iff.1 h.c).1 h.hb).trans h.c, h.hb⟩
theorem T2.start {N p : Nat} {L : List Int} {w0 w : World} (h : TF N p L w0 w) : T2 N p w.heap.size L w0 (w.alloc (.cells #[.int .i64 0, .int .i64 0] 39)) (w.alloc (.cells #[.int .i64 0, .int .i64 0] 39)) :=
  ⟨h.alloc _, Fq.refl _ _, heap_alloc_new w _, by have := h.lt; omega⟩
set_option maxHeartbeats 1000000 in
theorem time_no0 {N p : Nat} {w0 w : World} (h : TF N p [] w0 w) : Calls Tryd.prog 51 #[.pointer (some ⟨p, 0, none⟩)] w fun r w' => r = Refused ∧ Fq p w w' := by
  have HT := Lib.hid (T2.start h)
  clear h
  go_enter Tryd.func51, Tryd.ntmps51
  go_wp2_with fail
  have HW : Hid (Fq p w (w.alloc (.cells #[.int .i64 0, .int .i64 0] 39))) := Lib.hid (Fq.ofBelow ((Below.refl _ _).alloc (Nat.le_refl _) _))
  generalize w.alloc (.cells #[.int .i64 0, .int .i64 0] 39) = W at *
  refine (number_no HT.out.tf).mono ?_
  rintro r w' ⟨rfl, rfl⟩
  go_wp2
  exact ⟨rfl, rfl, HW.out⟩
set_option maxHeartbeats 1000000 in
theorem time_no1 {N p : Nat} {x : Int} {w0 w : World} (h : TF N p [x] w0 w) : Calls Tryd.prog 51 #[.pointer (some ⟨p, 0, none⟩)] w fun r w' => r = Refused ∧ Fq p w w' := by
  have HT := Lib.hid (T2.start h)
  clear h
  go_enter Tryd.func51, Tryd.ntmps51
  go_wp2_with fail
  have HW : Hid (Fq p w (w.alloc (.cells #[.int .i64 0, .int .i64 0] 39))) := Lib.hid (Fq.ofBelow ((Below.refl _ _).alloc (Nat.le_refl _) _))
  generalize w.alloc (.cells #[.int .i64 0, .int .i64 0] 39) = W at *
  refine (number_2 HT.out).mono ?_
  rintro r w1 ⟨rfl, h1⟩
  have H1 := Lib.hid h1
  clear h1
  go_wp2_with fail
  refine (number_no H1.out.tf).mono ?_
  rintro r w' ⟨rfl, rfl⟩
  go_wp2
  exact ⟨rfl, rfl, HW.out.trans H1.out.f⟩
theorem T2.done {N p b : Nat} {L : List Int} {w0 w1 w : World} (h : T2 N p b L w0 w1 w) (hNb : N ≤ b) (x y : Int) : TF N p L w0 ((w.setCell ⟨b, 0, none⟩ (.int .i64 x)).setCell ⟨b, 1, none⟩ (.int .i64 y)) ∧
    ((w.setCell ⟨b, 0, none⟩ (.int .i64 x)).setCell ⟨b, 1, none⟩ (.int .i64 y)).heap[b]? = some (.cells #[.int .i64 x, .int .i64 y] 39 (0, 0)) ∧ Fq b w ((w.setCell ⟨b, 0, none⟩ (.int .i64 x)).setCell ⟨b, 1, none⟩ (.int .i64 y)) := by
  have hF := (Fq.set b w 0 (.int .i64 x)).trans (Fq.set b _ 1 (.int .i64 y))
  exact ⟨h.tf.keep hF hNb h.hb, by simp [World.setCell, Array.getElem?_modify, h.c], hF⟩
set_option maxHeartbeats 1000000 in
theorem time_ok {N p : Nat} {x y : Int} {L : List Int} {w0 w : World} (h : TF N p (x :: y :: L) w0 w) : Calls Tryd.prog 51 #[.pointer (some ⟨p, 0, none⟩)] w fun r w' => r = .returned (.agg #[.int .i64 x, .int .i64 y]) ∧ TF N p L w0 w' ∧ Fq p w w' := by
  have HT := Lib.hid (T2.start h)
  have hN := h.hN
  clear h
  go_enter Tryd.func51, Tryd.ntmps51
  go_wp2_with fail
  have HW : Hid (Fq p w (w.alloc (.cells #[.int .i64 0, .int .i64 0] 39))) := Lib.hid (Fq.ofBelow ((Below.refl _ _).alloc (Nat.le_refl _) _))
  generalize w.alloc (.cells #[.int .i64 0, .int .i64 0] 39) = W at *
  refine (number_2 HT.out).mono ?_
  rintro r w1 ⟨rfl, h1⟩
  have H1 := Lib.hid h1
  clear h1 HT
  go_wp2_with fail
  refine (number_2 H1.out).mono ?_
  rintro r w2 ⟨rfl, h2⟩
  have H2 := Lib.hid h2
  have c0 : w2.cell? ⟨w.heap.size, 0, none⟩ = some (.int .i64 0) := by rw [cell_of_row _ _ 0 _ _ _ h2.c]; rfl
  have c1 : w2.cell? ⟨w.heap.size, 1, none⟩ = some (.int .i64 0) := by rw [cell_of_row _ _ 1 _ _ _ h2.c]; rfl
  have f0 := Lib.frozen_of_heap h2.c 0
  have f1 := Lib.frozen_of_heap h2.c 1
  clear h2 H1
  obtain ⟨d1, d2, d3⟩ := H2.out.done hN x y
  have D1 := Lib.hid d1
  have D2 := Lib.hid d2
  have D3 := Lib.hid d3
  clear d1 d2 d3
  go_wp2
  refine bodyPost_ret (results_cell_row (by rfl) _ _ w.heap.size 39 _ (0, 0) _ (by rfl) D2.out Tryd.underlying39 (by rfl) (by kernel_rfl)) rfl ⟨rfl, D1.out, ?_⟩
  refine ⟨D3.out.os.trans (H2.out.f.os.trans HW.out.os), D3.out.tape.trans (H2.out.f.tape.trans HW.out.tape), D3.out.output.trans (H2.out.f.output.trans HW.out.output), Nat.le_trans HW.out.size (Nat.le_trans H2.out.f.size D3.out.size), fun k hk hp => ?_⟩
  exact (D3.out.block k (Nat.lt_of_lt_of_le hk (Nat.le_trans HW.out.size H2.out.f.size)) (by omega)).trans ((H2.out.f.block k (Nat.lt_of_lt_of_le hk HW.out.size) hp).trans (HW.out.block k hk hp))
end Go.Proofs.YtakfpfnaogdmlaaDoor.A
