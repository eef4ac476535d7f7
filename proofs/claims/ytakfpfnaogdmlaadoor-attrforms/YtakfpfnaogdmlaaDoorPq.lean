/-
  PutSet: the numbers of a Set; and made. No condition.
-/
import Derived.Test.YtakfpfnaogdmlaaDoorPp
namespace Go.Proofs.YtakfpfnaogdmlaaDoor.A
open Go.RowKit
set_option maxHeartbeats 2000000 in
theorem put_mo (h x y : Int) (B : Nat) (l : List Int) (v : Value) (w0 w : World) (hP : Pu B l v w0 w) (hl : l.length ≤ 1000) : Calls Tryd.prog 37 #[v, .int .i64 h, .agg #[.int .i64 x, .int .i64 y]] w fun r w' => ∃ v', r = .returned v' ∧ Pu B (l ++ moL h x y) v' w0 w' ∧ (∀ k, k < w.heap.size → some k ≠ v.ownBlock → w'.heap[k]? = w.heap[k]?) := by
  obtain ⟨o, n, c, rfl⟩ : ∃ o n c, v = .slice o n c := by
    obtain ⟨ao, cap, rfl, _⟩ := ints_of_own hP.own
    exact ⟨_, _, _, rfl⟩
  have HPW := Lib.hid (hP.keep ((Below.refl _ w).alloc (Nat.le_refl _) (.cells #[.int .i64 x, .int .i64 y] 39)))
  have c0 : (w.alloc (.cells #[.int .i64 x, .int .i64 y] 39)).cell? ⟨w.heap.size, 0, none⟩ = some (.int .i64 x) := by rw [cell_of_row _ _ 0 _ _ _ (heap_alloc_new w _)]; rfl
  have c1 : (w.alloc (.cells #[.int .i64 x, .int .i64 y] 39)).cell? ⟨w.heap.size, 1, none⟩ = some (.int .i64 y) := by rw [cell_of_row _ _ 1 _ _ _ (heap_alloc_new w _)]; rfl
  have HK0 : Hid (∀ k, k < w.heap.size → (w.alloc (.cells #[.int .i64 x, .int .i64 y] 39)).heap[k]? = w.heap[k]?) := Lib.hid (fun k hk => Below.heap_alloc _ _ _ hk)
  have hs : w.heap.size < (w.alloc (.cells #[.int .i64 x, .int .i64 y] 39)).heap.size := by simp
  clear hP
  by_cases hh : h = 2
  · have hb : (h == 2) = true := by simpa using hh
    have hm : moL h x y = [h, x, y] := by unfold moL; rw [if_pos hh]
    rw [hm]
    clear hh
    go_enter Tryd.func37, Tryd.ntmps37
    go_upto_region 3 with (fail)
    generalize w.alloc (.cells #[.int .i64 x, .int .i64 y] 39) = W at *
    go_wp2_with (refine list_app rfl _ _ rfl B _ l rfl (own_keep HPW.out.own ((Below.refl _ _).alloc (Nat.le_refl _) _)) (some ⟨W.heap.size, 0, none⟩) [h, x, y] 3 rfl (ints_row (t := 3) (fr := (0, 0)) [h, x, y] (heap_alloc_new W _)) (by simp; omega) (by simp; have := HPW.out.b; omega) ?_; intro v1 w1 hT1)
    have hP1 := (HPW.out.keep ((Below.refl _ W).alloc (Nat.le_refl _) (.cells #[.int .i64 h, .int .i64 x, .int .i64 y] 3))).app hT1
    have hK : ∀ k, k < w.heap.size → some k ≠ (Value.slice o n c).ownBlock → w1.heap[k]? = w.heap[k]? := fun k hk hv => (hT1.grown.block k (by simp; omega) hv).trans ((Below.heap_alloc _ _ _ (by omega)).trans (HK0.out k hk))
    have HP1 := Lib.hid hP1
    have HK := Lib.hid hK
    obtain ⟨o1, n1, c1, rfl⟩ : ∃ o n c, v1 = .slice o n c := by
      obtain ⟨ao, cap, e, _⟩ := ints_of_own hP1.own
      exact ⟨_, _, _, e⟩
    clear hP1 hT1 hK
    go_wp2
    go_ret
    exact ⟨_, rfl, HP1.out, HK.out⟩
  · have hb : (h == 2) = false := by simpa using hh
    have hm : moL h x y = [h] := by unfold moL; rw [if_neg hh]
    rw [hm]
    clear hh
    go_enter Tryd.func37, Tryd.ntmps37
    go_upto_region 2 with (fail)
    generalize w.alloc (.cells #[.int .i64 x, .int .i64 y] 39) = W at *
    go_wp2_with (refine list_app rfl _ _ rfl B _ l rfl (own_keep HPW.out.own ((Below.refl _ _).alloc (Nat.le_refl _) _)) (some ⟨W.heap.size, 0, none⟩) [h] 1 rfl (ints_row (t := 3) (fr := (0, 0)) [h] (heap_alloc_new W _)) (by simp; omega) (by simp; have := HPW.out.b; omega) ?_; intro v1 w1 hT1)
    have hP1 := (HPW.out.keep ((Below.refl _ W).alloc (Nat.le_refl _) (.cells #[.int .i64 h] 3))).app hT1
    have hK : ∀ k, k < w.heap.size → some k ≠ (Value.slice o n c).ownBlock → w1.heap[k]? = w.heap[k]? := fun k hk hv => (hT1.grown.block k (by simp; omega) hv).trans ((Below.heap_alloc _ _ _ (by omega)).trans (HK0.out k hk))
    have HP1 := Lib.hid hP1
    have HK := Lib.hid hK
    obtain ⟨o1, n1, c1, rfl⟩ : ∃ o n c, v1 = .slice o n c := by
      obtain ⟨ao, cap, e, _⟩ := ints_of_own hP1.own
      exact ⟨_, _, _, e⟩
    clear hP1 hT1 hK
    go_wp2
    go_ret
    exact ⟨_, rfl, HP1.out, HK.out⟩
/-- The numbers of a Set. -/
def putL (b0 b1 b2 b3 : Bool) (x0 x1 x2 x3 h0 h1 a0 a1 m0 m1 : Int) : List Int := ((((([] ++ peL b0 x0) ++ peL b1 x1) ++ peL b2 x2) ++ peL b3 x3) ++ moL h0 a0 a1) ++ moL h1 m0 m1
theorem pe_short (b : Bool) (x : Int) : (peL b x).length ≤ 2 := by unfold peL; split <;> simp
theorem mo_short (h x y : Int) : (moL h x y).length ≤ 3 := by unfold moL; split <;> simp
/-- The Set in its box, and the numbers that were put. -/
structure PS (B : Nat) (l : List Int) (v : Value) (S : Nat) (cs : Array Value) (w0 w : World) : Prop where
  p : Pu B l v w0 w
  s : SAt w S cs
theorem PS.go {B : Nat} {l q : List Int} {v v' : Value} {S : Nat} {cs : Array Value} {w0 w w' : World} (h : PS B l v S cs w0 w) (hP : Pu B q v' w0 w') (hk : ∀ k, k < w.heap.size → some k ≠ v.ownBlock → w'.heap[k]? = w.heap[k]?) : PS B q v' S cs w0 w' := by
  refine ⟨hP, (hk S h.s.lt ?_).trans h.s⟩
  intro e
  rcases h.p.own.2 with ⟨hv, _⟩ | ⟨g, cap, cur, hv, _, hg, _⟩
  · rw [hv] at e; cases e
  · rw [hv] at e
    have : S = g := by simpa [Value.ownBlock] using e
    subst this
    have := h.s.symm.trans hg
    injection this with this
    injection this with _ this
    cases this
theorem PS.cells {B : Nat} {l : List Int} {v : Value} {S : Nat} {b0 b1 b2 b3 : Bool} {x0 x1 x2 x3 h0 h1 a0 a1 m0 m1 : Int} {w0 w : World} (h : PS B l v S #[.bool b0, .bool b1, .bool b2, .bool b3, .int .i64 x0, .int .i64 x1, .int .i64 x2, .int .i64 x3, .int .i64 h0, .int .i64 h1, .int .i64 a0, .int .i64 a1, .int .i64 m0, .int .i64 m1] w0 w) : w.cell? ⟨S, 0, none⟩ = some (.bool b0) ∧ w.cell? ⟨S, 1, none⟩ = some (.bool b1) ∧ w.cell? ⟨S, 2, none⟩ = some (.bool b2) ∧ w.cell? ⟨S, 3, none⟩ = some (.bool b3) ∧ w.cell? ⟨S, 4, none⟩ = some (.int .i64 x0) ∧ w.cell? ⟨S, 5, none⟩ = some (.int .i64 x1) ∧ w.cell? ⟨S, 6, none⟩ = some (.int .i64 x2) ∧ w.cell? ⟨S, 7, none⟩ = some (.int .i64 x3) ∧ w.cell? ⟨S, 8, none⟩ = some (.int .i64 h0) ∧ w.cell? ⟨S, 9, none⟩ = some (.int .i64 h1) ∧ w.cell? ⟨S, 10, none⟩ = some (.int .i64 a0) ∧ w.cell? ⟨S, 11, none⟩ = some (.int .i64 a1) ∧ w.cell? ⟨S, 12, none⟩ = some (.int .i64 m0) ∧ w.cell? ⟨S, 13, none⟩ = some (.int .i64 m1) := by
  refine ⟨?_, ?_, ?_, ?_, ?_, ?_, ?_, ?_, ?_, ?_, ?_, ?_, ?_, ?_⟩ <;> (rw [cell_of_row w S _ _ _ _ h.s]; rfl)
set_option maxRecDepth 100000 in
set_option maxHeartbeats 4000000 in
theorem put_set (b0 b1 b2 b3 : Bool) (x0 x1 x2 x3 h0 h1 a0 a1 m0 m1 : Int) (w : World) : Calls Tryd.prog 13 #[.agg #[.bool b0, .bool b1, .bool b2, .bool b3, .int .i64 x0, .int .i64 x1, .int .i64 x2, .int .i64 x3, .int .i64 h0, .int .i64 h1, .int .i64 a0, .int .i64 a1, .int .i64 m0, .int .i64 m1]] w fun r w' => ∃ v', r = .returned v' ∧ Pu w.heap.size (putL b0 b1 b2 b3 x0 x1 x2 x3 h0 h1 a0 a1 m0 m1) v' w w' := by
  have HP0 : Hid (PS w.heap.size [] (.slice none 0 0) w.heap.size #[.bool b0, .bool b1, .bool b2, .bool b3, .int .i64 x0, .int .i64 x1, .int .i64 x2, .int .i64 x3, .int .i64 h0, .int .i64 h1, .int .i64 a0, .int .i64 a1, .int .i64 m0, .int .i64 m1] w (w.alloc (.cells #[.bool b0, .bool b1, .bool b2, .bool b3, .int .i64 x0, .int .i64 x1, .int .i64 x2, .int .i64 x3, .int .i64 h0, .int .i64 h1, .int .i64 a0, .int .i64 a1, .int .i64 m0, .int .i64 m1] 52))) := Lib.hid ⟨Pu.start w _ ((Below.refl _ _).alloc (Nat.le_refl _) _), SAt.new w _⟩
  obtain ⟨c0, c1, c2, c3, c4, c5, c6, c7, c8, c9, c10, c11, c12, c13⟩ := HP0.out.cells
  go_enter Tryd.func13, Tryd.ntmps13
  go_upto_region 2 with (fail)
  generalize w.alloc (.cells #[.bool b0, .bool b1, .bool b2, .bool b3, .int .i64 x0, .int .i64 x1, .int .i64 x2, .int .i64 x3, .int .i64 h0, .int .i64 h1, .int .i64 a0, .int .i64 a1, .int .i64 m0, .int .i64 m1] 52) = W at *
  generalize hB : w.heap.size = B at *
  have HB := Lib.hid hB
  clear hB
  go_wp2_with fail
  refine (put_pe b0 x0 B ([]) (.slice none 0 0) w W HP0.out.p (by simp)).mono ?_
  rintro r w1 ⟨v1, rfl, hp, hk⟩
  have HP1 := Lib.hid (HP0.out.go hp hk)
  clear hp hk c0 c1 c2 c3 c4 c5 c6 c7 c8 c9 c10 c11 c12 c13 HP0
  obtain ⟨c0, c1, c2, c3, c4, c5, c6, c7, c8, c9, c10, c11, c12, c13⟩ := HP1.out.cells
  go_wp2_with fail
  refine (put_pe b1 x1 B ([] ++ peL b0 x0) v1 w w1 HP1.out.p (by have := pe_short b0 x0; simp; omega)).mono ?_
  rintro r w2 ⟨v2, rfl, hp, hk⟩
  have HP2 := Lib.hid (HP1.out.go hp hk)
  clear hp hk c0 c1 c2 c3 c4 c5 c6 c7 c8 c9 c10 c11 c12 c13 HP1
  obtain ⟨c0, c1, c2, c3, c4, c5, c6, c7, c8, c9, c10, c11, c12, c13⟩ := HP2.out.cells
  go_wp2_with fail
  refine (put_pe b2 x2 B (([] ++ peL b0 x0 ++ peL b1 x1)) v2 w w2 HP2.out.p (by have := pe_short b0 x0; have := pe_short b1 x1; simp; omega)).mono ?_
  rintro r w3 ⟨v3, rfl, hp, hk⟩
  have HP3 := Lib.hid (HP2.out.go hp hk)
  clear hp hk c0 c1 c2 c3 c4 c5 c6 c7 c8 c9 c10 c11 c12 c13 HP2
  obtain ⟨c0, c1, c2, c3, c4, c5, c6, c7, c8, c9, c10, c11, c12, c13⟩ := HP3.out.cells
  go_wp2_with fail
  refine (put_pe b3 x3 B ((([] ++ peL b0 x0 ++ peL b1 x1) ++ peL b2 x2)) v3 w w3 HP3.out.p (by have := pe_short b0 x0; have := pe_short b1 x1; have := pe_short b2 x2; simp; omega)).mono ?_
  rintro r w4 ⟨v4, rfl, hp, hk⟩
  have HP4 := Lib.hid (HP3.out.go hp hk)
  clear hp hk c0 c1 c2 c3 c4 c5 c6 c7 c8 c9 c10 c11 c12 c13 HP3
  obtain ⟨c0, c1, c2, c3, c4, c5, c6, c7, c8, c9, c10, c11, c12, c13⟩ := HP4.out.cells
  go_wp2_with fail
  refine (put_mo h0 a0 a1 B (((([] ++ peL b0 x0 ++ peL b1 x1) ++ peL b2 x2) ++ peL b3 x3)) v4 w w4 HP4.out.p (by have := pe_short b0 x0; have := pe_short b1 x1; have := pe_short b2 x2; have := pe_short b3 x3; simp; omega)).mono ?_
  rintro r w5 ⟨v5, rfl, hp, hk⟩
  have HP5 := Lib.hid (HP4.out.go hp hk)
  clear hp hk c0 c1 c2 c3 c4 c5 c6 c7 c8 c9 c10 c11 c12 c13 HP4
  obtain ⟨c0, c1, c2, c3, c4, c5, c6, c7, c8, c9, c10, c11, c12, c13⟩ := HP5.out.cells
  go_wp2_with fail
  refine (put_mo h1 m0 m1 B ((((([] ++ peL b0 x0 ++ peL b1 x1) ++ peL b2 x2) ++ peL b3 x3) ++ moL h0 a0 a1)) v5 w w5 HP5.out.p (by have := pe_short b0 x0; have := pe_short b1 x1; have := pe_short b2 x2; have := pe_short b3 x3; have := mo_short h0 a0 a1; simp; omega)).mono ?_
  rintro r w6 ⟨v6, rfl, hp, hk⟩
  have HP6 := Lib.hid (HP5.out.go hp hk)
  clear hp hk c0 c1 c2 c3 c4 c5 c6 c7 c8 c9 c10 c11 c12 c13 HP5
  obtain ⟨o1, n1, c1, rfl⟩ : ∃ o n c, v6 = .slice o n c := by
    obtain ⟨ao, cap, e, _⟩ := ints_of_own HP6.out.p.own
    exact ⟨_, _, _, e⟩
  go_wp2
  go_ret
  exact ⟨_, rfl, by rw [← HB.out]; exact HB.out ▸ HP6.out.p⟩
set_option maxRecDepth 100000 in
set_option maxHeartbeats 4000000 in
theorem made_any (b0 b1 b2 b3 : Bool) (x0 x1 x2 x3 h0 h1 a0 a1 m0 m1 : Int) (w : World) : Calls Tryd.prog 14 #[.agg #[.bool b0, .bool b1, .bool b2, .bool b3, .int .i64 x0, .int .i64 x1, .int .i64 x2, .int .i64 x3, .int .i64 h0, .int .i64 h1, .int .i64 a0, .int .i64 a1, .int .i64 m0, .int .i64 m1]] w fun r w' => r = .returned (.agg #[.bool b0, .bool b1, .bool b2, .bool b3, .int .i64 x0, .int .i64 x1, .int .i64 x2, .int .i64 x3, .int .i64 h0, .int .i64 h1, .int .i64 a0, .int .i64 a1, .int .i64 m0, .int .i64 m1]) ∧ Below w.heap.size w w' := by
  have hX := heap_alloc_new w (.cells #[.bool b0, .bool b1, .bool b2, .bool b3, .int .i64 x0, .int .i64 x1, .int .i64 x2, .int .i64 x3, .int .i64 h0, .int .i64 h1, .int .i64 a0, .int .i64 a1, .int .i64 m0, .int .i64 m1] 49)
  have HB := Lib.hid ((Below.refl w.heap.size w).alloc (Nat.le_refl _) (.cells #[.bool b0, .bool b1, .bool b2, .bool b3, .int .i64 x0, .int .i64 x1, .int .i64 x2, .int .i64 x3, .int .i64 h0, .int .i64 h1, .int .i64 a0, .int .i64 a1, .int .i64 m0, .int .i64 m1] 49))
  go_enter Tryd.func14, Tryd.ntmps14
  go_upto_region 1 with (fail)
  have hY := Below.heap_alloc (w.alloc (.cells #[.bool b0, .bool b1, .bool b2, .bool b3, .int .i64 x0, .int .i64 x1, .int .i64 x2, .int .i64 x3, .int .i64 h0, .int .i64 h1, .int .i64 a0, .int .i64 a1, .int .i64 m0, .int .i64 m1] 49)) (.cells #[.bool false, .bool false, .bool false, .bool false, .int .i64 0, .int .i64 0, .int .i64 0, .int .i64 0, .int .i64 0, .int .i64 0, .int .i64 0, .int .i64 0, .int .i64 0, .int .i64 0] 52) w.heap.size (by simp)
  have hx := hY.trans hX
  have HB2 := Lib.hid (HB.out.alloc (by simp) (.cells #[.bool false, .bool false, .bool false, .bool false, .int .i64 0, .int .i64 0, .int .i64 0, .int .i64 0, .int .i64 0, .int .i64 0, .int .i64 0, .int .i64 0, .int .i64 0, .int .i64 0] 52))
  have HS := Lib.hid (SAt.new (w.alloc (.cells #[.bool b0, .bool b1, .bool b2, .bool b3, .int .i64 x0, .int .i64 x1, .int .i64 x2, .int .i64 x3, .int .i64 h0, .int .i64 h1, .int .i64 a0, .int .i64 a1, .int .i64 m0, .int .i64 m1] 49)) #[.bool false, .bool false, .bool false, .bool false, .int .i64 0, .int .i64 0, .int .i64 0, .int .i64 0, .int .i64 0, .int .i64 0, .int .i64 0, .int .i64 0, .int .i64 0, .int .i64 0])
  rw [show (w.alloc (.cells #[.bool b0, .bool b1, .bool b2, .bool b3, .int .i64 x0, .int .i64 x1, .int .i64 x2, .int .i64 x3, .int .i64 h0, .int .i64 h1, .int .i64 a0, .int .i64 a1, .int .i64 m0, .int .i64 m1] 49)).heap.size = w.heap.size + 1 from by simp] at HS
  clear hX hY HB
  generalize (w.alloc (.cells #[.bool b0, .bool b1, .bool b2, .bool b3, .int .i64 x0, .int .i64 x1, .int .i64 x2, .int .i64 x3, .int .i64 h0, .int .i64 h1, .int .i64 a0, .int .i64 a1, .int .i64 m0, .int .i64 m1] 49)).alloc (.cells #[.bool false, .bool false, .bool false, .bool false, .int .i64 0, .int .i64 0, .int .i64 0, .int .i64 0, .int .i64 0, .int .i64 0, .int .i64 0, .int .i64 0, .int .i64 0, .int .i64 0] 52) = W at *
  obtain ⟨c0, c1, c2, c3, c4, c5, c6, c7, c8, c9, c10, c11, c12, c13⟩ : W.cell? ⟨w.heap.size, 0, none⟩ = some (.bool b0) ∧ W.cell? ⟨w.heap.size, 1, none⟩ = some (.bool b1) ∧ W.cell? ⟨w.heap.size, 2, none⟩ = some (.bool b2) ∧ W.cell? ⟨w.heap.size, 3, none⟩ = some (.bool b3) ∧ W.cell? ⟨w.heap.size, 4, none⟩ = some (.int .i64 x0) ∧ W.cell? ⟨w.heap.size, 5, none⟩ = some (.int .i64 x1) ∧ W.cell? ⟨w.heap.size, 6, none⟩ = some (.int .i64 x2) ∧ W.cell? ⟨w.heap.size, 7, none⟩ = some (.int .i64 x3) ∧ W.cell? ⟨w.heap.size, 8, none⟩ = some (.int .i64 h0) ∧ W.cell? ⟨w.heap.size, 9, none⟩ = some (.int .i64 h1) ∧ W.cell? ⟨w.heap.size, 10, none⟩ = some (.int .i64 a0) ∧ W.cell? ⟨w.heap.size, 11, none⟩ = some (.int .i64 a1) ∧ W.cell? ⟨w.heap.size, 12, none⟩ = some (.int .i64 m0) ∧ W.cell? ⟨w.heap.size, 13, none⟩ = some (.int .i64 m1) := by
    refine ⟨?_, ?_, ?_, ?_, ?_, ?_, ?_, ?_, ?_, ?_, ?_, ?_, ?_, ?_⟩ <;> (rw [cell_of_row W w.heap.size _ _ _ _ hx]; rfl)
  clear hx
  have hle : w.heap.size ≤ w.heap.size + 1 := by omega
  generalize w.heap.size + 1 = S at *
  go_wp2_with (refine wpList_store_row rfl 52 _ _ rfl S #[.bool b0, .bool b1, .bool b2, .bool b3, .int .i64 x0, .int .i64 x1, .int .i64 x2, .int .i64 x3, .int .i64 h0, .int .i64 h1, .int .i64 a0, .int .i64 a1, .int .i64 m0, .int .i64 m1] rfl rfl 52 _ HS.out (by kernel_rfl) rfl (by simp [Value.oneCell']) ?_)
  have HR := Lib.hid (HS.out.set #[.bool b0, .bool b1, .bool b2, .bool b3, .int .i64 x0, .int .i64 x1, .int .i64 x2, .int .i64 x3, .int .i64 h0, .int .i64 h1, .int .i64 a0, .int .i64 a1, .int .i64 m0, .int .i64 m1])
  have HF := Lib.hid ((set_row_fq' W S #[.bool b0, .bool b1, .bool b2, .bool b3, .int .i64 x0, .int .i64 x1, .int .i64 x2, .int .i64 x3, .int .i64 h0, .int .i64 h1, .int .i64 a0, .int .i64 a1, .int .i64 m0, .int .i64 m1]).below HB2.out hle HB2.out.size)
  clear HS HB2 c0 c1 c2 c3 c4 c5 c6 c7 c8 c9 c10 c11 c12 c13
  generalize W.setRow S #[.bool b0, .bool b1, .bool b2, .bool b3, .int .i64 x0, .int .i64 x1, .int .i64 x2, .int .i64 x3, .int .i64 h0, .int .i64 h1, .int .i64 a0, .int .i64 a1, .int .i64 m0, .int .i64 m1] = W2 at *
  go_wp2
  refine bodyPost_ret (results_cell_row (by rfl) _ _ S 52 _ (0, 0) _ (by rfl) HR.out Tryd.underlying52 (by rfl) (by kernel_rfl)) rfl ⟨rfl, HF.out⟩
end Go.Proofs.YtakfpfnaogdmlaaDoor.A
