/-
  The document's Put answers as PutSet does. No condition.
-/
import Derived.Test.YtedcgmagkkoggaaPq
namespace Go.Proofs.Ytedcgmagkkoggaa
open Go.RowKit
/-- The document's Set in its box, and the numbers that were put. -/
structure PR (B : Nat) (l : List Int) (v : Value) (S : Nat) (b0 b1 b2 b3 : Bool) (x0 x1 x2 x3 h0 h1 a0 a1 m0 m1 : Int) (w0 w : World) : Prop where
  p : Pu B l v w0 w
  s : w.heap[S]? = some (.cells #[.bool b0, .bool b1, .bool b2, .bool b3, .int .i64 x0, .int .i64 x1, .int .i64 x2, .int .i64 x3, .int .i64 h0, .int .i64 h1, .int .i64 a0, .int .i64 a1, .int .i64 m0, .int .i64 m1] 40 (0, 0))
theorem PR.app {B : Nat} {l : List Int} {v v' : Value} {S : Nat} {b0 b1 b2 b3 : Bool} {x0 x1 x2 x3 h0 h1 a0 a1 m0 m1 : Int} {w0 w w' : World} {x : Int} (h : PR B l v S b0 b1 b2 b3 x0 x1 x2 x3 h0 h1 a0 a1 m0 m1 w0 w) (hT : AppTo B (w.alloc (.cells #[.int .i64 x] 3)) v (l ++ [x]) v' w') : PR B (l ++ [x]) v' S b0 b1 b2 b3 x0 x1 x2 x3 h0 h1 a0 a1 m0 m1 w0 w' := by
  have hlt := (Array.getElem?_eq_some_iff.1 h.s).1
  refine ⟨(h.p.keep ((Below.refl _ w).alloc (Nat.le_refl _) _)).app hT, ((hT.grown.block S (by simp; omega) ?_).trans (Below.heap_alloc _ _ _ hlt)).trans h.s⟩
  intro e
  rcases h.p.own.2 with ⟨hv, _⟩ | ⟨g, cap, cur, hv, _, hg, _⟩
  · rw [hv] at e; cases e
  · rw [hv] at e
    have : S = g := by simpa [Value.ownBlock] using e
    subst this
    have := h.s.symm.trans hg
    injection this with this
    injection this with _ this
    cases this
theorem PR.form {B : Nat} {l : List Int} {v : Value} {S : Nat} {b0 b1 b2 b3 : Bool} {x0 x1 x2 x3 h0 h1 a0 a1 m0 m1 : Int} {w0 w : World} (h : PR B l v S b0 b1 b2 b3 x0 x1 x2 x3 h0 h1 a0 a1 m0 m1 w0 w) : ∃ o n c, v = .slice o n c := by
  obtain ⟨ao, cap, e, _⟩ := ints_of_own h.p.own
  exact ⟨_, _, _, e⟩
theorem PR.cells {B : Nat} {l : List Int} {v : Value} {S : Nat} {b0 b1 b2 b3 : Bool} {x0 x1 x2 x3 h0 h1 a0 a1 m0 m1 : Int} {w0 w : World} (h : PR B l v S b0 b1 b2 b3 x0 x1 x2 x3 h0 h1 a0 a1 m0 m1 w0 w) : w.cell? ⟨S, 0, none⟩ = some (.bool b0) ∧ w.cell? ⟨S, 1, none⟩ = some (.bool b1) ∧ w.cell? ⟨S, 2, none⟩ = some (.bool b2) ∧ w.cell? ⟨S, 3, none⟩ = some (.bool b3) ∧ w.cell? ⟨S, 4, none⟩ = some (.int .i64 x0) ∧ w.cell? ⟨S, 5, none⟩ = some (.int .i64 x1) ∧ w.cell? ⟨S, 6, none⟩ = some (.int .i64 x2) ∧ w.cell? ⟨S, 7, none⟩ = some (.int .i64 x3) ∧ w.cell? ⟨S, 8, none⟩ = some (.int .i64 h0) ∧ w.cell? ⟨S, 9, none⟩ = some (.int .i64 h1) ∧ w.cell? ⟨S, 10, none⟩ = some (.int .i64 a0) ∧ w.cell? ⟨S, 11, none⟩ = some (.int .i64 a1) ∧ w.cell? ⟨S, 12, none⟩ = some (.int .i64 m0) ∧ w.cell? ⟨S, 13, none⟩ = some (.int .i64 m1) := by
  refine ⟨?_, ?_, ?_, ?_, ?_, ?_, ?_, ?_, ?_, ?_, ?_, ?_, ?_, ?_⟩ <;> (rw [cell_of_row w S _ _ _ _ h.s]; rfl)
theorem PR.as {B : Nat} {l q : List Int} {v : Value} {S : Nat} {b0 b1 b2 b3 : Bool} {x0 x1 x2 x3 h0 h1 a0 a1 m0 m1 : Int} {w0 w : World} (h : PR B l v S b0 b1 b2 b3 x0 x1 x2 x3 h0 h1 a0 a1 m0 m1 w0 w) (e : l = q) : PR B q v S b0 b1 b2 b3 x0 x1 x2 x3 h0 h1 a0 a1 m0 m1 w0 w := e ▸ h
theorem PR.own' {B : Nat} {l : List Int} {v : Value} {S : Nat} {b0 b1 b2 b3 : Bool} {x0 x1 x2 x3 h0 h1 a0 a1 m0 m1 : Int} {w0 w : World} (h : PR B l v S b0 b1 b2 b3 x0 x1 x2 x3 h0 h1 a0 a1 m0 m1 w0 w) (o : Obj) : (w.alloc o).ownsRow B 3 1 v l.length (ints l) ∧ B ≤ (w.alloc o).heap.size :=
  ⟨own_keep h.p.own ((Below.refl _ _).alloc (Nat.le_refl _) _), by simp; have := h.p.b; omega⟩
set_option maxRecDepth 100000 in
set_option maxHeartbeats 4000000 in
theorem refput_any (b0 b1 b2 b3 : Bool) (x0 x1 x2 x3 h0 h1 a0 a1 m0 m1 : Int) (w : World) : Calls Try.prog 14 #[.agg #[.bool b0, .bool b1, .bool b2, .bool b3, .int .i64 x0, .int .i64 x1, .int .i64 x2, .int .i64 x3, .int .i64 h0, .int .i64 h1, .int .i64 a0, .int .i64 a1, .int .i64 m0, .int .i64 m1]] w fun r w' => ∃ v', r = .returned v' ∧ Pu w.heap.size (putL b0 b1 b2 b3 x0 x1 x2 x3 h0 h1 a0 a1 m0 m1) v' w w' := by
  have s0 := pe_short b0 x0
  have s1 := pe_short b1 x1
  have s2 := pe_short b2 x2
  have s3 := pe_short b3 x3
  have s4 := mo_short h0 a0 a1
  have HL : Hid ((peL b0 x0).length ≤ 2 ∧ (peL b1 x1).length ≤ 2 ∧ (peL b2 x2).length ≤ 2 ∧ (peL b3 x3).length ≤ 2 ∧ (moL h0 a0 a1).length ≤ 3) := Lib.hid ⟨s0, s1, s2, s3, s4⟩
  clear s0 s1 s2 s3 s4
  have HP0 : Hid (PR w.heap.size [] (.slice none 0 0) w.heap.size b0 b1 b2 b3 x0 x1 x2 x3 h0 h1 a0 a1 m0 m1 w (w.alloc (.cells #[.bool b0, .bool b1, .bool b2, .bool b3, .int .i64 x0, .int .i64 x1, .int .i64 x2, .int .i64 x3, .int .i64 h0, .int .i64 h1, .int .i64 a0, .int .i64 a1, .int .i64 m0, .int .i64 m1] 40))) := Lib.hid ⟨Pu.start w _ ((Below.refl _ _).alloc (Nat.le_refl _) _), heap_alloc_new w _⟩
  go_enter Try.func14, Try.ntmps14
  go_upto_region 2 with (fail)
  generalize w.alloc (.cells #[.bool b0, .bool b1, .bool b2, .bool b3, .int .i64 x0, .int .i64 x1, .int .i64 x2, .int .i64 x3, .int .i64 h0, .int .i64 h1, .int .i64 a0, .int .i64 a1, .int .i64 m0, .int .i64 m1] 40) = W at *
  generalize hB : w.heap.size = B at *
  have HB := Lib.hid hB
  clear hB
  go_wp2_with fail
  go_loopw [3, 4] (fun v i wr => i = .int .i64 0 ∧ PR B [] v B b0 b1 b2 b3 x0 x1 x2 x3 h0 h1 a0 a1 m0 m1 w wr ∨ i = .int .i64 1 ∧ PR B ([] ++ peL b0 x0) v B b0 b1 b2 b3 x0 x1 x2 x3 h0 h1 a0 a1 m0 m1 w wr ∨ i = .int .i64 2 ∧ PR B (([] ++ peL b0 x0) ++ peL b1 x1) v B b0 b1 b2 b3 x0 x1 x2 x3 h0 h1 a0 a1 m0 m1 w wr ∨ i = .int .i64 3 ∧ PR B ((([] ++ peL b0 x0) ++ peL b1 x1) ++ peL b2 x2) v B b0 b1 b2 b3 x0 x1 x2 x3 h0 h1 a0 a1 m0 m1 w wr ∨ i = .int .i64 4 ∧ PR B (((([] ++ peL b0 x0) ++ peL b1 x1) ++ peL b2 x2) ++ peL b3 x3) v B b0 b1 b2 b3 x0 x1 x2 x3 h0 h1 a0 a1 m0 m1 w wr) (fun _ i _ => 4 - (intOf i).toNat)
  case atStart => exact .inl ⟨rfl, HP0.out⟩
  case round =>
    clear HP0
    rcases hrel with ⟨rfl, hr⟩ | ⟨rfl, hr⟩ | ⟨rfl, hr⟩ | ⟨rfl, hr⟩ | ⟨rfl, hr⟩
    · have HR := Lib.hid hr
      obtain ⟨o, n, c, rfl⟩ := hr.form
      obtain ⟨c0_, c1_, c2_, c3_, c4_, c5_, c6_, c7_, c8_, c9_, c10_, c11_, c12_, c13_⟩ := hr.cells
      clear hr
      cases b0 with
      | true =>
        go_wp2_with (first
          | (refine list_app rfl _ _ rfl B _ [] rfl (HR.out.own' _).1 (some ⟨wr.heap.size, 0, none⟩) [1] 1 rfl (ints_row (t := 3) (fr := (0, 0)) [1] (heap_alloc_new wr _)) (by have := HL.out; simp only [List.length_cons, List.length_nil]; omega) (HR.out.own' _).2 ?_; intro v1 w1 hT1; have hr1 := HR.out.app hT1; obtain ⟨o1, n1, c1, rfl⟩ := hr1.form; obtain ⟨c0_, c1_, c2_, c3_, c4_, c5_, c6_, c7_, c8_, c9_, c10_, c11_, c12_, c13_⟩ := hr1.cells; clear hT1)
          | (refine list_app rfl _ _ rfl B _ ([] ++ [1]) rfl (hr1.own' _).1 (some ⟨w1.heap.size, 0, none⟩) [x0] 1 rfl (ints_row (t := 3) (fr := (0, 0)) [x0] (heap_alloc_new w1 _)) (by have := HL.out; simp only [List.length_append, List.length_cons, List.length_nil]; omega) (hr1.own' _).2 ?_; intro v2 w2 hT2; have hr2 := hr1.app hT2; obtain ⟨o2, n2, c2, rfl⟩ := hr2.form; obtain ⟨c0_, c1_, c2_, c3_, c4_, c5_, c6_, c7_, c8_, c9_, c10_, c11_, c12_, c13_⟩ := hr2.cells; clear hT2))
        refine ⟨.inr (.inl ⟨rfl, hr2.as (by simp [peL])⟩), by simp [intOf]⟩
      | false =>
        go_wp2_with (first
          | (refine list_app rfl _ _ rfl B _ [] rfl (HR.out.own' _).1 (some ⟨wr.heap.size, 0, none⟩) [0] 1 rfl (ints_row (t := 3) (fr := (0, 0)) [0] (heap_alloc_new wr _)) (by have := HL.out; simp only [List.length_cons, List.length_nil]; omega) (HR.out.own' _).2 ?_; intro v1 w1 hT1; have hr1 := HR.out.app hT1; obtain ⟨o1, n1, c1, rfl⟩ := hr1.form; obtain ⟨c0_, c1_, c2_, c3_, c4_, c5_, c6_, c7_, c8_, c9_, c10_, c11_, c12_, c13_⟩ := hr1.cells; clear hT1))
        refine ⟨.inr (.inl ⟨rfl, hr1.as (by simp [peL])⟩), by simp [intOf]⟩
    · have HR := Lib.hid hr
      obtain ⟨o, n, c, rfl⟩ := hr.form
      obtain ⟨c0_, c1_, c2_, c3_, c4_, c5_, c6_, c7_, c8_, c9_, c10_, c11_, c12_, c13_⟩ := hr.cells
      clear hr
      cases b1 with
      | true =>
        go_wp2_with (first
          | (refine list_app rfl _ _ rfl B _ ([] ++ peL b0 x0) rfl (HR.out.own' _).1 (some ⟨wr.heap.size, 0, none⟩) [1] 1 rfl (ints_row (t := 3) (fr := (0, 0)) [1] (heap_alloc_new wr _)) (by have := HL.out; simp only [List.length_append, List.length_cons, List.length_nil]; omega) (HR.out.own' _).2 ?_; intro v1 w1 hT1; have hr1 := HR.out.app hT1; obtain ⟨o1, n1, c1, rfl⟩ := hr1.form; obtain ⟨c0_, c1_, c2_, c3_, c4_, c5_, c6_, c7_, c8_, c9_, c10_, c11_, c12_, c13_⟩ := hr1.cells; clear hT1)
          | (refine list_app rfl _ _ rfl B _ (([] ++ peL b0 x0) ++ [1]) rfl (hr1.own' _).1 (some ⟨w1.heap.size, 0, none⟩) [x1] 1 rfl (ints_row (t := 3) (fr := (0, 0)) [x1] (heap_alloc_new w1 _)) (by have := HL.out; simp only [List.length_append, List.length_cons, List.length_nil]; omega) (hr1.own' _).2 ?_; intro v2 w2 hT2; have hr2 := hr1.app hT2; obtain ⟨o2, n2, c2, rfl⟩ := hr2.form; obtain ⟨c0_, c1_, c2_, c3_, c4_, c5_, c6_, c7_, c8_, c9_, c10_, c11_, c12_, c13_⟩ := hr2.cells; clear hT2))
        refine ⟨.inr (.inr (.inl ⟨rfl, hr2.as (by simp [peL])⟩)), by simp [intOf]⟩
      | false =>
        go_wp2_with (first
          | (refine list_app rfl _ _ rfl B _ ([] ++ peL b0 x0) rfl (HR.out.own' _).1 (some ⟨wr.heap.size, 0, none⟩) [0] 1 rfl (ints_row (t := 3) (fr := (0, 0)) [0] (heap_alloc_new wr _)) (by have := HL.out; simp only [List.length_append, List.length_cons, List.length_nil]; omega) (HR.out.own' _).2 ?_; intro v1 w1 hT1; have hr1 := HR.out.app hT1; obtain ⟨o1, n1, c1, rfl⟩ := hr1.form; obtain ⟨c0_, c1_, c2_, c3_, c4_, c5_, c6_, c7_, c8_, c9_, c10_, c11_, c12_, c13_⟩ := hr1.cells; clear hT1))
        refine ⟨.inr (.inr (.inl ⟨rfl, hr1.as (by simp [peL])⟩)), by simp [intOf]⟩
    · have HR := Lib.hid hr
      obtain ⟨o, n, c, rfl⟩ := hr.form
      obtain ⟨c0_, c1_, c2_, c3_, c4_, c5_, c6_, c7_, c8_, c9_, c10_, c11_, c12_, c13_⟩ := hr.cells
      clear hr
      cases b2 with
      | true =>
        go_wp2_with (first
          | (refine list_app rfl _ _ rfl B _ (([] ++ peL b0 x0) ++ peL b1 x1) rfl (HR.out.own' _).1 (some ⟨wr.heap.size, 0, none⟩) [1] 1 rfl (ints_row (t := 3) (fr := (0, 0)) [1] (heap_alloc_new wr _)) (by have := HL.out; simp only [List.length_append, List.length_cons, List.length_nil]; omega) (HR.out.own' _).2 ?_; intro v1 w1 hT1; have hr1 := HR.out.app hT1; obtain ⟨o1, n1, c1, rfl⟩ := hr1.form; obtain ⟨c0_, c1_, c2_, c3_, c4_, c5_, c6_, c7_, c8_, c9_, c10_, c11_, c12_, c13_⟩ := hr1.cells; clear hT1)
          | (refine list_app rfl _ _ rfl B _ ((([] ++ peL b0 x0) ++ peL b1 x1) ++ [1]) rfl (hr1.own' _).1 (some ⟨w1.heap.size, 0, none⟩) [x2] 1 rfl (ints_row (t := 3) (fr := (0, 0)) [x2] (heap_alloc_new w1 _)) (by have := HL.out; simp only [List.length_append, List.length_cons, List.length_nil]; omega) (hr1.own' _).2 ?_; intro v2 w2 hT2; have hr2 := hr1.app hT2; obtain ⟨o2, n2, c2, rfl⟩ := hr2.form; obtain ⟨c0_, c1_, c2_, c3_, c4_, c5_, c6_, c7_, c8_, c9_, c10_, c11_, c12_, c13_⟩ := hr2.cells; clear hT2))
        refine ⟨.inr (.inr (.inr (.inl ⟨rfl, hr2.as (by simp [peL])⟩))), by simp [intOf]⟩
      | false =>
        go_wp2_with (first
          | (refine list_app rfl _ _ rfl B _ (([] ++ peL b0 x0) ++ peL b1 x1) rfl (HR.out.own' _).1 (some ⟨wr.heap.size, 0, none⟩) [0] 1 rfl (ints_row (t := 3) (fr := (0, 0)) [0] (heap_alloc_new wr _)) (by have := HL.out; simp only [List.length_append, List.length_cons, List.length_nil]; omega) (HR.out.own' _).2 ?_; intro v1 w1 hT1; have hr1 := HR.out.app hT1; obtain ⟨o1, n1, c1, rfl⟩ := hr1.form; obtain ⟨c0_, c1_, c2_, c3_, c4_, c5_, c6_, c7_, c8_, c9_, c10_, c11_, c12_, c13_⟩ := hr1.cells; clear hT1))
        refine ⟨.inr (.inr (.inr (.inl ⟨rfl, hr1.as (by simp [peL])⟩))), by simp [intOf]⟩
    · have HR := Lib.hid hr
      obtain ⟨o, n, c, rfl⟩ := hr.form
      obtain ⟨c0_, c1_, c2_, c3_, c4_, c5_, c6_, c7_, c8_, c9_, c10_, c11_, c12_, c13_⟩ := hr.cells
      clear hr
      cases b3 with
      | true =>
        go_wp2_with (first
          | (refine list_app rfl _ _ rfl B _ ((([] ++ peL b0 x0) ++ peL b1 x1) ++ peL b2 x2) rfl (HR.out.own' _).1 (some ⟨wr.heap.size, 0, none⟩) [1] 1 rfl (ints_row (t := 3) (fr := (0, 0)) [1] (heap_alloc_new wr _)) (by have := HL.out; simp only [List.length_append, List.length_cons, List.length_nil]; omega) (HR.out.own' _).2 ?_; intro v1 w1 hT1; have hr1 := HR.out.app hT1; obtain ⟨o1, n1, c1, rfl⟩ := hr1.form; obtain ⟨c0_, c1_, c2_, c3_, c4_, c5_, c6_, c7_, c8_, c9_, c10_, c11_, c12_, c13_⟩ := hr1.cells; clear hT1)
          | (refine list_app rfl _ _ rfl B _ (((([] ++ peL b0 x0) ++ peL b1 x1) ++ peL b2 x2) ++ [1]) rfl (hr1.own' _).1 (some ⟨w1.heap.size, 0, none⟩) [x3] 1 rfl (ints_row (t := 3) (fr := (0, 0)) [x3] (heap_alloc_new w1 _)) (by have := HL.out; simp only [List.length_append, List.length_cons, List.length_nil]; omega) (hr1.own' _).2 ?_; intro v2 w2 hT2; have hr2 := hr1.app hT2; obtain ⟨o2, n2, c2, rfl⟩ := hr2.form; obtain ⟨c0_, c1_, c2_, c3_, c4_, c5_, c6_, c7_, c8_, c9_, c10_, c11_, c12_, c13_⟩ := hr2.cells; clear hT2))
        refine ⟨.inr (.inr (.inr (.inr (⟨rfl, hr2.as (by simp [peL])⟩)))), by simp [intOf]⟩
      | false =>
        go_wp2_with (first
          | (refine list_app rfl _ _ rfl B _ ((([] ++ peL b0 x0) ++ peL b1 x1) ++ peL b2 x2) rfl (HR.out.own' _).1 (some ⟨wr.heap.size, 0, none⟩) [0] 1 rfl (ints_row (t := 3) (fr := (0, 0)) [0] (heap_alloc_new wr _)) (by have := HL.out; simp only [List.length_append, List.length_cons, List.length_nil]; omega) (HR.out.own' _).2 ?_; intro v1 w1 hT1; have hr1 := HR.out.app hT1; obtain ⟨o1, n1, c1, rfl⟩ := hr1.form; obtain ⟨c0_, c1_, c2_, c3_, c4_, c5_, c6_, c7_, c8_, c9_, c10_, c11_, c12_, c13_⟩ := hr1.cells; clear hT1))
        refine ⟨.inr (.inr (.inr (.inr (⟨rfl, hr1.as (by simp [peL])⟩)))), by simp [intOf]⟩
    · have HR := Lib.hid hr
      obtain ⟨o, n, c, rfl⟩ := hr.form
      clear hr
      go_wp2_with fail
      go_loopw [3, 5] (fun v i wr => i = .int .i64 0 ∧ PR B (((([] ++ peL b0 x0) ++ peL b1 x1) ++ peL b2 x2) ++ peL b3 x3) v B b0 b1 b2 b3 x0 x1 x2 x3 h0 h1 a0 a1 m0 m1 w wr ∨ i = .int .i64 1 ∧ PR B ((((([] ++ peL b0 x0) ++ peL b1 x1) ++ peL b2 x2) ++ peL b3 x3) ++ moL h0 a0 a1) v B b0 b1 b2 b3 x0 x1 x2 x3 h0 h1 a0 a1 m0 m1 w wr ∨ i = .int .i64 2 ∧ PR B (((((([] ++ peL b0 x0) ++ peL b1 x1) ++ peL b2 x2) ++ peL b3 x3) ++ moL h0 a0 a1) ++ moL h1 m0 m1) v B b0 b1 b2 b3 x0 x1 x2 x3 h0 h1 a0 a1 m0 m1 w wr) (fun _ i _ => 2 - (intOf i).toNat)
      case atStart => exact .inl ⟨rfl, HR.out⟩
      case round =>
        clear HR
        rcases hrel with ⟨rfl, hr⟩ | ⟨rfl, hr⟩ | ⟨rfl, hr⟩
        · have HR := Lib.hid hr
          obtain ⟨o, n, c, rfl⟩ := hr.form
          obtain ⟨c0_, c1_, c2_, c3_, c4_, c5_, c6_, c7_, c8_, c9_, c10_, c11_, c12_, c13_⟩ := hr.cells
          clear hr
          by_cases hh : h0 = 2
          · have hb : (h0 == 2) = true := by simpa using hh
            have HH := Lib.hid hh
            clear hh
            go_wp2_with (first
              | (refine list_app rfl _ _ rfl B _ (((([] ++ peL b0 x0) ++ peL b1 x1) ++ peL b2 x2) ++ peL b3 x3) rfl (HR.out.own' _).1 (some ⟨wr.heap.size, 0, none⟩) [h0] 1 rfl (ints_row (t := 3) (fr := (0, 0)) [h0] (heap_alloc_new wr _)) (by have := HL.out; simp only [List.length_append, List.length_cons, List.length_nil]; omega) (HR.out.own' _).2 ?_; intro v1 w1 hT1; have hr1 := HR.out.app hT1; obtain ⟨o1, n1, c1, rfl⟩ := hr1.form; obtain ⟨c0_, c1_, c2_, c3_, c4_, c5_, c6_, c7_, c8_, c9_, c10_, c11_, c12_, c13_⟩ := hr1.cells; clear hT1)
              | (refine list_app rfl _ _ rfl B _ ((((([] ++ peL b0 x0) ++ peL b1 x1) ++ peL b2 x2) ++ peL b3 x3) ++ [h0]) rfl (hr1.own' _).1 (some ⟨w1.heap.size, 0, none⟩) [a0] 1 rfl (ints_row (t := 3) (fr := (0, 0)) [a0] (heap_alloc_new w1 _)) (by have := HL.out; simp only [List.length_append, List.length_cons, List.length_nil]; omega) (hr1.own' _).2 ?_; intro v2 w2 hT2; have hr2 := hr1.app hT2; obtain ⟨o2, n2, c2, rfl⟩ := hr2.form; obtain ⟨c0_, c1_, c2_, c3_, c4_, c5_, c6_, c7_, c8_, c9_, c10_, c11_, c12_, c13_⟩ := hr2.cells; clear hT2)
              | (refine list_app rfl _ _ rfl B _ (((((([] ++ peL b0 x0) ++ peL b1 x1) ++ peL b2 x2) ++ peL b3 x3) ++ [h0]) ++ [a0]) rfl (hr2.own' _).1 (some ⟨w2.heap.size, 0, none⟩) [a1] 1 rfl (ints_row (t := 3) (fr := (0, 0)) [a1] (heap_alloc_new w2 _)) (by have := HL.out; simp only [List.length_append, List.length_cons, List.length_nil]; omega) (hr2.own' _).2 ?_; intro v3 w3 hT3; have hr3 := hr2.app hT3; obtain ⟨o3, n3, c3, rfl⟩ := hr3.form; obtain ⟨c0_, c1_, c2_, c3_, c4_, c5_, c6_, c7_, c8_, c9_, c10_, c11_, c12_, c13_⟩ := hr3.cells; clear hT3))
            refine ⟨.inr (.inl ⟨rfl, hr3.as (by unfold moL; rw [if_pos HH.out]; simp)⟩), by simp [intOf]⟩
          · have hb : (h0 == 2) = false := by simpa using hh
            have HH := Lib.hid hh
            clear hh
            go_wp2_with (first
              | (refine list_app rfl _ _ rfl B _ (((([] ++ peL b0 x0) ++ peL b1 x1) ++ peL b2 x2) ++ peL b3 x3) rfl (HR.out.own' _).1 (some ⟨wr.heap.size, 0, none⟩) [h0] 1 rfl (ints_row (t := 3) (fr := (0, 0)) [h0] (heap_alloc_new wr _)) (by have := HL.out; simp only [List.length_append, List.length_cons, List.length_nil]; omega) (HR.out.own' _).2 ?_; intro v1 w1 hT1; have hr1 := HR.out.app hT1; obtain ⟨o1, n1, c1, rfl⟩ := hr1.form; obtain ⟨c0_, c1_, c2_, c3_, c4_, c5_, c6_, c7_, c8_, c9_, c10_, c11_, c12_, c13_⟩ := hr1.cells; clear hT1))
            refine ⟨.inr (.inl ⟨rfl, hr1.as (by unfold moL; rw [if_neg HH.out])⟩), by simp [intOf]⟩
        · have HR := Lib.hid hr
          obtain ⟨o, n, c, rfl⟩ := hr.form
          obtain ⟨c0_, c1_, c2_, c3_, c4_, c5_, c6_, c7_, c8_, c9_, c10_, c11_, c12_, c13_⟩ := hr.cells
          clear hr
          by_cases hh : h1 = 2
          · have hb : (h1 == 2) = true := by simpa using hh
            have HH := Lib.hid hh
            clear hh
            go_wp2_with (first
              | (refine list_app rfl _ _ rfl B _ ((((([] ++ peL b0 x0) ++ peL b1 x1) ++ peL b2 x2) ++ peL b3 x3) ++ moL h0 a0 a1) rfl (HR.out.own' _).1 (some ⟨wr.heap.size, 0, none⟩) [h1] 1 rfl (ints_row (t := 3) (fr := (0, 0)) [h1] (heap_alloc_new wr _)) (by have := HL.out; simp only [List.length_append, List.length_cons, List.length_nil]; omega) (HR.out.own' _).2 ?_; intro v1 w1 hT1; have hr1 := HR.out.app hT1; obtain ⟨o1, n1, c1, rfl⟩ := hr1.form; obtain ⟨c0_, c1_, c2_, c3_, c4_, c5_, c6_, c7_, c8_, c9_, c10_, c11_, c12_, c13_⟩ := hr1.cells; clear hT1)
              | (refine list_app rfl _ _ rfl B _ (((((([] ++ peL b0 x0) ++ peL b1 x1) ++ peL b2 x2) ++ peL b3 x3) ++ moL h0 a0 a1) ++ [h1]) rfl (hr1.own' _).1 (some ⟨w1.heap.size, 0, none⟩) [m0] 1 rfl (ints_row (t := 3) (fr := (0, 0)) [m0] (heap_alloc_new w1 _)) (by have := HL.out; simp only [List.length_append, List.length_cons, List.length_nil]; omega) (hr1.own' _).2 ?_; intro v2 w2 hT2; have hr2 := hr1.app hT2; obtain ⟨o2, n2, c2, rfl⟩ := hr2.form; obtain ⟨c0_, c1_, c2_, c3_, c4_, c5_, c6_, c7_, c8_, c9_, c10_, c11_, c12_, c13_⟩ := hr2.cells; clear hT2)
              | (refine list_app rfl _ _ rfl B _ ((((((([] ++ peL b0 x0) ++ peL b1 x1) ++ peL b2 x2) ++ peL b3 x3) ++ moL h0 a0 a1) ++ [h1]) ++ [m0]) rfl (hr2.own' _).1 (some ⟨w2.heap.size, 0, none⟩) [m1] 1 rfl (ints_row (t := 3) (fr := (0, 0)) [m1] (heap_alloc_new w2 _)) (by have := HL.out; simp only [List.length_append, List.length_cons, List.length_nil]; omega) (hr2.own' _).2 ?_; intro v3 w3 hT3; have hr3 := hr2.app hT3; obtain ⟨o3, n3, c3, rfl⟩ := hr3.form; obtain ⟨c0_, c1_, c2_, c3_, c4_, c5_, c6_, c7_, c8_, c9_, c10_, c11_, c12_, c13_⟩ := hr3.cells; clear hT3))
            refine ⟨.inr (.inr (⟨rfl, hr3.as (by unfold moL; rw [if_pos HH.out]; simp)⟩)), by simp [intOf]⟩
          · have hb : (h1 == 2) = false := by simpa using hh
            have HH := Lib.hid hh
            clear hh
            go_wp2_with (first
              | (refine list_app rfl _ _ rfl B _ ((((([] ++ peL b0 x0) ++ peL b1 x1) ++ peL b2 x2) ++ peL b3 x3) ++ moL h0 a0 a1) rfl (HR.out.own' _).1 (some ⟨wr.heap.size, 0, none⟩) [h1] 1 rfl (ints_row (t := 3) (fr := (0, 0)) [h1] (heap_alloc_new wr _)) (by have := HL.out; simp only [List.length_append, List.length_cons, List.length_nil]; omega) (HR.out.own' _).2 ?_; intro v1 w1 hT1; have hr1 := HR.out.app hT1; obtain ⟨o1, n1, c1, rfl⟩ := hr1.form; obtain ⟨c0_, c1_, c2_, c3_, c4_, c5_, c6_, c7_, c8_, c9_, c10_, c11_, c12_, c13_⟩ := hr1.cells; clear hT1))
            refine ⟨.inr (.inr (⟨rfl, hr1.as (by unfold moL; rw [if_neg HH.out])⟩)), by simp [intOf]⟩
        · have HR := Lib.hid hr
          obtain ⟨o, n, c, rfl⟩ := hr.form
          clear hr
          go_wp2
          go_ret
          exact ⟨_, rfl, HB.out ▸ HR.out.p⟩
end Go.Proofs.Ytedcgmagkkoggaa
