/-
  AttrMay's walk: it answers true, and makes new blocks alone. Its condition: the groups are no longer than memory.
-/
import Derived.Test.YtedcgmagkkoggaaAp
namespace Go.Proofs.Ytedcgmagkkoggaa
open Go.RowKit
/-- What the walk keeps. -/
structure Kb (w0 : World) (B C : Nat) (x0 x1 x2 x3 x4 : Int) (ao : Option Addr) (G : List Int) (w : World) : Prop where
  a : AAt w B 0 x0 0 x1 x2 0 0 0 0 0 0 0 0 0 0 0 0
  c : w.heap[C]? = some (.cells #[.int .i64 x1, .int .i64 x2, .int .i64 x3, .int .i64 x4] 36 (0, 0))
  i : IntsAt w ao G
  low : Below w0.heap.size w0 w
theorem Kb.lt {w0 w : World} {B C : Nat} {x0 x1 x2 x3 x4 : Int} {ao : Option Addr} {G : List Int} (h : Kb w0 B C x0 x1 x2 x3 x4 ao G w) : C < w.heap.size := (Array.getElem?_eq_some_iff.1 h.c).1
theorem Kb.step {w0 w w' : World} {B C : Nat} {x0 x1 x2 x3 x4 : Int} {ao : Option Addr} {G : List Int} (h : Kb w0 B C x0 x1 x2 x3 x4 ao G w) (hb : Below w.heap.size w w') : Kb w0 B C x0 x1 x2 x3 x4 ao G w' :=
  ⟨h.a.keep hb, (hb.block _ h.lt).trans h.c, h.i.below hb, h.low.trans (hb.mono h.low.size)⟩
theorem Kb.drew {w0 w : World} {B C : Nat} {x0 x1 x2 x3 x4 : Int} {ao : Option Addr} {G : List Int} (h : Kb w0 B C x0 x1 x2 x3 x4 ao G w) : Kb w0 B C x0 x1 x2 x3 x4 ao G w.drew := ⟨h.a, h.c, h.i, h.low.drew⟩
theorem Kb.al {w0 w : World} {B C : Nat} {x0 x1 x2 x3 x4 : Int} {ao : Option Addr} {G : List Int} (h : Kb w0 B C x0 x1 x2 x3 x4 ao G w) (o : Obj) : Kb w0 B C x0 x1 x2 x3 x4 ao G (w.alloc o) := h.step ((Below.refl _ _).alloc (Nat.le_refl _) o)
theorem Kb.cs {w0 w' : World} {B C : Nat} {x0 x1 x2 x3 x4 : Int} {ao : Option Addr} {G : List Int} (h : Kb w0 B C x0 x1 x2 x3 x4 ao G w') : w'.cell? ⟨B, 0, none⟩ = some (.int .i64 0) ∧ w'.cell? ⟨B, 1, none⟩ = some (.int .i64 x0) ∧ w'.cell? ⟨B, 2, none⟩ = some (.int .i64 0) ∧ w'.cell? ⟨B, 3, none⟩ = some (.int .i64 x1) ∧ w'.cell? ⟨B, 4, none⟩ = some (.int .i64 x2) ∧ w'.cell? ⟨B, 5, none⟩ = some (.int .i64 0) ∧ w'.cell? ⟨B, 6, none⟩ = some (.int .i64 0) ∧ w'.cell? ⟨B, 7, none⟩ = some (.int .i64 0) ∧ w'.cell? ⟨B, 8, none⟩ = some (.int .i64 0) ∧ w'.cell? ⟨B, 9, none⟩ = some (.int .i64 0) ∧ w'.cell? ⟨B, 10, none⟩ = some (.int .i64 0) ∧ w'.cell? ⟨B, 11, none⟩ = some (.int .i64 0) ∧ w'.cell? ⟨B, 12, none⟩ = some (.int .i64 0) ∧ w'.cell? ⟨B, 13, none⟩ = some (.int .i64 0) ∧ w'.cell? ⟨B, 14, none⟩ = some (.int .i64 0) ∧ w'.cell? ⟨B, 15, none⟩ = some (.int .i64 0) ∧ w'.cell? ⟨B, 16, none⟩ = some (.int .i64 0) ∧ w'.cell? ⟨C, 0, none⟩ = some (.int .i64 x1) ∧ w'.cell? ⟨C, 1, none⟩ = some (.int .i64 x2) ∧ w'.cell? ⟨C, 2, none⟩ = some (.int .i64 x3) ∧ w'.cell? ⟨C, 3, none⟩ = some (.int .i64 x4) := by
  obtain ⟨c0, c1, c2, c3, c4, c5, c6, c7, c8, c9, c10, c11, c12, c13, c14, c15, c16⟩ := h.a.all
  refine ⟨c0, c1, c2, c3, c4, c5, c6, c7, c8, c9, c10, c11, c12, c13, c14, c15, c16, ?_, ?_, ?_, ?_⟩ <;> (rw [cell_of_row w' C _ _ _ _ h.c]; rfl)
/-- An empty slice of its own that is appended to. -/
theorem Kb.app {w0 w w' : World} {B C : Nat} {x0 x1 x2 x3 x4 : Int} {ao : Option Addr} {G : List Int} (h : Kb w0 B C x0 x1 x2 x3 x4 ao G w) {v' : Value} (hT : AppTo w.heap.size (w.alloc (.cells #[] 3)).drew (.slice (some ⟨w.heap.size, 0, none⟩) 0 0) ([] ++ G) v' w') :
    Kb w0 B C x0 x1 x2 x3 x4 ao G w' ∧ ∃ bo cap, v' = .slice bo G.length cap ∧ IntsAt w' bo G := by
  refine ⟨?_, ?_⟩
  · refine h.step (AppTo.below hT (own_empty (B := w.heap.size) (heap_alloc_new w _) (Nat.le_refl _)) ((Below.refl _ _).alloc (Nat.le_refl _) _).drew (Nat.le_refl _))
  · obtain ⟨bo, cap, rfl, hI, _⟩ := ints_of_own hT.own
    exact ⟨bo, cap, rfl, hI⟩
set_option maxRecDepth 100000 in
set_option maxHeartbeats 4000000 in
theorem may_walk (x0 x1 x2 x3 x4 x5 x6 : Int) (ao : Option Addr) (G : List Int) (cap : Nat) (w : World) (hI : IntsAt w ao G) (hl : G.length * 8 ≤ 140737488355328) :
    Calls Try.prog 5 #[.agg #[.int .i64 x0, .int .i64 x1, .int .i64 x2, .int .i64 x3, .int .i64 x4, .int .i64 x5, .int .i64 x6], .slice ao G.length cap] w fun e w' => e = .returned (.bool true) ∧ Below w.heap.size w w' := by
  have HI := Lib.hid hI
  clear hI
  go_enter Try.func5, Try.ntmps5
  go_wp2_with fail
  have HB0 := Lib.hid ((Below.refl w.heap.size w).alloc (Nat.le_refl _) (.cells #[.int .i64 x0, .int .i64 x1, .int .i64 x2, .int .i64 x3, .int .i64 x4, .int .i64 x5, .int .i64 x6] 51))
  have HX0 := Lib.hid (heap_alloc_new w (.cells #[.int .i64 x0, .int .i64 x1, .int .i64 x2, .int .i64 x3, .int .i64 x4, .int .i64 x5, .int .i64 x6] 51))
  have HI0 := Lib.hid (HI.out.below HB0.out)
  clear HI
  generalize w.alloc (.cells #[.int .i64 x0, .int .i64 x1, .int .i64 x2, .int .i64 x3, .int .i64 x4, .int .i64 x5, .int .i64 x6] 51) = W at *
  have hX0 : w.heap.size < W.heap.size := (Array.getElem?_eq_some_iff.1 HX0.out).1
  refine (speaks_any W).mono ?_
  rintro e w1 ⟨rfl, hB1⟩
  have HB1 := Lib.hid (HB0.out.trans (hB1.mono HB0.out.size))
  have HI1 := Lib.hid (HI0.out.below hB1)
  have hx1 := (hB1.block _ hX0).trans HX0.out
  have hlA : w.heap.size < w1.heap.size := (Array.getElem?_eq_some_iff.1 hx1).1
  clear HX0 HI0 HB0 hB1 hX0
  have y0 : w1.cell? ⟨w.heap.size, 0, none⟩ = some (.int .i64 x0) := by rw [cell_of_row _ _ 0 _ _ _ hx1]; rfl
  have y1 : w1.cell? ⟨w.heap.size, 1, none⟩ = some (.int .i64 x1) := by rw [cell_of_row _ _ 1 _ _ _ hx1]; rfl
  have y2 : w1.cell? ⟨w.heap.size, 2, none⟩ = some (.int .i64 x2) := by rw [cell_of_row _ _ 2 _ _ _ hx1]; rfl
  have y3 : w1.cell? ⟨w.heap.size, 3, none⟩ = some (.int .i64 x3) := by rw [cell_of_row _ _ 3 _ _ _ hx1]; rfl
  have y4 : w1.cell? ⟨w.heap.size, 4, none⟩ = some (.int .i64 x4) := by rw [cell_of_row _ _ 4 _ _ _ hx1]; rfl
  have y5 : w1.cell? ⟨w.heap.size, 5, none⟩ = some (.int .i64 x5) := by rw [cell_of_row _ _ 5 _ _ _ hx1]; rfl
  have HX1 := Lib.hid hx1
  clear hx1
  generalize hA : w.heap.size = A at *
  have HA := Lib.hid hA
  clear hA
  have hAn : A ≠ w1.heap.size := by omega
  go_upto_region 3 with (fail)
  go_cut [5, 6, 7] (fun p q r wc => p = .int .i64 x0 ∧ r = .int .i64 x5 ∧ q = .pointer (some ⟨w1.heap.size, 0, none⟩) ∧ Below w1.heap.size w1 wc ∧ wc.heap[w1.heap.size]? = some (.cells #[.int .i64 x1, .int .i64 x2, .int .i64 x3, .int .i64 x4] 36 (0, 0)))
  case first =>
    go_region_held3 (fun w' => w'.cell? ⟨A, 0, none⟩ = some (.int .i64 x0) ∧ w'.cell? ⟨A, 1, none⟩ = some (.int .i64 x1) ∧ w'.cell? ⟨A, 2, none⟩ = some (.int .i64 x2) ∧ w'.cell? ⟨A, 3, none⟩ = some (.int .i64 x3) ∧ w'.cell? ⟨A, 4, none⟩ = some (.int .i64 x4) ∧ w'.cell? ⟨A, 5, none⟩ = some (.int .i64 x5)) (go_keep) (first | fail)
    all_goals
      go_wp2
      go_meet
      exact ⟨rfl, rfl, rfl, ((Below.refl _ _).alloc (Nat.le_refl _) _).drew, heap_alloc_new w1 _⟩
  case rest =>
    obtain ⟨rfl, rfl, rfl, hB2, hC⟩ := hcut
    have HB2 := Lib.hid (HB1.out.trans (hB2.mono (Nat.le_of_lt hlA)))
    have HI2 := Lib.hid (HI1.out.below hB2)
    have HC := Lib.hid hC
    have hC0 : w1.heap.size < wc.heap.size := (Array.getElem?_eq_some_iff.1 hC).1
    have z0 : wc.cell? ⟨w1.heap.size, 0, none⟩ = some (.int .i64 x1) := by rw [cell_of_row _ _ 0 _ _ _ hC]; rfl
    have z1 : wc.cell? ⟨w1.heap.size, 1, none⟩ = some (.int .i64 x2) := by rw [cell_of_row _ _ 1 _ _ _ hC]; rfl
    have z2 : wc.cell? ⟨w1.heap.size, 2, none⟩ = some (.int .i64 x3) := by rw [cell_of_row _ _ 2 _ _ _ hC]; rfl
    have z3 : wc.cell? ⟨w1.heap.size, 3, none⟩ = some (.int .i64 x4) := by rw [cell_of_row _ _ 3 _ _ _ hC]; rfl
    clear y0 y1 y2 y3 y4 y5 hB2 hC HI1 HX1 HB1 hAn hlA
    generalize hCC : w1.heap.size = C at *
    clear hCC
    go_upto_region 5 with (refine store28 0 x0 0 x1 x2 0 0 0 0 0 0 0 0 0 0 0 0 _ _ rfl rfl rfl ?_; simp only [Act.put])
    have hK0 : Kb w wc.heap.size C x0 x1 x2 x3 x4 ao G (wc.alloc (.cells #[.int .i64 0, .int .i64 x0, .int .i64 0, .int .i64 x1, .int .i64 x2, .int .i64 0, .int .i64 0, .int .i64 0, .int .i64 0, .int .i64 0, .int .i64 0, .int .i64 0, .int .i64 0, .int .i64 0, .int .i64 0, .int .i64 0, .int .i64 0] 28)) := by
      rw [← HA.out] at HB2
      refine ⟨AAt.new wc 0 x0 0 x1 x2 0 0 0 0 0 0 0 0 0 0 0 0, ((World.grownBy_alloc wc _ none).block C hC0 (by simp)).trans HC.out, HI2.out.below ((Below.refl _ _).alloc (Nat.le_refl _) _), ?_⟩
      exact HB2.out.alloc HB2.out.size _
    clear z0 z1 z2 z3 HC HI2 HB2
    generalize wc.alloc (.cells #[.int .i64 0, .int .i64 x0, .int .i64 0, .int .i64 x1, .int .i64 x2, .int .i64 0, .int .i64 0, .int .i64 0, .int .i64 0, .int .i64 0, .int .i64 0, .int .i64 0, .int .i64 0, .int .i64 0, .int .i64 0, .int .i64 0, .int .i64 0] 28) = W2 at *
    generalize wc.heap.size = B at *
    have hS := hK0.cs
    obtain ⟨c0, c1, c2, c3, c4, c5, c6, c7, c8, c9, c10, c11, c12, c13, c14, c15, c16, z0, z1, z2, z3⟩ := hS
    go_cut [4] (fun p wd => p = .bool true ∧ Below A w wd)
    case first =>
      go_region_held3 (fun w' => w'.cell? ⟨B, 0, none⟩ = some (.int .i64 0) ∧ w'.cell? ⟨B, 1, none⟩ = some (.int .i64 x0) ∧ w'.cell? ⟨B, 2, none⟩ = some (.int .i64 0) ∧ w'.cell? ⟨B, 3, none⟩ = some (.int .i64 x1) ∧ w'.cell? ⟨B, 4, none⟩ = some (.int .i64 x2) ∧ w'.cell? ⟨B, 5, none⟩ = some (.int .i64 0) ∧ w'.cell? ⟨B, 6, none⟩ = some (.int .i64 0) ∧ w'.cell? ⟨B, 7, none⟩ = some (.int .i64 0) ∧ w'.cell? ⟨B, 8, none⟩ = some (.int .i64 0) ∧ w'.cell? ⟨B, 9, none⟩ = some (.int .i64 0) ∧ w'.cell? ⟨B, 10, none⟩ = some (.int .i64 0) ∧ w'.cell? ⟨B, 11, none⟩ = some (.int .i64 0) ∧ w'.cell? ⟨B, 12, none⟩ = some (.int .i64 0) ∧ w'.cell? ⟨B, 13, none⟩ = some (.int .i64 0) ∧ w'.cell? ⟨B, 14, none⟩ = some (.int .i64 0) ∧ w'.cell? ⟨B, 15, none⟩ = some (.int .i64 0) ∧ w'.cell? ⟨B, 16, none⟩ = some (.int .i64 0) ∧ w'.cell? ⟨C, 0, none⟩ = some (.int .i64 x1) ∧ w'.cell? ⟨C, 1, none⟩ = some (.int .i64 x2) ∧ w'.cell? ⟨C, 2, none⟩ = some (.int .i64 x3) ∧ w'.cell? ⟨C, 3, none⟩ = some (.int .i64 x4)) (first | exact Kb.cs (by assumption) | exact Kb.cs (Kb.al (by assumption) _) | exact Kb.cs (Kb.drew (by assumption)) | exact Kb.cs (Kb.al (Kb.drew (by assumption)) _))
        (first
          | (refine step_app (by rfl) _ _ (by rfl) _ _ [] (by rfl) (own_empty (heap_alloc_new _ _) (Nat.le_refl _)) ao G cap (by rfl) (Kb.al (by assumption) _).i (by simpa using hl) (by simp) ?_; intro v' w' hT; obtain ⟨hK1, bo, bcap, hv', hI1⟩ := Kb.app (by assumption) hT; subst hv')
          | (go_at_call 17; refine (may_any _ _ _ _ _ _ _ _ _ _ _ _ _ _ _ _ _ _ _ _ G bo bcap _ (by assumption) (by omega)).mono ?_; rintro e w' ⟨rfl, hb⟩; have hK2 := Kb.step (by assumption) hb)
          | (go_at_call 18; refine (refmay_any _ _ _ _ _ _ G ao cap _ (Kb.i (by assumption)) (by omega)).mono ?_; rintro e w' ⟨rfl, rfl⟩))
      all_goals
        go_wp2
        go_meet
        refine ⟨by simp, ?_⟩
        rw [← HA.out]
        first | exact Kb.low (by assumption) | exact (Kb.low (by assumption)).drew
    case rest =>
      obtain ⟨rfl, hB⟩ := hcut
      have HB := Lib.hid hB
      clear hB hK0
      go_wp2
      go_ret
      exact ⟨rfl, by rw [HA.out]; exact HB.out⟩
end Go.Proofs.Ytedcgmagkkoggaa
