/-
  PutSet: the numbers of a Set; and made. No condition.
-/
import Derived.Test.YtakfpfnaogdmlaaDoorGp
import Derived.Test.YtakfpfnaogdmlaaDoorPuW
namespace Go.Proofs.YtakfpfnaogdmlaaDoor.A
open Go.RowKit
/-- A Set in its block. -/
def SAt (w : World) (B : Nat) (cs : Array Value) : Prop := w.heap[B]? = some (.cells cs 52 (0, 0))
theorem SAt.lt {w : World} {B : Nat} {cs : Array Value} (h : SAt w B cs) : B < w.heap.size := (Array.getElem?_eq_some_iff.1 h).1
theorem SAt.new (w : World) (cs : Array Value) : SAt (w.alloc (.cells cs 52)) w.heap.size cs := heap_alloc_new w _
theorem SAt.keep {w w' : World} {B : Nat} {cs : Array Value} (h : SAt w B cs) (hb : Below w.heap.size w w') : SAt w' B cs := (hb.block B h.lt).trans h
theorem SAt.set {w : World} {B : Nat} {cs : Array Value} (h : SAt w B cs) (cs' : Array Value) : SAt (w.setRow B cs') B cs' := by
  unfold SAt at h ⊢
  simp [World.setRow, Array.getElem?_modify, h]
theorem SAt.put {w : World} {B : Nat} {cs : Array Value} (h : SAt w B cs) (i : Nat) (u : Value) : SAt (w.setCell ⟨B, i, none⟩ u) B (cs.setIfInBounds i u) := by
  unfold SAt at h ⊢
  simp [World.setCell, Array.getElem?_modify, h]
theorem set_row_fq' (w : World) (B : Nat) (cs : Array Value) : Fq B w (w.setRow B cs) :=
  ⟨rfl, rfl, rfl, by simp [World.setRow], fun k _ hk => setRow_other w B k cs (fun e => hk e)⟩
/-- Perhaps a number, as numbers. -/
def peL (b : Bool) (x : Int) : List Int := if b then [1, x] else [0]
/-- Perhaps a moment, as numbers. -/
def moL (h x y : Int) : List Int := if h = 2 then [h, x, y] else [h]
/-- The slice holds these numbers, which the call made. -/
structure Pu (B : Nat) (l : List Int) (v : Value) (w0 w : World) : Prop where
  own : w.ownsRow B 3 1 v l.length (ints l)
  low : Below B w0 w
  b : B ≤ w.heap.size
theorem Pu.start (w0 w : World) (h : Below w0.heap.size w0 w) : Pu w0.heap.size [] (.slice none 0 0) w0 w := ⟨own_none _ _, h, h.size⟩
theorem own_keep {w w' : World} {B : Nat} {v : Value} {l : List Int} (h : w.ownsRow B 3 1 v l.length (ints l)) (hb : Below w.heap.size w w') : w'.ownsRow B 3 1 v l.length (ints l) := by
  refine ⟨h.1, ?_⟩
  rcases h.2 with h2 | ⟨g, cap, cur, hv, h3⟩
  · exact .inl h2
  · refine .inr ⟨g, cap, cur, hv, h3.1, ?_, h3.2.2⟩
    rw [hb.block g (Array.getElem?_eq_some_iff.1 h3.2.1).1]
    exact h3.2.1
theorem Pu.keep {B : Nat} {l : List Int} {v : Value} {w0 w w' : World} (h : Pu B l v w0 w) (hb : Below w.heap.size w w') : Pu B l v w0 w' :=
  ⟨own_keep h.own hb, h.low.trans (hb.mono h.b), Nat.le_trans h.b hb.size⟩
theorem Pu.app {B : Nat} {l q : List Int} {v v' : Value} {w0 w w' : World} (h : Pu B l v w0 w) (hT : AppTo B w v (l ++ q) v' w') : Pu B (l ++ q) v' w0 w' :=
  ⟨hT.own, ⟨hT.grown.os.trans h.low.os, hT.grown.tape.trans h.low.tape, hT.grown.output.trans h.low.output, Nat.le_trans h.low.size hT.grown.size, fun k hk => (hT.grown.block k (by have := h.b; omega) (fun e => by have := own_lt h.own e.symm; omega)).trans (h.low.block k hk)⟩, Nat.le_trans h.b hT.grown.size⟩
set_option maxHeartbeats 2000000 in
theorem put_pe (b : Bool) (x : Int) (B : Nat) (l : List Int) (v : Value) (w0 w : World) (h : Pu B l v w0 w) (hl : l.length ≤ 1000) : Calls Tryd.prog 36 #[v, .bool b, .int .i64 x] w fun r w' => ∃ v', r = .returned v' ∧ Pu B (l ++ peL b x) v' w0 w' ∧ (∀ k, k < w.heap.size → some k ≠ v.ownBlock → w'.heap[k]? = w.heap[k]?) := by
  obtain ⟨o, n, c, rfl⟩ : ∃ o n c, v = .slice o n c := by
    obtain ⟨ao, cap, rfl, _⟩ := ints_of_own h.own
    exact ⟨_, _, _, rfl⟩
  have HP := Lib.hid h
  clear h
  cases b with
  | false =>
    go_enter Tryd.func36, Tryd.ntmps36
    go_wp2_with (refine list_app rfl _ _ rfl B _ l rfl (own_keep HP.out.own ((Below.refl _ _).alloc (Nat.le_refl _) _)) (some ⟨w.heap.size, 0, none⟩) [0] 1 rfl (ints_row (t := 3) (fr := (0, 0)) [0] (heap_alloc_new w _)) (by simp; omega) (by simp; have := HP.out.b; omega) ?_; intro v1 w1 hT1)
    have hP1 := (HP.out.keep ((Below.refl _ w).alloc (Nat.le_refl _) (.cells #[.int .i64 0] 3))).app hT1
    have hK : ∀ k, k < w.heap.size → some k ≠ (Value.slice o n c).ownBlock → w1.heap[k]? = w.heap[k]? := fun k hk hv => (hT1.grown.block k (by simp; omega) hv).trans (Below.heap_alloc _ _ _ hk)
    have HP1 := Lib.hid hP1
    have HK := Lib.hid hK
    obtain ⟨o1, n1, c1, rfl⟩ : ∃ o n c, v1 = .slice o n c := by
      obtain ⟨ao, cap, e, _⟩ := ints_of_own hP1.own
      exact ⟨_, _, _, e⟩
    clear hP1 hT1 hK
    go_wp2
    go_ret
    exact ⟨_, rfl, HP1.out, HK.out⟩
  | true =>
    go_enter Tryd.func36, Tryd.ntmps36
    go_wp2_with (refine list_app rfl _ _ rfl B _ l rfl (own_keep HP.out.own ((Below.refl _ _).alloc (Nat.le_refl _) _)) (some ⟨w.heap.size, 0, none⟩) [1, x] 2 rfl (ints_row (t := 3) (fr := (0, 0)) [1, x] (heap_alloc_new w _)) (by simp; omega) (by simp; have := HP.out.b; omega) ?_; intro v1 w1 hT1)
    have hP1 := (HP.out.keep ((Below.refl _ w).alloc (Nat.le_refl _) (.cells #[.int .i64 1, .int .i64 x] 3))).app hT1
    have hK : ∀ k, k < w.heap.size → some k ≠ (Value.slice o n c).ownBlock → w1.heap[k]? = w.heap[k]? := fun k hk hv => (hT1.grown.block k (by simp; omega) hv).trans (Below.heap_alloc _ _ _ hk)
    have HP1 := Lib.hid hP1
    have HK := Lib.hid hK
    obtain ⟨o1, n1, c1, rfl⟩ : ∃ o n c, v1 = .slice o n c := by
      obtain ⟨ao, cap, e, _⟩ := ints_of_own hP1.own
      exact ⟨_, _, _, e⟩
    clear hP1 hT1 hK
    go_wp2
    go_ret
    exact ⟨_, rfl, HP1.out, HK.out⟩
end Go.Proofs.YtakfpfnaogdmlaaDoor.A
