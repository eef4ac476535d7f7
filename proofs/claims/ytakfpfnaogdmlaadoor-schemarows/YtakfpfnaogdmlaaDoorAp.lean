/-
  A list of numbers that is appended to a slice of the call's own. Its conditions: both are no longer than memory.
-/
import Derived.Test.YtakfpfnaogdmlaaDoorSp
import Derived.Deep.AppendSrc
import Derived.Deep.OwnRows
import Derived.OwnWalk
namespace Go.Proofs.YtakfpfnaogdmlaaDoor.A
open Go.RowKit
/-- Numbers as cells. -/
def ints (l : List Int) : List Value := l.map fun n => Value.int .i64 n
theorem ints_length (l : List Int) : (ints l).length = l.length := by simp [ints]
theorem ints_append (a b : List Int) : ints (a ++ b) = ints a ++ ints b := by simp [ints]
theorem Tryd.info3 : (Tryd.prog.info? 3).map (fun i => (i.zero, i.size, i.bytes)) = some (some (.int .i64 0), 1, 8) := by kernel_rfl
/-- What an append leaves. -/
structure AppTo (B : Nat) (w : World) (v : Value) (ys : List Int) (v' : Value) (w' : World) : Prop where
  own : w'.ownsRow B 3 1 v' ys.length (ints ys)
  grown : w.grownBy w' v.ownBlock
  at_ : v'.ownBlock = v.ownBlock ∨ v'.ownBlock = some w.heap.size
theorem news_ints {w : World} {g off : Nat} {L : List Int} (h : ∀ i (_ : i < L.length), w.cell? ⟨g, off + i, none⟩ = some (.int .i64 L[i])) : ∀ j u, (ints L)[j]? = some u → w.cell? ((⟨g, off, none⟩ : Addr).add j) = some u := by
  intro j u hu
  have hadd : (⟨g, off, none⟩ : Addr).add j = ⟨g, off + j, none⟩ := by unfold Addr.add; split <;> simp_all
  have hj : j < L.length := by
    rcases Nat.lt_or_ge j L.length with h | h
    · exact h
    · rw [List.getElem?_eq_none (by rw [ints_length]; exact h)] at hu; cases hu
  rw [hadd, h j hj]
  simpa [ints, List.getElem?_eq_getElem hj] using hu
theorem ints_one (L : List Int) : ∀ u ∈ ints L, u.oneCell' = true := by
  intro u hu
  obtain ⟨n, _, rfl⟩ := List.mem_map.1 hu
  rfl
set_option maxRecDepth 100000 in
theorem run_app (w : World) (ty : TypeId) (B : Nat) (v : Value) (xs : List Int) (hown : w.ownsRow B 3 1 v xs.length (ints xs)) (ao : Option Addr) (L : List Int) (cap : Nat) (hI : IntsAt w ao L)
    (hsz : (xs.length + L.length) * 8 ≤ 140737488355328) (hB : B ≤ w.heap.size) :
    ∃ v' w', (Builtin.append_ #[23, 23] ty #[v, .slice ao L.length cap]).run Tryd.prog w = .ok v' w' ∧ AppTo B w v (xs ++ L) v' w' := by
  obtain ⟨i0, hi, hz0, hz1, hz2⟩ := info_parts Tryd.info3
  have hm : (xs.length + L.length) ≤ maxLen := by unfold maxLen; omega
  cases ao with
  | some a =>
    have hn : ∀ j u, (ints L)[j]? = some u → w.cell? (a.add j) = some u := by
      cases L with
      | nil => intro j u hu; simp [ints] at hu
      | cons x r =>
        obtain ⟨g, off, e1, _, _⟩ := hI 0 (by simp)
        injection e1 with e1
        subst e1
        refine news_ints fun i hi => ?_
        obtain ⟨g', off', e1, _, e3⟩ := hI i hi
        injection e1 with e1
        injection e1 with e1 e2 _
        subst e1 e2
        exact e3
    obtain ⟨v', w', hr, h2, h3, _, h5⟩ := run_append_own_at (P := Tryd.prog) w B 23 ty 3 i0 _ 1 8 Tryd.underlying23 hi hz0 hz1 hz2 rfl (by omega) v xs.length (ints xs) hown a L.length cap (ints L) (by rw [ints_length]; omega) hn (ints_one L) hm hsz hB
    refine ⟨v', w', hr, ⟨?_, h3, h5⟩⟩
    rw [List.length_append, ints_append]; exact h2
  | none =>
    have hL : L = [] := by
      cases L with
      | nil => rfl
      | cons x r => obtain ⟨g, off, e1, _, _⟩ := hI 0 (by simp); cases e1
    subst hL
    rw [List.append_nil]
    rcases hown.2 with ⟨rfl, h0⟩ | ⟨g, cap', cur, rfl, hb, hg, h3, h4, h5, h6⟩
    · have hx : xs = [] := List.eq_nil_of_length_eq_zero h0
      subst hx
      refine ⟨.slice none 0 0, w, ?_, ⟨hown, World.grownBy.refl _ _, .inl rfl⟩⟩
      simp [Builtin.append_, run_underlying Tryd.underlying23, sizeOf, typeInfo, hi, Builtin.lenOf, Builtin.firstCells]
    · refine ⟨.slice (some ⟨g, 0, none⟩) xs.length cap', w, ?_, ⟨hown, World.grownBy.refl _ _, .inl rfl⟩⟩
      have hr := run_append_room_src (P := Tryd.prog) w 23 23 ty 3 i0 Tryd.underlying23 hi g 0 xs.length cap' (.slice none 0 cap) 0 [] (by rw [hz1]; exact Src.ofNil w (e' := 3) Tryd.underlying23 cap) (by omega) (by simp) (by simp)
      rw [show ([] : List Int).length = 0 from rfl, hr]
      rfl
theorem wp_app {o : Oper} {a : Act} {w : World} {K : Act → World → Prop} {Q : Exit → Act → World → Prop} (s x : Operand) (ho : o.op = .call { callee := .builtin .append, args := #[s, x], argTypes := #[23, 23] })
    (B : Nat) (v : Value) (xs : List Int) (hs : a.eval s = v) (hown : w.ownsRow B 3 1 v xs.length (ints xs)) (ao : Option Addr) (L : List Int) (cap : Nat) (hx : a.eval x = .slice ao L.length cap) (hI : IntsAt w ao L)
    (hsz : (xs.length + L.length) * 8 ≤ 140737488355328) (hB : B ≤ w.heap.size) (h : ∀ v' w', AppTo B w v (xs ++ L) v' w' → K (a.put o.dst v') w') : o.wp Tryd.prog a w K Q := by
  obtain ⟨v', w', hr, h2⟩ := run_app w o.type B v xs hown ao L cap hI hsz hB
  unfold Oper.wp execOp
  simp only [ho, resolve, invoke, builtin, Sem.run_bind, Sem.run_pure, Result.andThen_ok, List.map_toArray, List.map_cons, List.map_nil, hs, hx, hr]
  exact h v' w' h2
theorem step_app {ops : Array Oper} {o : Oper} {a : Act} {w : World} {K : Act → World → Prop} {Q : Exit → Act → World → Prop} {E : Prop} (hgd : o.guard = none) (s x : Operand) (ho : o.op = .call { callee := .builtin .append, args := #[s, x], argTypes := #[23, 23] })
    (B : Nat) (v : Value) (xs : List Int) (hs : a.eval s = v) (hown : w.ownsRow B 3 1 v xs.length (ints xs)) (ao : Option Addr) (L : List Int) (cap : Nat) (hx : a.eval x = .slice ao L.length cap) (hI : IntsAt w ao L)
    (hsz : (xs.length + L.length) * 8 ≤ 140737488355328) (hB : B ≤ w.heap.size) (h : ∀ v' w', AppTo B w v (xs ++ L) v' w' → K (a.put o.dst v') w') :
    if Region.wanted o (yielded ops a.tmps) = true then Oper.wp Tryd.prog o a w K Q else E := by
  rw [if_pos (by simp [Region.wanted, hgd])]
  exact wp_app s x ho B v xs hs hown ao L cap hx hI hsz hB h
theorem own_none (w : World) (B : Nat) : w.ownsRow B 3 1 (.slice none 0 0) ([] : List Int).length (ints []) := ⟨by simp [ints], .inl ⟨rfl, rfl⟩⟩
theorem own_empty {w : World} {B g : Nat} (h : w.heap[g]? = some (.cells #[] 3 (0, 0))) (hB : B ≤ g) : w.ownsRow B 3 1 (.slice (some ⟨g, 0, none⟩) 0 0) ([] : List Int).length (ints []) :=
  ⟨by simp [ints], .inr ⟨g, 0, #[], rfl, hB, h, by simp, by unfold maxLen; omega, by simp, by simp [ints]⟩⟩
theorem ints_of_own {w : World} {B : Nat} {vg : Value} {G : List Int} (h : w.ownsRow B 3 1 vg G.length (ints G)) : ∃ ao cap, vg = .slice ao G.length cap ∧ IntsAt w ao G ∧ G.length ≤ cap ∧ ∀ g off, ao = some ⟨g, off, none⟩ → g < w.heap.size := by
  have hh := h
  rcases h.2 with ⟨rfl, h0⟩ | ⟨g, cap, cur, rfl, _, hg, hnc, hcm, hcs, htake⟩
  · have hz : G = [] := List.eq_nil_of_length_eq_zero h0
    subst hz
    exact ⟨none, 0, rfl, fun i hi => absurd hi (by simp), by simp, by intro g off e; cases e⟩
  · have hlt : g < w.heap.size := (Array.getElem?_eq_some_iff.1 hg).1
    refine ⟨some ⟨g, 0, none⟩, cap, rfl, fun i hi => ⟨g, 0, rfl, hlt, ?_⟩, hnc, ?_⟩
    · have := hh.cells (g := g) rfl i (.int .i64 G[i]) (by simp [ints, List.getElem?_eq_getElem hi])
      rw [Nat.zero_add]
      by_cases h0 : i = 0
      · subst h0; simpa [Addr.add] using this
      · simpa [Addr.add, h0] using this
    · intro g' off e
      simp only [Option.some.injEq, Addr.mk.injEq, and_true] at e
      omega
theorem own_lt {w : World} {B g : Nat} {v : Value} {n : Nat} {xs : List Value} (h : w.ownsRow B 3 1 v n xs) (hg : v.ownBlock = some g) : B ≤ g ∧ g < w.heap.size := by
  rcases h.2 with ⟨hv, _⟩ | ⟨g', cap, cur, hv, hb, hh, _⟩
  · rw [hv] at hg; cases hg
  · rw [hv] at hg
    have : g' = g := by simpa [Value.ownBlock] using hg
    subst this
    exact ⟨hb, (Array.getElem?_eq_some_iff.1 hh).1⟩
theorem AppTo.below {B : Nat} {w w' : World} {v v' : Value} {ys : List Int} {n : Nat} {xs : List Value} (h : AppTo B w v ys v' w') (hown : w.ownsRow B 3 1 v n xs) {w0 : World} (h0 : Below w0.heap.size w0 w) (hB : w0.heap.size ≤ B) : Below w0.heap.size w0 w' :=
  h0.grown h.grown h0.size fun k hk => by have := own_lt hown hk; omega
end Go.Proofs.YtakfpfnaogdmlaaDoor.A
