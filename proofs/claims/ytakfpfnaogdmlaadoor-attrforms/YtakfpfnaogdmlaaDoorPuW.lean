/-
  AttrPuts' walk: it answers true, and makes new blocks alone. Its condition: the numbers behind are no longer than memory.
-/
import Derived.Test.YtakfpfnaogdmlaaDoorGp
namespace Go.Proofs.YtakfpfnaogdmlaaDoor.A
open Go.RowKit
theorem list_app {ops : Array Oper} {rest : List Oper} {o : Oper} {a : Act} {w : World} {Q : Exit → Act → World → Prop} (hgd : o.guard = none) (s x : Operand) (ho : o.op = .call { callee := .builtin .append, args := #[s, x], argTypes := #[23, 23] })
    (B : Nat) (v : Value) (xs : List Int) (hs : a.eval s = v) (hown : w.ownsRow B 3 1 v xs.length (ints xs)) (ao : Option Addr) (L : List Int) (cap : Nat) (hx : a.eval x = .slice ao L.length cap) (hI : IntsAt w ao L)
    (hsz : (xs.length + L.length) * 8 ≤ 140737488355328) (hB : B ≤ w.heap.size) (h : ∀ v' w', AppTo B w v (xs ++ L) v' w' → wpList Tryd.prog ops Q rest (a.put o.dst v') w') : wpList Tryd.prog ops Q (o :: rest) a w :=
  wpList_plain hgd fun _ hK => wp_app s x ho B v xs hs hown ao L cap hx hI hsz hB fun v' w' hT => hK _ _ (h v' w' hT)
theorem own_form {w : World} {B : Nat} {v : Value} {G : List Int} (h : w.ownsRow B 3 1 v G.length (ints G)) : ∃ ao cap, v = .slice ao G.length cap ∧ IntsAt w ao G ∧ G.length ≤ cap ∧ cap ≤ 9223372036854775807 := by
  obtain ⟨ao, cap, rfl, hI, hc, _⟩ := ints_of_own h
  refine ⟨ao, cap, rfl, hI, hc, ?_⟩
  rcases h.2 with ⟨e, _⟩ | ⟨g, c, cur, e, _, _, _, hm, _⟩
  · injection e with _ _ e; omega
  · injection e with _ _ e; subst e; unfold maxLen at hm; omega
end Go.Proofs.YtakfpfnaogdmlaaDoor.A
