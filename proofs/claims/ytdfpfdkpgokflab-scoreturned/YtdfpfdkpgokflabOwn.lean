/-
  Rows that a law makes by append, behind the memory that was there. Their conditions: as said.
-/
import Derived.Test.YtdfpfdkpgokflabFl
import Derived.Deep.AppendLies
import Derived.Deep.OwnRows
import Derived.OwnWalk
namespace Go.Proofs.Ytdfpfdkpgokflab
open Go.RowKit

theorem below_al {a w : World} (h : Below a.heap.size a w) (o : Obj) : Below a.heap.size a (w.alloc o) := h.alloc h.size o
/-- The world holds a row that the call made, and what was there is as it was. -/
structure Mk (w0 w : World) (e size : Nat) (v : Value) (n : Nat) (xs : List Value) : Prop where
  own : w.ownsRow w0.heap.size e size v n xs
  below : Below w0.heap.size w0 w

theorem ownsRow_of {w w' : World} {B e size n : Nat} {v : Value} {xs : List Value} (h : w.ownsRow B e size v n xs) (hk : ∀ g, v.ownBlock = some g → w'.heap[g]? = w.heap[g]?) : w'.ownsRow B e size v n xs := by
  refine ⟨h.1, ?_⟩
  rcases h.2 with h2 | ⟨g, cap, cur, hv, h3⟩
  · exact .inl h2
  · refine .inr ⟨g, cap, cur, hv, h3.1, ?_, h3.2.2⟩
    rw [hk g (by rw [hv]; rfl)]
    exact h3.2.1
theorem own_at {w : World} {B e size n g : Nat} {v : Value} {xs : List Value} (h : w.ownsRow B e size v n xs) (hg : v.ownBlock = some g) : B ≤ g ∧ g < w.heap.size := by
  rcases h.2 with ⟨hv, _⟩ | ⟨g', cap, cur, hv, hb, hh, _⟩
  · rw [hv] at hg; cases hg
  · rw [hv] at hg
    have : g' = g := by simpa [Value.ownBlock] using hg
    subst this
    refine ⟨hb, ?_⟩
    rcases Nat.lt_or_ge g' w.heap.size with hlt | hge
    · exact hlt
    · rw [Array.getElem?_eq_none hge] at hh; cases hh

theorem Mk.start (w0 w : World) (e size : Nat) (h : Below w0.heap.size w0 w) : Mk w0 w e size (.slice none 0 0) 0 [] := ⟨⟨by simp, .inl ⟨rfl, rfl⟩⟩, h⟩
/-- What came later and left what was there leaves the row. -/
theorem Mk.next {w0 w w' : World} {e size : Nat} {v : Value} {n : Nat} {xs : List Value} (h : Mk w0 w e size v n xs) (hb : Below w.heap.size w w') : Mk w0 w' e size v n xs :=
  ⟨ownsRow_of h.own fun g hg => hb.block g (own_at h.own hg).2, h.below.trans (hb.mono h.below.size)⟩
theorem Mk.push {w0 w w1 : World} {e size : Nat} {v v' : Value} {n m : Nat} {xs ys : List Value} (h : Mk w0 w e size v n xs) (hg : w.grownBy w1 v.ownBlock) (ho : w1.ownsRow w0.heap.size e size v' m ys) : Mk w0 w1 e size v' m ys :=
  ⟨ho, h.below.grown hg h.below.size fun _ hk => (own_at h.own hk).1⟩
theorem Mk.lt {w0 w : World} {e size : Nat} {v : Value} {n : Nat} {xs : List Value} (h : Mk w0 w e size v n xs) : w0.heap.size ≤ w.heap.size := h.below.size
/-- Its cells. -/
theorem Mk.cell {w0 w : World} {e size : Nat} {v : Value} {n : Nat} {xs : List Value} (h : Mk w0 w e size v n xs) (i : Nat) (u : Value) (hi : xs[i]? = some u) : ∃ g cap, v = .slice (some ⟨g, 0, none⟩) n cap ∧ w0.heap.size ≤ g ∧ g < w.heap.size ∧ w.cell? ⟨g, i, none⟩ = some u := by
  have hl := h.own.1
  rcases h.own.2 with ⟨hv, h0⟩ | ⟨g, cap, cur, hv, hb, hh, h3, h4, h5, h6⟩
  · subst h0
    simp at hl
    subst hl
    cases hi
  · have hg := own_at h.own (g := g) (by rw [hv]; rfl)
    refine ⟨g, cap, hv, hg.1, hg.2, ?_⟩
    rw [cell_of_row w g i cur _ _ hh]
    have h7 : (cur.toList.take (n * size))[i]? = some u := by rw [h6]; exact hi
    rw [List.getElem?_take] at h7
    split at h7
    · rw [← Array.getElem?_toList]; exact h7
    · cases h7
theorem Mk.form {w0 w : World} {e size : Nat} {v : Value} {n : Nat} {xs : List Value} (h : Mk w0 w e size v n xs) : ∃ ao cap, v = .slice ao n cap := by
  rcases h.own.2 with ⟨hv, h0⟩ | ⟨g, cap, cur, hv, _⟩
  · subst h0; exact ⟨none, 0, hv⟩
  · exact ⟨_, _, hv⟩
end Go.Proofs.Ytdfpfdkpgokflab
