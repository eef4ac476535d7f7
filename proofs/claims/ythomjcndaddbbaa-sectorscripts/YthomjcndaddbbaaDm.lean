/-
  What a loss of power can leave of a sector; disks of which each sector was written once. No condition.
-/
import Derived.Test.YthomjcndaddbbaaDl
namespace Go.Proofs.Ythomjcndaddbbaa

/-- A sector behind a loss of power is as it was, or as one of the queue's writes. -/
theorem loseL_get (keep : Int) : ∀ (q : List (Nat × ByteArray)) (k : Nat) (l : List ByteArray) (i : Nat),
    (loseL keep q k l)[i]? = l[i]? ∨ ∃ x ∈ q, x.1 = i ∧ (loseL keep q k l)[i]? = some x.2
  | [], _, _, _ => .inl rfl
  | x :: r, k, l, i => by
    unfold loseL
    rcases loseL_get keep r (k + 1) (if bitOf keep k then l.set x.1 x.2 else l) i with h | ⟨y, hy, e1, e2⟩
    · rw [h]
      split
      · rw [List.getElem?_set]
        by_cases hx : x.1 = i
        · rw [if_pos hx]
          by_cases hl : x.1 < l.length
          · rw [if_pos hl]
            exact .inr ⟨x, List.mem_cons_self, hx, rfl⟩
          · rw [if_neg hl, ← hx, List.getElem?_eq_none (by omega)]
            exact .inl rfl
        · rw [if_neg hx]; exact .inl rfl
      · exact .inl rfl
    · exact .inr ⟨y, List.mem_cons_of_mem _ hy, e1, e2⟩

/-- All bits: all of the queue. -/
theorem bit_all (i : Nat) : bitOf (-1) i = true := by
  have h : (2 : Int) ^ (i % 60) > 0 := Int.pow_pos (by decide)
  unfold bitOf
  rw [decide_eq_true_eq]
  have e : (-1 : Int) / 2 ^ (i % 60) = -1 := by
    rw [Int.ediv_eq_iff_of_pos h]
    omega
  rw [e]; rfl
theorem bit_none (i : Nat) : bitOf 0 i = false := by unfold bitOf; simp
theorem loseL_all : ∀ (q : List (Nat × ByteArray)) (k : Nat) (l : List ByteArray), loseL (-1) q k l = over q l
  | [], _, _ => rfl
  | x :: r, k, l => by
    unfold loseL
    rw [bit_all, loseL_all r]
    rfl
theorem loseL_none : ∀ (q : List (Nat × ByteArray)) (k : Nat) (l : List ByteArray), loseL 0 q k l = l
  | [], _, _ => rfl
  | x :: r, k, l => by
    unfold loseL
    rw [bit_none, loseL_none r]
    rfl
end Go.Proofs.Ythomjcndaddbbaa
