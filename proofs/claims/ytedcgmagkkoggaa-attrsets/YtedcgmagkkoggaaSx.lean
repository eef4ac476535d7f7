/-
  What is left behind a Set is the list's end. No condition.
-/
import Derived.Test.YtedcgmagkkoggaaSu
namespace Go.Proofs.Ytedcgmagkkoggaa
open Go.RowKit
theorem up_suf {m x : Int} {L q : List Int} (h : upO m L = some (x, q)) : q <:+ L := by
  cases L with
  | nil => cases h
  | cons y q' =>
    by_cases k : 0 ≤ y ∧ y ≤ m
    · simp only [upO, if_pos k, Option.some.injEq, Prod.mk.injEq] at h
      obtain ⟨rfl, rfl⟩ := h
      exact List.suffix_cons _ _
    · simp only [upO, if_neg k] at h
      cases h
theorem pe_suf {b : Bool} {x : Int} {L q : List Int} (h : peO L = some (b, x, q)) : q <:+ L := by
  unfold peO at h
  cases hu : upO 1 L with
  | none => rw [hu] at h; cases h
  | some y =>
    obtain ⟨c, r⟩ := y
    rw [hu] at h
    have := up_suf hu
    dsimp only at h
    split at h
    · injection h with h; injection h with _ h; injection h with _ h; subst h; exact this
    · cases r with
      | nil => cases h
      | cons z q' => injection h with h; injection h with _ h; injection h with _ h; subst h; exact (List.suffix_cons _ _).trans this
theorem mo_suf {a b c : Int} {L q : List Int} (h : moO L = some (a, b, c, q)) : q <:+ L := by
  unfold moO at h
  cases hu : upO 2 L with
  | none => rw [hu] at h; cases h
  | some y =>
    obtain ⟨d, r⟩ := y
    rw [hu] at h
    have := up_suf hu
    dsimp only at h
    split at h
    · match r, h with
      | [], h => cases h
      | [x], h => cases h
      | x :: y :: q', h => injection h with h; injection h with _ h; injection h with _ h; injection h with _ h; subst h; exact ((List.suffix_cons _ _).trans (List.suffix_cons _ _)).trans this
    · injection h with h; injection h with _ h; injection h with _ h; injection h with _ h; subst h; exact this
theorem set_suf {L M : List Int} {cs : Array Value} (h : setO L = some (cs, M)) : M <:+ L := by
  unfold setO at h
  cases o0 : peO L with
  | none => rw [o0] at h; cases h
  | some y0 =>
  obtain ⟨b0, x0, L0⟩ := y0
  cases o1 : peO L0 with
  | none => simp only [o0, o1] at h; cases h
  | some y1 =>
  obtain ⟨b1, x1, L1⟩ := y1
  cases o2 : peO L1 with
  | none => simp only [o0, o1, o2] at h; cases h
  | some y2 =>
  obtain ⟨b2, x2, L2⟩ := y2
  cases o3 : peO L2 with
  | none => simp only [o0, o1, o2, o3] at h; cases h
  | some y3 =>
  obtain ⟨b3, x3, L3⟩ := y3
  cases o4 : moO L3 with
  | none => simp only [o0, o1, o2, o3, o4] at h; cases h
  | some y4 =>
  obtain ⟨h0, a0, a1, L4⟩ := y4
  cases o5 : moO L4 with
  | none => simp only [o0, o1, o2, o3, o4, o5] at h; cases h
  | some y5 =>
  obtain ⟨h1, m0, m1, L5⟩ := y5
  simp only [o0, o1, o2, o3, o4, o5] at h
  injection h with h
  injection h with _ e2
  rw [← e2]
  exact (mo_suf o5).trans ((mo_suf o4).trans ((pe_suf o3).trans ((pe_suf o2).trans ((pe_suf o1).trans (pe_suf o0)))))
theorem set_drop {L M : List Int} {cs : Array Value} {k : Nat} (h : setO L = some (cs, M)) (hk : k + M.length = L.length) : M = L.drop k := by
  have := List.suffix_iff_eq_drop.1 (set_suf h)
  rw [show L.length - M.length = k by omega] at this
  exact this
end Go.Proofs.Ytedcgmagkkoggaa
