/-
  What is left is an end of what was there. No condition.
-/
import Derived.Test.YtjogcdkebplcpaaGreatDoorRm
namespace Go.Proofs.YtjogcdkebplcpaaGreatDoor
open Go.RowKit Sch

def Ends (num : NumP) : Prop := ∀ t n r, num t = some (n, r) → r <:+ t
theorem num6_ends : Ends num6 := fun t n r h => by
  have h1 := (num6_of h).1
  unfold num5 at h1
  split at h1
  · cases h1
  · simp only [Option.some.injEq, Prod.mk.injEq] at h1
    rw [← h1.2]; exact List.drop_suffix _ _
theorem key_ends {num : NumP} (hs : Ends num) {t : List UInt8} {k : Int} {r : List UInt8} (h : key num t = some (k, r)) : r <:+ t := by
  unfold key at h
  split at h
  · cases h
  · rename_i c t1
    split at h
    · rename_i k' d t2 h2
      split at h
      · simp at h
        obtain ⟨rfl, rfl⟩ := h
        split at h2
        · simp at h2; obtain ⟨_, rfl⟩ := h2; exact (List.suffix_cons _ _).trans (List.suffix_cons _ _)
        · simp at h2
          obtain ⟨a, h3, _⟩ := h2
          exact (List.suffix_cons _ _).trans (hs _ _ _ h3)
      · cases h
    · cases h
theorem pG_ends {num : NumP} (hs : Ends num) : ∀ (f : Nat) (m : Bool) (n : Nat) (seen : List Int) (t : List UInt8) (r : Row) (t' : List UInt8), pG num f m n seen t = some (r, t') → t' <:+ t
  | 0, _, _, _, _, _, _, h => by simp [pG] at h
  | f + 1, true, n, seen, t, r, t', h => by
    have ih := pG_ends hs f
    unfold pG at h
    split at h
    · simp at h; obtain ⟨_, rfl⟩ := h; exact List.suffix_refl _
    · rename_i c t1
      split at h
      · simp at h; obtain ⟨a, h1, _⟩ := h; exact (ih _ _ _ _ _ _ h1).trans (List.suffix_cons _ _)
      · split at h
        · split at h
          · cases h
          · rename_i k t2 h2
            simp at h; obtain ⟨a, h1, _⟩ := h; exact ((ih _ _ _ _ _ _ h1).trans (hs _ _ _ h2)).trans (List.suffix_cons _ _)
        · split at h
          · split at h
            · cases h
            · rename_i d t2
              split at h
              · cases h
              · split at h
                · rename_i i e t3 h3
                  split at h
                  · cases h
                  · simp at h; obtain ⟨a, h1, _⟩ := h; exact ((((ih _ _ _ _ _ _ h1).trans (List.suffix_cons _ _)).trans (ih _ _ _ _ _ _ h3)).trans (List.suffix_cons _ _)).trans (List.suffix_cons _ _)
                · cases h
          · split at h
            · split at h
              · cases h
              · split at h
                · rename_i a t2 h2
                  simp at h; obtain ⟨b, h1, _⟩ := h; exact ((ih _ _ _ _ _ _ h1).trans (ih _ _ _ _ _ _ h2)).trans (List.suffix_cons _ _)
                · cases h
            · simp at h; obtain ⟨_, rfl⟩ := h; exact List.suffix_refl _
  | f + 1, false, n, seen, t, r, t', h => by
    have ih := pG_ends hs f
    unfold pG at h
    split at h
    · cases h
    · rename_i k t1 hk
      have hk1 := key_ends hs hk
      split at h
      · rename_i i d t2 h2
        have h3 := ih _ _ _ _ _ _ h2
        split at h
        · cases h
        · split at h
          · simp at h; obtain ⟨b, h1, _⟩ := h; exact (((ih _ _ _ _ _ _ h1).trans (List.suffix_cons _ _)).trans h3).trans hk1
          · split at h
            · simp at h; obtain ⟨_, rfl⟩ := h; exact ((List.suffix_cons _ _).trans h3).trans hk1
            · cases h
      · cases h
theorem Gn_ends {n : Nat} {t t' : List UInt8} (h : Gn n t = some t') : t' <:+ t := by
  unfold Gn at h
  split at h
  · cases h
  · cases hp : pG num6 (t.length + 1) true n [] t with
    | none => rw [hp] at h; cases h
    | some z =>
      rw [hp] at h
      simp only [Option.map_some, Option.some.injEq] at h
      rw [← h]; exact pG_ends num6_ends _ _ _ _ _ _ _ hp
theorem armsF_ends {n : Nat} (hn : n ≤ 17) {f : Nat} {seen : List Int} {t t' : List UInt8} (hf : t.length < f) (h : armsF (Gn n) f seen t = some t') : t' <:+ t ∧ t'.length < t.length := by
  by_cases h1 : n ≤ 16
  · cases f with
    | zero => omega
    | succ f =>
      rw [armsF_pG n h1 (f + 1) seen t hf] at h
      cases hp : pG num6 (f + 1) false n seen t with
      | none => rw [hp] at h; cases h
      | some z =>
        obtain ⟨r, t2⟩ := z
        rw [hp] at h
        simp only [Option.map_some, Option.some.injEq] at h
        subst h
        refine ⟨pG_ends num6_ends _ _ _ _ _ _ _ hp, ?_⟩
        rw [pG_arms] at hp
        cases ha : ar num6 f n t with
        | none => rw [ha] at hp; cases hp
        | some y =>
          obtain ⟨⟨k, i⟩, t3⟩ := y
          rw [ha] at hp
          simp only at hp
          have h3 := ar_lt num6_short ha
          split at hp
          · cases hp
          · cases t3 with
            | nil => simp [shut] at hp
            | cons d t4 =>
              simp only [shut] at hp
              simp only [List.length_cons] at h3
              split at hp
              · cases hq : pG num6 f false n (seen ++ [k]) t4 with
                | none => rw [hq] at hp; cases hp
                | some z =>
                  rw [hq] at hp
                  simp only [Option.map_some, Option.some.injEq, Prod.mk.injEq] at hp
                  have := pG_le num6_short _ _ _ _ _ _ _ hq
                  rw [← hp.2]; omega
              · split at hp
                · simp only [Option.some.injEq, Prod.mk.injEq] at hp
                  rw [← hp.2]; omega
                · cases hp
  · have e : Gn n = fun _ => none := by funext t; unfold Gn; rw [if_pos (by omega)]
    rw [e, armsF_none] at h; cases h
theorem ends_drop {T t' : List UInt8} (h : t' <:+ T) : T.drop (T.length - t'.length) = t' := by
  obtain ⟨s, rfl⟩ := h
  simp
theorem ends_of_drop {T t' : List UInt8} {a : Nat} (h : t' <:+ T.drop a) : t' <:+ T := h.trans (List.drop_suffix _ _)

/-- The place. -/
def pl (T : List UInt8) : Option (List UInt8) → Int
  | none => -1
  | some t' => ((T.length - t'.length : Nat) : Int)
def SkC (T : List UInt8) (N n : Nat) : Prop := ∀ (a : Nat) (w : World), a ≤ T.length → T.length - a ≤ N →
  Calls Tryz.prog 26 #[.string ⟨T.toArray⟩, .int .i64 a, .int .i64 n] w fun r w' => r = .returned (.int .i64 (pl T (Gn n (T.drop a)))) ∧ Below w.heap.size w w'
def ArC (T : List UInt8) (N n : Nat) : Prop := ∀ (a : Nat) (w : World), a ≤ T.length → T.length - a ≤ N →
  Calls Tryz.prog 48 #[.string ⟨T.toArray⟩, .int .i64 a, .int .i64 n] w fun r w' => r = .returned (.int .i64 (pl T (armsF (Gn n) (T.length - a + 1) [] (T.drop a)))) ∧ Below w.heap.size w w'

set_option maxRecDepth 100000 in
set_option maxHeartbeats 1000000 in
theorem skip_deep (T : List UInt8) (N : Nat) : SkC T N 17 := by
  intro a w ha hN
  have e : Gn 17 (T.drop a) = none := by unfold Gn; rw [if_pos (by omega)]
  rw [e]
  go_enter Tryz.func26, Tryz.ntmps26
  go_wp2
  go_ret
  exact ⟨rfl, Below.refl _ _⟩
end Go.Proofs.YtjogcdkebplcpaaGreatDoor
