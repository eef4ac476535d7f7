/-
  A row sign by sign, and a choice arm by arm, as the document reads them. No condition.
-/
import Derived.Test.YtjogcdkebplcpaaGreatDoorRf
import Derived.Test.YtjogcdkebplcpaaGreatDoorTm
namespace Go.Proofs.YtjogcdkebplcpaaGreatDoor
open Go.RowKit Sch

/-- A row of depth n at the head. -/
def Pn (n : Nat) (t : List UInt8) : Option (Row × List UInt8) := pG num6 (t.length + 1) true n [] t
/-- Arms of depth n at the head. -/
def Pz (n : Nat) (seen : List Int) (t : List UInt8) : Option (Row × List UInt8) := pG num6 (t.length + 1) false n seen t

theorem pG_depth {num : NumP} : ∀ (f : Nat) (m : Bool) (n n' : Nat) (seen : List Int) (t : List UInt8) (x : Row × List UInt8), n' ≤ n → pG num f m n seen t = some x → pG num f m n' seen t = some x
  | 0, _, _, _, _, _, _, _, h => by simp [pG] at h
  | f + 1, true, n, n', seen, t, x, hn, h => by
    have ih := fun m s t x => pG_depth (num := num) f m n n' s t x hn
    have ih1 := fun m s t x => pG_depth (num := num) f m (n + 1) (n' + 1) s t x (by omega)
    cases t with
    | nil => simpa [pG] using h
    | cons c t1 =>
      unfold pG at h ⊢
      simp only at h ⊢
      by_cases h1 : isOne c = true
      · rw [if_pos h1] at h ⊢
        cases hp : pG num f true n [] t1 with
        | none => rw [hp] at h; cases h
        | some y => rw [hp] at h; rw [ih _ _ _ _ hp]; exact h
      · rw [if_neg h1] at h ⊢
        by_cases h2 : isNum c = true
        · rw [if_pos h2] at h ⊢
          cases hk : num t1 with
          | none => rw [hk] at h; cases h
          | some y =>
            obtain ⟨k, t2⟩ := y
            rw [hk] at h
            simp only at h ⊢
            cases hp : pG num f true n [] t2 with
            | none => rw [hp] at h; cases h
            | some y => rw [hp] at h; rw [ih _ _ _ _ hp]; exact h
        · rw [if_neg h2] at h ⊢
          by_cases h3 : isOpt c = true
          · rw [if_pos h3] at h ⊢
            cases t1 with
            | nil => cases h
            | cons d t2 =>
              simp only at h ⊢
              by_cases hd : d ≠ 40 ∨ 16 ≤ n
              · rw [if_pos hd] at h; cases h
              · rw [if_neg hd] at h
                rw [if_neg (fun e => hd (e.imp id (fun q => by omega)))]
                cases hp : pG num f true (n + 1) [] t2 with
                | none => rw [hp] at h; cases h
                | some y =>
                  obtain ⟨i, t3⟩ := y
                  rw [hp] at h
                  rw [ih1 _ _ _ _ hp]
                  cases t3 with
                  | nil => cases h
                  | cons e t3 =>
                    simp only at h ⊢
                    by_cases he : e ≠ 41 ∨ (c = 42 ∧ i.empty = true)
                    · rw [if_pos he] at h; cases h
                    · rw [if_neg he] at h ⊢
                      cases hq : pG num f true n [] t3 with
                      | none => rw [hq] at h; cases h
                      | some y => rw [hq] at h; rw [ih _ _ _ _ hq]; exact h
          · rw [if_neg h3] at h ⊢
            by_cases h4 : c = 60
            · rw [if_pos h4] at h ⊢
              by_cases hd : 16 ≤ n
              · rw [if_pos hd] at h; cases h
              · rw [if_neg hd] at h
                rw [if_neg (by omega)]
                cases hp : pG num f false (n + 1) [] t1 with
                | none => rw [hp] at h; cases h
                | some y =>
                  obtain ⟨a, t2⟩ := y
                  rw [hp] at h
                  rw [ih1 _ _ _ _ hp]
                  simp only at h ⊢
                  cases hq : pG num f true n [] t2 with
                  | none => rw [hq] at h; cases h
                  | some y => rw [hq] at h; rw [ih _ _ _ _ hq]; exact h
            · rw [if_neg h4] at h ⊢
              exact h
  | f + 1, false, n, n', seen, t, x, hn, h => by
    have ih := fun m s t x => pG_depth (num := num) f m n n' s t x hn
    unfold pG at h ⊢
    cases hk : key num t with
    | none => rw [hk] at h; cases h
    | some y =>
      obtain ⟨k, t1⟩ := y
      rw [hk] at h
      simp only at h ⊢
      cases hp : pG num f true n [] t1 with
      | none => rw [hp] at h; cases h
      | some y =>
        obtain ⟨i, t2⟩ := y
        rw [hp] at h
        rw [ih _ _ _ _ hp]
        cases t2 with
        | nil => cases h
        | cons d t2 =>
          simp only at h ⊢
          by_cases hs : k ∈ seen ∨ (-1 : Int) ∈ seen
          · rw [if_pos hs] at h; cases h
          · rw [if_neg hs] at h ⊢
            by_cases hd : d = 44
            · rw [if_pos hd] at h ⊢
              cases hq : pG num f false n (seen ++ [k]) t2 with
              | none => rw [hq] at h; cases h
              | some y => rw [hq] at h; rw [ih _ _ _ _ hq]; exact h
            · rw [if_neg hd] at h ⊢
              exact h
theorem Pn_of {f n : Nat} {s : List Int} {t : List UInt8} (hf : t.length < f) : pG num6 f true n s t = Pn n t := by
  have h : ∀ g s, pG num6 (g + 1) true n s t = pG num6 (g + 1) true n [] t := fun g s => by cases t <;> (unfold pG; rfl)
  obtain ⟨g, rfl⟩ : ∃ g, f = g + 1 := ⟨f - 1, by omega⟩
  rw [h]
  exact pG_fuel num6_short _ _ _ _ _ _ hf (by omega)
theorem Pz_of {f n : Nat} {s : List Int} {t : List UInt8} (hf : t.length < f) : pG num6 f false n s t = Pz n s t := pG_fuel num6_short _ _ _ _ _ _ hf (by omega)
theorem Pn_nil (n : Nat) : Pn n [] = some (.nil, []) := rfl
theorem Pn_one {n : Nat} {c : UInt8} {t1 t' : List UInt8} {r : Row} (hc : isOne c = true) (h : Pn n (c :: t1) = some (r, t')) : ∃ r3, r = .one c r3 ∧ Pn n t1 = some (r3, t') := by
  unfold Pn pG at h
  simp only [hc, if_true, List.length_cons] at h
  rw [Pn_of (by omega)] at h
  cases hp : Pn n t1 with
  | none => rw [hp] at h; cases h
  | some y =>
    rw [hp] at h
    simp only [Option.map_some, Option.some.injEq, Prod.mk.injEq] at h
    exact ⟨y.1, h.1.symm, by rw [← h.2]⟩
theorem Pn_num {n : Nat} {c : UInt8} {t1 t' : List UInt8} {r : Row} (ho : isOne c = false) (hc : isNum c = true) (h : Pn n (c :: t1) = some (r, t')) : ∃ k t2 r3, num6 t1 = some (k, t2) ∧ r = .num c k r3 ∧ Pn n t2 = some (r3, t') := by
  unfold Pn pG at h
  simp only [ho, hc, if_true, Bool.false_eq_true, if_false, List.length_cons] at h
  cases hk : num6 t1 with
  | none => rw [hk] at h; cases h
  | some y =>
    obtain ⟨k, t2⟩ := y
    rw [hk] at h
    simp only at h
    have hl := num6_short _ _ _ hk
    rw [Pn_of (by omega)] at h
    cases hp : Pn n t2 with
    | none => rw [hp] at h; cases h
    | some y =>
      rw [hp] at h
      simp only [Option.map_some, Option.some.injEq, Prod.mk.injEq] at h
      exact ⟨k, t2, y.1, rfl, h.1.symm, by rw [hp, ← h.2]⟩
theorem Pn_opt {n : Nat} {c : UInt8} {t1 t' : List UInt8} {r : Row} (ho : isOne c = false) (hn : isNum c = false) (hc : isOpt c = true) (h : Pn n (c :: t1) = some (r, t')) :
    ∃ t2 i t3 r3, t1 = 40 :: t2 ∧ n < 16 ∧ Pn (n + 1) t2 = some (i, 41 :: t3) ∧ r = .opt c i r3 ∧ Pn n t3 = some (r3, t') ∧ t3.length < t2.length := by
  unfold Pn pG at h
  simp only [ho, hn, hc, if_true, Bool.false_eq_true, if_false, List.length_cons] at h
  cases t1 with
  | nil => cases h
  | cons d t2 =>
    simp only [List.length_cons] at h
    split at h
    · cases h
    · rename_i hd
      rw [Pn_of (by omega)] at h
      cases hp : Pn (n + 1) t2 with
      | none => rw [hp] at h; cases h
      | some y =>
        obtain ⟨i, t3⟩ := y
        have hle := pG_le num6_short _ _ _ _ _ _ _ hp
        rw [hp] at h
        cases t3 with
        | nil => cases h
        | cons e t3 =>
          simp only at h
          split at h
          · cases h
          · rename_i he
            simp only [List.length_cons] at hle
            rw [Pn_of (by omega)] at h
            cases hq : Pn n t3 with
            | none => rw [hq] at h; cases h
            | some z =>
              rw [hq] at h
              simp only [Option.map_some, Option.some.injEq, Prod.mk.injEq] at h
              have e1 : d = 40 := by by_cases e : d = 40; exact e; exact absurd (.inl e) hd
              have e2 : e = 41 := by by_cases e' : e = 41; exact e'; exact absurd (.inl e') he
              subst e1
              subst e2
              exact ⟨t2, i, t3, z.1, rfl, by omega, hp, h.1.symm, by rw [hq, ← h.2], by omega⟩
theorem Pn_ch {n : Nat} {t1 t' : List UInt8} {r : Row} (h : Pn n (60 :: t1) = some (r, t')) :
    ∃ a t2 r3, n < 16 ∧ Pz (n + 1) [] t1 = some (a, t2) ∧ r = .ch a r3 ∧ Pn n t2 = some (r3, t') := by
  have o1 : isOne 60 = false := rfl
  have o2 : isNum 60 = false := rfl
  have o3 : isOpt 60 = false := rfl
  unfold Pn pG at h
  simp only [o1, o2, o3, if_true, Bool.false_eq_true, if_false, List.length_cons] at h
  split at h
  · cases h
  · rename_i hd
    rw [Pz_of (by omega)] at h
    cases hp : Pz (n + 1) [] t1 with
    | none => rw [hp] at h; cases h
    | some y =>
      obtain ⟨a, t2⟩ := y
      have hle := pG_le num6_short _ _ _ _ _ _ _ hp
      rw [hp] at h
      simp only at h
      rw [Pn_of (by omega)] at h
      cases hq : Pn n t2 with
      | none => rw [hq] at h; cases h
      | some z =>
        rw [hq] at h
        simp only [Option.map_some, Option.some.injEq, Prod.mk.injEq] at h
        exact ⟨a, t2, z.1, by omega, rfl, h.1.symm, by rw [hq, ← h.2]⟩
theorem Pn_stop {n : Nat} {c : UInt8} {t1 t' : List UInt8} {r : Row} (hc : isSign c = false) (h : Pn n (c :: t1) = some (r, t')) : r = .nil ∧ t' = c :: t1 := by
  unfold Pn at h
  rw [pG_row, if_neg (by simp [hc])] at h
  simp only [Option.some.injEq, Prod.mk.injEq] at h
  exact ⟨h.1.symm, h.2.symm⟩
/-- What the document skips. -/
theorem Pn_skip {n : Nat} {t t' : List UInt8} {r : Row} (h : Pn n t = some (r, t')) : Gn 0 t = some t' := by
  unfold Gn
  rw [if_neg (by omega), pG_depth _ _ _ _ _ _ _ (Nat.zero_le n) h]
  rfl
theorem Pn_ends {n : Nat} {t t' : List UInt8} {r : Row} (h : Pn n t = some (r, t')) : t' <:+ t := pG_ends num6_ends _ _ _ _ _ _ _ h
theorem Pz_ends {n : Nat} {s : List Int} {t t' : List UInt8} {r : Row} (h : Pz n s t = some (r, t')) : t' <:+ t := pG_ends num6_ends _ _ _ _ _ _ _ h
/-- An arm at the head. -/
theorem Pz_arm {n : Nat} {s : List Int} {t t' : List UInt8} {r : Row} (h : Pz n s t = some (r, t')) : ∃ k t1 i d t2, key num6 t = some (k, t1) ∧ Pn n t1 = some (i, d :: t2) ∧ t2.length < t1.length ∧ t1.length < t.length ∧
    ((d = 62 ∧ r = .arm k i .nil ∧ t' = t2) ∨ (d = 44 ∧ ∃ r2, r = .arm k i r2 ∧ Pz n (s ++ [k]) t2 = some (r2, t'))) := by
  unfold Pz pG at h
  cases hk : key num6 t with
  | none => rw [hk] at h; cases h
  | some y =>
    obtain ⟨k, t1⟩ := y
    have hl := key_lt num6_short hk
    rw [hk] at h
    simp only at h
    rw [Pn_of (by omega)] at h
    cases hp : Pn n t1 with
    | none => rw [hp] at h; cases h
    | some y =>
      obtain ⟨i, t2⟩ := y
      have hle := pG_le num6_short _ _ _ _ _ _ _ hp
      rw [hp] at h
      cases t2 with
      | nil => cases h
      | cons d t2 =>
        simp only [List.length_cons] at hle
        simp only at h
        split at h
        · cases h
        · split at h
          · rename_i hd
            rw [Pz_of (by omega)] at h
            cases hq : Pz n (s ++ [k]) t2 with
            | none => rw [hq] at h; cases h
            | some z =>
              rw [hq] at h
              simp only [Option.map_some, Option.some.injEq, Prod.mk.injEq] at h
              exact ⟨k, t1, i, d, t2, rfl, hp, by omega, by omega, .inr ⟨hd, z.1, h.1.symm, by rw [hq, ← h.2]⟩⟩
          · split at h
            · rename_i hd
              simp only [Option.some.injEq, Prod.mk.injEq] at h
              exact ⟨k, t1, i, d, t2, rfl, hp, by omega, by omega, .inl ⟨hd, h.1.symm, h.2.symm⟩⟩
            · cases h
/-- The arm of a number. -/
def armOf (m : Int) : Row → Option Row
  | .arm k i r => if k = m ∨ k = -1 then some i else armOf m r
  | _ => none
theorem tk_arm (m : Int) (l : List UInt8) : ∀ a : Row, tk (some m) a l = match armOf m a with | some i => tk none i l | none => .error 4
  | .arm k i r => by
    simp only [tk, armOf]
    by_cases h : k = m ∨ k = -1
    · rw [if_pos h, if_pos h]
    · rw [if_neg h, if_neg h]; exact tk_arm m l r
  | .nil => rfl
  | .one _ _ => rfl
  | .num _ _ _ => rfl
  | .opt _ _ _ => rfl
  | .ch _ _ => rfl
end Go.Proofs.YtjogcdkebplcpaaGreatDoor
