/-
  The document's row and its arms, by what they leave. No condition.
-/
import Derived.Test.YtjogcdkebplcpaaGreatDoorRd
namespace Go.Proofs.YtjogcdkebplcpaaGreatDoor
open Go.RowKit Sch

/-- What a row of depth n leaves. -/
def Gn (n : Nat) (t : List UInt8) : Option (List UInt8) := if 16 < n then none else (pG num6 (t.length + 1) true n [] t).map (·.2)
/-- What a choice's arms leave, by what a row leaves. -/
def armsF (F : List UInt8 → Option (List UInt8)) : Nat → List Int → List UInt8 → Option (List UInt8)
  | 0, _, _ => none
  | f + 1, seen, t =>
    match key num6 t with
    | none => none
    | some (k, t1) =>
      match F t1 with
      | some (d :: t2) => if k ∈ seen ∨ (-1 : Int) ∈ seen then none else if d = 44 then armsF F f (seen ++ [k]) t2 else if d = 62 then some t2 else none
      | _ => none
theorem armsF_none : ∀ f seen t, armsF (fun _ => none) f seen t = none
  | 0, _, _ => rfl
  | f + 1, seen, t => by
    unfold armsF
    cases key num6 t with
    | none => rfl
    | some y => rfl
theorem armsF_seen (F : List UInt8 → Option (List UInt8)) : ∀ f seen t, (-1 : Int) ∈ seen → armsF F f seen t = none
  | 0, _, _, _ => rfl
  | f + 1, seen, t, h => by
    unfold armsF
    cases key num6 t with
    | none => rfl
    | some y =>
      simp only
      cases F y.2 with
      | none => rfl
      | some t1 =>
        cases t1 with
        | nil => rfl
        | cons d t2 => simp [h]
theorem armsF_pG (n : Nat) (hn : n ≤ 16) : ∀ f seen t, t.length < f → armsF (Gn n) f seen t = (pG num6 f false n seen t).map (·.2)
  | 0, _, _, h => by omega
  | f + 1, seen, t, h => by
    rw [pG_arms]
    unfold armsF ar
    cases hk : key num6 t with
    | none => rfl
    | some y =>
      obtain ⟨k, t1⟩ := y
      have h1 := key_lt num6_short hk
      simp only
      have e1 : Gn n t1 = (pG num6 f true n [] t1).map (·.2) := by
        unfold Gn
        rw [if_neg (by omega), pG_fuel num6_short (t1.length + 1) f true n [] t1 (by omega) (by omega)]
      rw [e1]
      cases hp : pG num6 f true n [] t1 with
      | none => rfl
      | some z =>
        obtain ⟨i, t3⟩ := z
        have h2 := pG_le num6_short _ _ _ _ _ _ _ hp
        cases t3 with
        | nil => simp [shut]
        | cons d t2 =>
          simp only [List.length_cons] at h2
          simp only [Option.map_some, shut]
          by_cases hs : k ∈ seen ∨ (-1 : Int) ∈ seen
          · simp only [if_pos hs]; rfl
          · simp only [if_neg hs]
            by_cases hd : d = 44
            · simp only [if_pos hd]
              rw [armsF_pG n hn f (seen ++ [k]) t2 (by omega)]
              cases pG num6 f false n (seen ++ [k]) t2 <;> rfl
            · simp only [if_neg hd]
              by_cases hd2 : d = 62
              · simp only [if_pos hd2]; rfl
              · simp only [if_neg hd2]; rfl
theorem armsF_fuel (n : Nat) (hn : n ≤ 17) (f g : Nat) (seen : List Int) (t : List UInt8) (hf : t.length < f) (hg : t.length < g) : armsF (Gn n) f seen t = armsF (Gn n) g seen t := by
  by_cases h : n ≤ 16
  · rw [armsF_pG n h f seen t hf, armsF_pG n h g seen t hg, pG_fuel num6_short f g false n seen t hf hg]
  · have e : Gn n = fun _ => none := by funext t; unfold Gn; rw [if_pos (by omega)]
    rw [e, armsF_none, armsF_none]
theorem Gn_le {n : Nat} {t t' : List UInt8} (h : Gn n t = some t') : t'.length ≤ t.length := by
  unfold Gn at h
  split at h
  · cases h
  · cases hp : pG num6 (t.length + 1) true n [] t with
    | none => rw [hp] at h; cases h
    | some z =>
      obtain ⟨i, t3⟩ := z
      rw [hp] at h
      simp only [Option.map_some, Option.some.injEq] at h
      have := pG_le num6_short _ _ _ _ _ _ _ hp
      rw [← h]; exact this

theorem Row.app_empty : ∀ (a b : Row), (a.app b).empty = (a.empty && b.empty)
  | .nil, b => by simp [Row.app, Row.empty]
  | .one _ _, b => by simp [Row.app, Row.empty]
  | .num _ _ _, b => by simp [Row.app, Row.empty]
  | .opt _ _ _, b => by simp [Row.app, Row.empty]
  | .ch _ _, b => by simp [Row.app, Row.empty]
  | .arm _ _ _, b => by simp [Row.app, Row.empty]
theorem bk_ltN {num : NumP} (hs : Short num) {f n : Nat} {t1 : List UInt8} {i : Row} {t3 : List UInt8} (h : bk num f n t1 = some (i, t3)) : t3.length ≤ t1.length := by
  unfold bk at h
  cases t1 with
  | nil => cases h
  | cons d t2 =>
    simp only at h
    split at h
    · cases h
    · split at h
      · rename_i hp
        split at h
        · cases h
        · have h2 := pG_le hs _ _ _ _ _ _ _ hp
          simp only [Option.some.injEq, Prod.mk.injEq] at h
          obtain ⟨rfl, rfl⟩ := h
          simp only [List.length_cons] at h2 ⊢
          omega
      · cases h
theorem sg_leN {num : NumP} (hs : Short num) {f n : Nat} {c : UInt8} {t1 : List UInt8} {x : Row} {t2 : List UInt8} (h : sg num f n c t1 = some (x, t2)) : t2.length ≤ t1.length := by
  unfold sg at h
  split at h
  · simp only [Option.some.injEq, Prod.mk.injEq] at h; rw [h.2]; exact Nat.le_refl _
  · split at h
    · cases hq : num t1 with
      | none => rw [hq] at h; cases h
      | some q =>
        obtain ⟨k, t3⟩ := q
        rw [hq] at h
        simp only [Option.map_some, Option.some.injEq, Prod.mk.injEq] at h
        have := hs _ _ _ hq
        rw [← h.2]; omega
    · split at h
      · cases hq : bk num f n t1 with
        | none => rw [hq] at h; cases h
        | some q =>
          obtain ⟨i, t3⟩ := q
          rw [hq] at h
          simp only at h
          split at h
          · cases h
          · simp only [Option.some.injEq, Prod.mk.injEq] at h
            rw [← h.2]; exact bk_ltN hs hq
      · split at h
        · split at h
          · cases h
          · cases hq : pG num f false (n + 1) [] t1 with
            | none => rw [hq] at h; cases h
            | some q =>
              obtain ⟨i, t3⟩ := q
              rw [hq] at h
              simp only [Option.map_some, Option.some.injEq, Prod.mk.injEq] at h
              rw [← h.2]; exact pG_le hs _ _ _ _ _ _ _ hq
        · cases h
theorem sg_full {num : NumP} {f n : Nat} {c : UInt8} {t1 : List UInt8} {x : Row} {t2 : List UInt8} (h : sg num f n c t1 = some (x, t2)) : x.empty = false := by
  unfold sg at h
  split at h
  · simp only [Option.some.injEq, Prod.mk.injEq] at h; rw [← h.1]; rfl
  · split at h
    · cases hq : num t1 with
      | none => rw [hq] at h; cases h
      | some q => rw [hq] at h; simp only [Option.map_some, Option.some.injEq, Prod.mk.injEq] at h; rw [← h.1]; rfl
    · split at h
      · cases hq : bk num f n t1 with
        | none => rw [hq] at h; cases h
        | some q =>
          rw [hq] at h
          simp only at h
          split at h
          · cases h
          · simp only [Option.some.injEq, Prod.mk.injEq] at h; rw [← h.1]; rfl
      · split at h
        · split at h
          · cases h
          · cases hq : pG num f false (n + 1) [] t1 with
            | none => rw [hq] at h; cases h
            | some q => rw [hq] at h; simp only [Option.map_some, Option.some.injEq, Prod.mk.injEq] at h; rw [← h.1]; rfl
        · cases h
theorem pG_empty {num : NumP} (hs : Short num) (f n : Nat) (seen : List Int) (t : List UInt8) (r : Row) (t' : List UInt8) (h : pG num f true n seen t = some (r, t')) : (r.empty = true ↔ t'.length = t.length) ∧ t'.length ≤ t.length := by
  refine ⟨?_, pG_le hs _ _ _ _ _ _ _ h⟩
  cases f with
  | zero => simp [pG] at h
  | succ f =>
    cases t with
    | nil =>
      simp [pG] at h
      obtain ⟨rfl, rfl⟩ := h
      simp [Row.empty]
    | cons c t1 =>
      rw [pG_row] at h
      by_cases hc : isSign c = true
      · rw [if_pos hc] at h
        cases hq : sg num f n c t1 with
        | none => rw [hq] at h; cases h
        | some q =>
          obtain ⟨x, t2⟩ := q
          rw [hq] at h
          simp only at h
          cases hp : pG num f true n [] t2 with
          | none => rw [hp] at h; cases h
          | some z =>
            obtain ⟨i, t3⟩ := z
            rw [hp] at h
            simp only [Option.map_some, Option.some.injEq, Prod.mk.injEq] at h
            obtain ⟨rfl, rfl⟩ := h
            have h1 := sg_leN hs hq
            have h2 := pG_le hs _ _ _ _ _ _ _ hp
            rw [Row.app_empty, sg_full hq]
            simp only [Bool.false_and, Bool.false_eq_true, List.length_cons, false_iff]
            omega
      · rw [if_neg hc] at h
        simp only [Option.some.injEq, Prod.mk.injEq] at h
        obtain ⟨rfl, rfl⟩ := h
        simp [Row.empty]

/-- What one sign leaves. -/
def sr (n : Nat) (c : UInt8) (t1 : List UInt8) : Option (List UInt8) :=
  if isOne c then some t1
  else if isNum c then (num6 t1).map (·.2)
  else if isOpt c then
    match t1 with
    | [] => none
    | d :: t2 => if d ≠ 40 then none else
      match Gn (n + 1) t2 with
      | some (e :: t3) => if e ≠ 41 ∨ (c = 42 ∧ t3.length + 1 = t2.length) then none else some t3
      | _ => none
  else armsF (Gn (n + 1)) (t1.length + 1) [] t1
theorem sr_sg (n : Nat) (hn : n ≤ 16) (c : UInt8) (t1 : List UInt8) (hc : isSign c = true) : sr n c t1 = (sg num6 (t1.length + 1) n c t1).map (·.2) := by
  unfold sr sg
  by_cases h1 : isOne c = true
  · simp only [if_pos h1]; rfl
  · simp only [if_neg h1]
    by_cases h2 : isNum c = true
    · simp only [if_pos h2]; cases num6 t1 <;> rfl
    · simp only [if_neg h2]
      by_cases h3 : isOpt c = true
      · simp only [if_pos h3]
        unfold bk
        cases t1 with
        | nil => rfl
        | cons d t2 =>
          simp only
          by_cases hd : d = 40
          · by_cases h16 : 16 ≤ n
            · have : Gn (n + 1) t2 = none := by unfold Gn; rw [if_pos (by omega)]
              simp [hd, this, h16]
            · have e1 : Gn (n + 1) t2 = (pG num6 ((d :: t2).length + 1) true (n + 1) [] t2).map (·.2) := by
                unfold Gn; rw [if_neg (by omega), pG_fuel num6_short (t2.length + 1) ((d :: t2).length + 1) true (n + 1) [] t2 (by omega) (by simp; omega)]
              rw [e1]
              cases hp : pG num6 ((d :: t2).length + 1) true (n + 1) [] t2 with
              | none => simp [hd, h16]
              | some z =>
                obtain ⟨i, t3⟩ := z
                have h4 := pG_empty num6_short _ _ _ _ _ _ hp
                cases t3 with
                | nil => simp [hd, h16]
                | cons e t4 =>
                  simp only [List.length_cons] at h4
                  by_cases h6 : e = 41
                  · by_cases h7 : c = 42 ∧ i.empty = true
                    · have h8 : c = 42 ∧ t4.length + 1 = t2.length := ⟨h7.1, h4.1.1 h7.2⟩
                      simp [hd, h16, h6, h7, h8.2]
                    · have h8 : ¬ (c = 42 ∧ t4.length + 1 = t2.length) := fun q => h7 ⟨q.1, h4.1.2 q.2⟩
                      simp [hd, h16, h6, h7, h8]
                  · simp [hd, h16, h6]
          · simp [hd]
      · simp only [if_neg h3]
        have h4 : c = 60 := by
          unfold isSign at hc
          simp only [Bool.or_eq_true, beq_iff_eq] at hc
          rcases hc with ((h | h) | h) | h
          · exact absurd h h1
          · exact absurd h h2
          · exact absurd h h3
          · exact h
        simp only [if_pos h4]
        by_cases h16 : 16 ≤ n
        · have e : Gn (n + 1) = fun _ => none := by funext t; unfold Gn; rw [if_pos (by omega)]
          rw [e, armsF_none, if_pos h16]; rfl
        · rw [if_neg h16, armsF_pG (n + 1) (by omega) _ _ _ (by omega)]
          cases pG num6 (t1.length + 1) false (n + 1) [] t1 <;> rfl
theorem Gn_nil (n : Nat) (hn : n ≤ 16) : Gn n [] = some [] := by
  unfold Gn; rw [if_neg (by omega)]; simp [pG]
theorem Gn_stop (n : Nat) (hn : n ≤ 16) (c : UInt8) (t1 : List UInt8) (hc : isSign c = false) : Gn n (c :: t1) = some (c :: t1) := by
  unfold Gn; rw [if_neg (by omega), pG_row, if_neg (by simp [hc])]; rfl
theorem Gn_step (n : Nat) (hn : n ≤ 16) (c : UInt8) (t1 : List UInt8) (hc : isSign c = true) : Gn n (c :: t1) = (sr n c t1).bind (Gn n) := by
  rw [sr_sg n hn c t1 hc]
  unfold Gn
  rw [if_neg (by omega), List.length_cons, pG_row2 num6 _ _ _ _ _ hc]
  cases hq : sg num6 (t1.length + 1) n c t1 with
  | none => rfl
  | some q =>
    obtain ⟨x, t2⟩ := q
    have h1 := sg_leN num6_short hq
    simp only [Option.bind_some, Option.map_some]
    rw [if_neg (by omega), pG_fuel num6_short (t1.length + 1) (t2.length + 1) true n [] t2 (by omega) (by omega)]
    cases pG num6 (t2.length + 1) true n [] t2 <;> rfl
theorem sr_le {n : Nat} (hn : n ≤ 16) {c : UInt8} {t1 t2 : List UInt8} (hc : isSign c = true) (h : sr n c t1 = some t2) : t2.length ≤ t1.length := by
  rw [sr_sg n hn c t1 hc] at h
  cases hq : sg num6 (t1.length + 1) n c t1 with
  | none => rw [hq] at h; cases h
  | some q =>
    obtain ⟨x, t3⟩ := q
    rw [hq] at h
    simp only [Option.map_some, Option.some.injEq] at h
    rw [← h]; exact sg_leN num6_short hq
end Go.Proofs.YtjogcdkebplcpaaGreatDoor
