/-
  Forms: what a text of signs is read as, by the program's rule for numbers and by the document's, and that both tell the same forms. No condition.
-/
import Derived.Test.YtjogcdkebplcpaaGreatDoorRows
namespace Go.Proofs.YtjogcdkebplcpaaGreatDoor
namespace Sch

/-- A row of signs, or a list of arms. -/
inductive Row where
  | nil : Row
  | one (c : UInt8) (r : Row) : Row
  | num (c : UInt8) (n : Nat) (r : Row) : Row
  | opt (c : UInt8) (inner r : Row) : Row
  | ch (arms r : Row) : Row
  | arm (k : Int) (inner r : Row) : Row

def Row.app : Row → Row → Row
  | .nil, x => x
  | .one c r, x => .one c (r.app x)
  | .num c n r, x => .num c n (r.app x)
  | .opt c i r, x => .opt c i (r.app x)
  | .ch a r, x => .ch a (r.app x)
  | .arm k i r, x => .arm k i (r.app x)
theorem Row.app_nil : ∀ r : Row, r.app .nil = r
  | .nil => rfl
  | .one c r => by rw [Row.app, Row.app_nil r]
  | .num c n r => by rw [Row.app, Row.app_nil r]
  | .opt c i r => by rw [Row.app, Row.app_nil r]
  | .ch a r => by rw [Row.app, Row.app_nil r]
  | .arm k i r => by rw [Row.app, Row.app_nil r]
theorem Row.app_assoc : ∀ (a b c : Row), (a.app b).app c = a.app (b.app c)
  | .nil, _, _ => rfl
  | .one _ r, b, c => by simp only [Row.app, Row.app_assoc r b c]
  | .num _ _ r, b, c => by simp only [Row.app, Row.app_assoc r b c]
  | .opt _ _ r, b, c => by simp only [Row.app, Row.app_assoc r b c]
  | .ch _ r, b, c => by simp only [Row.app, Row.app_assoc r b c]
  | .arm _ _ r, b, c => by simp only [Row.app, Row.app_assoc r b c]
def Row.len : Row → Nat
  | .nil => 0
  | .one _ r => r.len + 1
  | .num _ _ r => r.len + 1
  | .opt _ _ r => r.len + 1
  | .ch _ r => r.len + 1
  | .arm _ _ r => r.len + 1
def Row.empty : Row → Bool
  | .nil => true
  | _ => false

def isDig (c : UInt8) : Bool := 48 ≤ c && c ≤ 57
def digs (t : List UInt8) : List UInt8 := (t.take 5).takeWhile isDig
def decOf (d : List UInt8) : Nat := d.foldl (fun n c => 10 * n + (c.toNat - 48)) 0
/-- A number at the head: at most five digits, no nought ahead. -/
def num5 (t : List UInt8) : Option (Nat × List UInt8) :=
  if digs t = [] ∨ (1 < (digs t).length ∧ t.head? = some 48) then none else some (decOf (digs t), t.drop (digs t).length)
/-- The same where six digits are none. -/
def headDig (t : List UInt8) : Bool := match t with | [] => false | c :: _ => isDig c
def num6 (t : List UInt8) : Option (Nat × List UInt8) :=
  match num5 t with
  | none => none
  | some (n, r) => if headDig r then none else some (n, r)

abbrev NumP := List UInt8 → Option (Nat × List UInt8)
def isOne (c : UInt8) : Bool := c == 117 || c == 113 || c == 98
def isNum (c : UInt8) : Bool := c == 111 || c == 102
def isOpt (c : UInt8) : Bool := c == 63 || c == 42

/-- The key of an arm and its colon. -/
def key (num : NumP) (t : List UInt8) : Option (Int × List UInt8) :=
  match t with
  | [] => none
  | c :: t1 =>
    match (if c = 45 then some ((-1 : Int), t1) else (num t).map fun p => ((p.1 : Int), p.2)) with
    | some (k, d :: t2) => if d = 58 then some (k, t2) else none
    | _ => none

/-- row: a row of signs (what is left behind it); else: a choice's arms and its end. -/
def pG (num : NumP) : Nat → Bool → Nat → List Int → List UInt8 → Option (Row × List UInt8)
  | 0, _, _, _, _ => none
  | f + 1, true, n, _, t =>
    match t with
    | [] => some (.nil, [])
    | c :: t1 =>
      if isOne c then (pG num f true n [] t1).map fun p => (.one c p.1, p.2)
      else if isNum c then
        match num t1 with
        | none => none
        | some (k, t2) => (pG num f true n [] t2).map fun p => (.num c k p.1, p.2)
      else if isOpt c then
        match t1 with
        | [] => none
        | d :: t2 =>
          if d ≠ 40 ∨ 16 ≤ n then none
          else match pG num f true (n + 1) [] t2 with
            | some (i, e :: t3) => if e ≠ 41 ∨ (c = 42 ∧ i.empty = true) then none else (pG num f true n [] t3).map fun p => (.opt c i p.1, p.2)
            | _ => none
      else if c = 60 then
        if 16 ≤ n then none
        else match pG num f false (n + 1) [] t1 with
          | some (a, t2) => (pG num f true n [] t2).map fun p => (.ch a p.1, p.2)
          | none => none
      else some (.nil, t)
  | f + 1, false, n, seen, t =>
    match key num t with
    | none => none
    | some (k, t1) =>
      match pG num f true n [] t1 with
      | some (i, d :: t2) =>
        if k ∈ seen ∨ (-1 : Int) ∈ seen then none
        else if d = 44 then (pG num f false n (seen ++ [k]) t2).map fun p => (.arm k i p.1, p.2)
        else if d = 62 then some (.arm k i .nil, t2) else none
      | _ => none

theorem digs_le (t : List UInt8) : (digs t).length ≤ t.length := by
  unfold digs
  have h1 := (List.takeWhile_sublist (p := isDig) (l := t.take 5)).length_le
  have h2 : (t.take 5).length ≤ t.length := by simp; omega
  omega
theorem num5_lt {t : List UInt8} {n : Nat} {r : List UInt8} (h : num5 t = some (n, r)) : r.length < t.length := by
  unfold num5 at h
  split at h
  · cases h
  · rename_i hn
    simp at h
    obtain ⟨_, rfl⟩ := h
    have : 0 < (digs t).length := by
      cases hd : digs t with
      | nil => exact absurd (Or.inl hd) hn
      | cons a b => simp
    have := digs_le t
    simp; omega
theorem num6_of {t : List UInt8} {n : Nat} {r : List UInt8} (h : num6 t = some (n, r)) : num5 t = some (n, r) ∧ headDig r = false := by
  unfold num6 at h
  split at h
  · cases h
  · rename_i n' r' h5
    split at h
    · cases h
    · rename_i hd
      simp at h
      obtain ⟨rfl, rfl⟩ := h
      exact ⟨h5, by simpa using hd⟩
def Short (num : NumP) : Prop := ∀ t n r, num t = some (n, r) → r.length < t.length
theorem num5_short : Short num5 := fun _ _ _ h => num5_lt h
theorem num6_short : Short num6 := fun _ _ _ h => num5_lt (num6_of h).1
theorem key_lt {num : NumP} (hs : Short num) {t : List UInt8} {k : Int} {r : List UInt8} (h : key num t = some (k, r)) : r.length + 2 ≤ t.length := by
  unfold key at h
  split at h
  · cases h
  · rename_i c t1
    split at h
    · rename_i k' d t2 h2
      split at h
      · simp at h
        obtain ⟨rfl, rfl⟩ := h
        split at h2
        · simp at h2; obtain ⟨_, rfl⟩ := h2; simp
        · simp at h2
          obtain ⟨a, h3, _⟩ := h2
          have := hs _ _ _ h3
          simp at this ⊢; omega
      · cases h
    · cases h

/-- What is left is no longer. -/
theorem pG_le {num : NumP} (hs : Short num) : ∀ (f : Nat) (m : Bool) (n : Nat) (seen : List Int) (t : List UInt8) (r : Row) (t' : List UInt8), pG num f m n seen t = some (r, t') → t'.length ≤ t.length
  | 0, _, _, _, _, _, _, h => by simp [pG] at h
  | f + 1, true, n, seen, t, r, t', h => by
    have ih := pG_le hs f
    unfold pG at h
    split at h
    · simp at h; obtain ⟨_, rfl⟩ := h; simp
    · rename_i c t1
      split at h
      · simp at h; obtain ⟨a, h1, _⟩ := h; have := ih _ _ _ _ _ _ h1; simp; omega
      · split at h
        · split at h
          · cases h
          · rename_i k t2 h2
            simp at h; obtain ⟨a, h1, _⟩ := h; have := ih _ _ _ _ _ _ h1; have := hs _ _ _ h2; simp; omega
        · split at h
          · split at h
            · cases h
            · rename_i d t2
              split at h
              · cases h
              · split at h
                · rename_i i e t3 h3
                  split at h
                  · cases h
                  · simp at h; obtain ⟨a, h1, _⟩ := h; have := ih _ _ _ _ _ _ h1; have := ih _ _ _ _ _ _ h3; simp at *; omega
                · cases h
          · split at h
            · split at h
              · cases h
              · split at h
                · rename_i a t2 h2
                  simp at h; obtain ⟨b, h1, _⟩ := h; have := ih _ _ _ _ _ _ h1; have := ih _ _ _ _ _ _ h2; simp; omega
                · cases h
            · simp at h; obtain ⟨_, rfl⟩ := h; simp
  | f + 1, false, n, seen, t, r, t', h => by
    have ih := pG_le hs f
    unfold pG at h
    split at h
    · cases h
    · rename_i k t1 hk
      have := key_lt hs hk
      split at h
      · rename_i i d t2 h2
        have := ih _ _ _ _ _ _ h2
        split at h
        · cases h
        · split at h
          · simp at h; obtain ⟨b, h1, _⟩ := h; have := ih _ _ _ _ _ _ h1; simp at *; omega
          · split at h
            · simp at h; obtain ⟨_, rfl⟩ := h; simp at *; omega
            · cases h
      · cases h

/-- Fuel beyond the length makes no difference. -/
theorem pG_fuel {num : NumP} (hs : Short num) : ∀ (f g : Nat) (m : Bool) (n : Nat) (seen : List Int) (t : List UInt8), t.length < f → t.length < g → pG num f m n seen t = pG num g m n seen t
  | 0, _, _, _, _, _, h, _ => by omega
  | _, 0, _, _, _, _, _, h => by omega
  | f + 1, g + 1, true, n, seen, t, hf, hg => by
    have ih := pG_fuel hs f g
    unfold pG
    cases t with
    | nil => rfl
    | cons c t1 =>
      simp at hf hg
      simp only []
      rw [ih true n [] t1 (by omega) (by omega)]
      split
      · rfl
      · split
        · split
          · rfl
          · rename_i k t2 h2
            have := hs _ _ _ h2
            rw [ih true n [] t2 (by omega) (by omega)]
        · split
          · cases t1 with
            | nil => rfl
            | cons d t2 =>
              simp at hf hg
              simp only []
              rw [ih true (n + 1) [] t2 (by omega) (by omega)]
              split
              · rfl
              · split
                · rename_i i e t3 h3
                  have := pG_le hs _ _ _ _ _ _ _ h3
                  simp at this
                  rw [ih true n [] t3 (by omega) (by omega)]
                · rfl
          · rw [ih false (n + 1) [] t1 (by omega) (by omega)]
            split
            · split
              · rfl
              · split
                · rename_i a t2 h2
                  have := pG_le hs _ _ _ _ _ _ _ h2
                  rw [ih true n [] t2 (by omega) (by omega)]
                · rfl
            · rfl
  | f + 1, g + 1, false, n, seen, t, hf, hg => by
    have ih := pG_fuel hs f g
    unfold pG
    split
    · rfl
    · rename_i k t1 hk
      have := key_lt hs hk
      rw [ih true n [] t1 (by omega) (by omega)]
      split
      · rename_i i d t2 h2
        have := pG_le hs _ _ _ _ _ _ _ h2
        simp at this
        rw [ih false n (seen ++ [k]) t2 (by omega) (by omega)]
      · rfl

theorem key_56 (t : List UInt8) : key num6 t = key num5 t := by
  unfold key
  split
  · rfl
  · rename_i c t1
    by_cases hc : c = 45
    · simp [hc]
    · simp only [hc, if_false]
      unfold num6
      cases h5 : num5 (c :: t1) with
      | none => rfl
      | some p =>
        obtain ⟨n, r⟩ := p
        cases r with
        | nil => rfl
        | cons d t2 =>
          by_cases hd : isDig d = true
          · have : ¬ d = 58 := by intro e; subst e; revert hd; decide
            simp [headDig, hd, this]
          · simp [headDig, hd]

theorem dig_stop {c : UInt8} (h : isDig c = true) : isOne c = false ∧ isNum c = false ∧ isOpt c = false ∧ c ≠ 60 ∧ c ≠ 41 ∧ c ≠ 44 ∧ c ≠ 62 := by
  have h1 : 48 ≤ c.toNat ∧ c.toNat ≤ 57 := by
    unfold isDig at h
    simp only [Bool.and_eq_true, decide_eq_true_eq, UInt8.le_iff_toNat_le] at h
    exact h
  have ne : ∀ k : UInt8, (k.toNat < 48 ∨ 57 < k.toNat) → c ≠ k := by
    intro k hk e; subst e; omega
  refine ⟨?_, ?_, ?_, ne _ (by decide), ne _ (by decide), ne _ (by decide), ne _ (by decide)⟩
  · simp [isOne, ne 117 (by decide), ne 113 (by decide), ne 98 (by decide)]
  · simp [isNum, ne 111 (by decide), ne 102 (by decide)]
  · simp [isOpt, ne 63 (by decide), ne 42 (by decide)]

/-- What the stricter numbers refuse is refused, or ends at a digit. -/
def Stuck (x : Option (Row × List UInt8)) : Prop := x = none ∨ ∃ r t, x = some (r, t) ∧ headDig t = true
theorem Stuck.map {x : Option (Row × List UInt8)} (h : Stuck x) (g : Row → Row) : Stuck (x.map fun p => (g p.1, p.2)) := by
  rcases h with rfl | ⟨r, t, rfl, ht⟩
  · exact Or.inl rfl
  · exact Or.inr ⟨g r, t, rfl, ht⟩

theorem map_up {α β : Type} {a b : Option α} {g : α → β} {x : β} (h : a.map g = some x) (hab : ∀ y, a = some y → b = some y) : b.map g = some x := by
  cases a with
  | none => simp at h
  | some y => rw [hab y rfl]; exact h

theorem pG_some : ∀ (f : Nat) (m : Bool) (n : Nat) (seen : List Int) (t : List UInt8) (x : Row × List UInt8), pG num6 f m n seen t = some x → pG num5 f m n seen t = some x
  | 0, _, _, _, _, _, h => by simp [pG] at h
  | f + 1, true, n, seen, t, x, h => by
    have ih := pG_some f
    unfold pG at h ⊢
    split at h
    · exact h
    · rename_i c t1
      split at h
      · rename_i hc
        rw [if_pos hc]
        exact map_up h fun y hy => ih _ _ _ _ _ hy
      · rename_i hc
        rw [if_neg hc]
        split at h
        · rename_i hc2
          rw [if_pos hc2]
          split at h
          · cases h
          · rename_i k t2 h2
            rw [(num6_of h2).1]
            exact map_up h fun y hy => ih _ _ _ _ _ hy
        · rename_i hc2
          rw [if_neg hc2]
          split at h
          · rename_i hc3
            rw [if_pos hc3]
            split at h
            · cases h
            · rename_i d t2
              split at h
              · cases h
              · rename_i hd
                rw [if_neg hd]
                split at h
                · rename_i i e t3 h3
                  rw [ih _ _ _ _ _ h3]
                  simp only [] at h ⊢
                  split at h
                  · cases h
                  · rename_i he
                    rw [if_neg he]
                    exact map_up h fun y hy => ih _ _ _ _ _ hy
                · cases h
          · rename_i hc3
            rw [if_neg hc3]
            split at h
            · rename_i hc4
              rw [if_pos hc4]
              split at h
              · cases h
              · rename_i hn
                rw [if_neg hn]
                split at h
                · rename_i a t2 h2
                  rw [ih _ _ _ _ _ h2]
                  exact map_up h fun y hy => ih _ _ _ _ _ hy
                · cases h
            · rename_i hc4
              rw [if_neg hc4]
              exact h
  | f + 1, false, n, seen, t, x, h => by
    have ih := pG_some f
    unfold pG at h ⊢
    rw [key_56] at h
    split at h
    · cases h
    · rename_i k t1 hk
      split at h
      · rename_i i d t2 h2
        rw [ih _ _ _ _ _ h2]
        simp only [] at h ⊢
        split at h
        · cases h
        · rename_i hs
          rw [if_neg hs]
          split at h
          · rename_i hd
            rw [if_pos hd]
            exact map_up h fun y hy => ih _ _ _ _ _ hy
          · rename_i hd
            rw [if_neg hd]
            exact h
      · cases h

theorem pG_none : ∀ (f : Nat) (m : Bool) (n : Nat) (seen : List Int) (t : List UInt8), pG num6 f m n seen t = none → (m = true → Stuck (pG num5 f m n seen t)) ∧ (m = false → pG num5 f m n seen t = none)
  | 0, _, _, _, _, _ => ⟨fun _ => Or.inl rfl, fun _ => rfl⟩
  | f + 1, true, n, seen, t, h => by
    refine ⟨fun _ => ?_, fun e => by cases e⟩
    have ih := fun n seen t h => (pG_none f true n seen t h).1 rfl
    have ihA := fun n seen t h => (pG_none f false n seen t h).2 rfl
    have up := pG_some f
    unfold pG at h ⊢
    split at h
    · cases h
    · rename_i c t1
      split at h
      · rename_i hc
        rw [if_pos hc]
        simp at h
        exact (ih _ _ _ h).map (Row.one c)
      · rename_i hc
        rw [if_neg hc]
        split at h
        · rename_i hc2
          rw [if_pos hc2]
          split at h
          · rename_i h6
            cases h5 : num5 t1 with
            | none => exact Or.inl rfl
            | some p =>
              obtain ⟨k, t2⟩ := p
              have hd : headDig t2 = true := by
                unfold num6 at h6
                rw [h5] at h6
                simp only [] at h6
                split at h6
                · assumption
                · cases h6
              simp only []
              cases f with
              | zero => exact Or.inl rfl
              | succ f =>
                cases t2 with
                | nil => simp [headDig] at hd
                | cons d t3 =>
                  obtain ⟨e1, e2, e3, e4, _⟩ := dig_stop (c := d) hd
                  refine Or.inr ⟨.num c k .nil, d :: t3, ?_, hd⟩
                  unfold pG
                  simp [e1, e2, e3, e4]
          · rename_i k t2 h2
            rw [(num6_of h2).1]
            simp at h
            exact (ih _ _ _ h).map (Row.num c k)
        · rename_i hc2
          rw [if_neg hc2]
          split at h
          · rename_i hc3
            rw [if_pos hc3]
            split at h
            · exact Or.inl rfl
            · rename_i d t2
              split at h
              · rename_i hd; rw [if_pos hd]; exact Or.inl rfl
              · rename_i hd
                rw [if_neg hd]
                cases h6 : pG num6 f true (n + 1) [] t2 with
                | none =>
                  rcases ih _ _ _ h6 with e | ⟨i, t3, e, hd3⟩
                  · rw [e]; exact Or.inl rfl
                  · rw [e]
                    cases t3 with
                    | nil => exact Or.inl rfl
                    | cons x t4 =>
                      have := (dig_stop (c := x) hd3).2.2.2.2.1
                      simp only []
                      rw [if_pos (Or.inl this)]
                      exact Or.inl rfl
                | some p =>
                  obtain ⟨i, t3⟩ := p
                  rw [up _ _ _ _ _ h6]
                  rw [h6] at h
                  cases t3 with
                  | nil => exact Or.inl rfl
                  | cons x t4 =>
                    simp only [] at h ⊢
                    split at h
                    · rename_i hx; rw [if_pos hx]; exact Or.inl rfl
                    · rename_i hx
                      rw [if_neg hx]
                      simp at h
                      exact (ih _ _ _ h).map (Row.opt c i)
          · rename_i hc3
            rw [if_neg hc3]
            split at h
            · rename_i hc4
              rw [if_pos hc4]
              split at h
              · rename_i hn; rw [if_pos hn]; exact Or.inl rfl
              · rename_i hn
                rw [if_neg hn]
                cases h6 : pG num6 f false (n + 1) [] t1 with
                | none => rw [ihA _ _ _ h6]; exact Or.inl rfl
                | some p =>
                  obtain ⟨a, t2⟩ := p
                  rw [up _ _ _ _ _ h6]
                  rw [h6] at h
                  simp at h
                  exact (ih _ _ _ h).map (Row.ch a)
            · cases h
  | f + 1, false, n, seen, t, h => by
    refine ⟨(fun e => by cases e), fun _ => ?_⟩
    have ih := fun n seen t h => (pG_none f true n seen t h).1 rfl
    have ihA := fun n seen t h => (pG_none f false n seen t h).2 rfl
    have up := pG_some f
    unfold pG at h ⊢
    rw [key_56] at h
    split at h
    · rfl
    · rename_i k t1 hk
      cases h6 : pG num6 f true n [] t1 with
      | none =>
        rcases ih _ _ _ h6 with e | ⟨i, t3, e, hd3⟩
        · rw [e]
        · rw [e]
          cases t3 with
          | nil => rfl
          | cons x t4 =>
            obtain ⟨_, _, _, _, _, e1, e2⟩ := dig_stop (c := x) hd3
            simp [e1, e2]
      | some p =>
        obtain ⟨i, t3⟩ := p
        rw [up _ _ _ _ _ h6]
        rw [h6] at h
        cases t3 with
        | nil => rfl
        | cons x t4 =>
          simp only [] at h ⊢
          split at h
          · rename_i hs; rw [if_pos hs]
          · rename_i hs
            rw [if_neg hs]
            split at h
            · rename_i hd
              rw [if_pos hd]
              simp at h
              rw [ihA _ _ _ h]; rfl
            · rename_i hd
              rw [if_neg hd]
              split at h
              · cases h
              · rename_i hd2; rw [if_neg hd2]

/-- The whole form, by either number. -/
def form (num : NumP) (t : List UInt8) : Option Row :=
  if 1000 < t.length then none else
  match pG num (t.length + 1) true 0 [] t with
  | some (r, []) => some r
  | _ => none
theorem form_56 (t : List UInt8) : form num6 t = form num5 t := by
  unfold form
  split
  · rfl
  · cases h6 : pG num6 (t.length + 1) true 0 [] t with
    | none =>
      rcases (pG_none _ _ _ _ _ h6).1 rfl with e | ⟨i, t3, e, hd3⟩
      · rw [e]
      · rw [e]
        cases t3 with
        | nil => simp [headDig] at hd3
        | cons x t4 => rfl
    | some p => rw [pG_some _ _ _ _ _ _ h6]
end Sch
end Go.Proofs.YtjogcdkebplcpaaGreatDoor
