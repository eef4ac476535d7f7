/-
  A row of signs in memory; a sign, a bracket and a row as the parser's calls tell them. No condition.
-/
import Derived.Test.YtjogcdkebplcpaaGreatDoorNu
namespace Go.Proofs.YtjogcdkebplcpaaGreatDoor
open Go.RowKit Sch

abbrev nilS : Value := .slice none 0 0
/-- The cells of a row; what stands in it lies in blocks of A. -/
def cellsL (w : World) (A : Nat → Prop) : Row → List Value → Prop
  | .nil, xs => xs = []
  | .one c r, xs => ∃ ys, xs = .int .u8 c.toNat :: .int .i64 0 :: nilS :: nilS :: ys ∧ cellsL w A r ys
  | .num c n r, xs => ∃ ys, xs = .int .u8 c.toNat :: .int .i64 n :: nilS :: nilS :: ys ∧ cellsL w A r ys
  | .opt c i r, xs => ∃ v zs ys, xs = .int .u8 c.toNat :: .int .i64 0 :: v :: nilS :: ys ∧ (w.ownsRow 0 92 4 v i.len zs ∧ cellsL w A i zs ∧ ∀ g, v.ownBlock = some g → A g) ∧ cellsL w A r ys
  | .ch a r, xs => ∃ v zs ys, xs = .int .u8 60 :: .int .i64 0 :: nilS :: v :: ys ∧ (w.ownsRow 0 114 2 v a.len zs ∧ cellsL w A a zs ∧ ∀ g, v.ownBlock = some g → A g) ∧ cellsL w A r ys
  | .arm k i r, xs => ∃ v zs ys, xs = .int .i64 k :: v :: ys ∧ (w.ownsRow 0 92 4 v i.len zs ∧ cellsL w A i zs ∧ ∀ g, v.ownBlock = some g → A g) ∧ cellsL w A r ys
/-- The slice v is the row r. -/
def SlR (w : World) (A : Nat → Prop) (e sz : Nat) (v : Value) (r : Row) : Prop := ∃ zs, w.ownsRow 0 e sz v r.len zs ∧ cellsL w A r zs ∧ ∀ g, v.ownBlock = some g → A g

theorem owns_kept {w w' : World} {e sz : Nat} {v : Value} {n : Nat} {xs : List Value} (h : w.ownsRow 0 e sz v n xs) (hb : ∀ k, v.ownBlock = some k → k < w.heap.size → w'.heap[k]? = w.heap[k]?) : w'.ownsRow 0 e sz v n xs := by
  refine ⟨h.1, ?_⟩
  rcases h.2 with e | ⟨g, cap, cur, e1, e2, hg, r⟩
  · exact .inl e
  · exact .inr ⟨g, cap, cur, e1, e2, (hb g (by rw [e1]; rfl) (Array.getElem?_eq_some_iff.1 hg).1).trans hg, r⟩

theorem cellsL.kept {w w' : World} {A B : Nat → Prop} (hAB : ∀ k, A k → B k) (hb : ∀ k, A k → k < w.heap.size → w'.heap[k]? = w.heap[k]?) : ∀ (r : Row) (xs : List Value), cellsL w A r xs → cellsL w' B r xs
  | .nil, _, h => h
  | .one _ r, _, ⟨ys, h1, h2⟩ => ⟨ys, h1, cellsL.kept hAB hb r ys h2⟩
  | .num _ _ r, _, ⟨ys, h1, h2⟩ => ⟨ys, h1, cellsL.kept hAB hb r ys h2⟩
  | .opt _ i r, _, ⟨v, zs, ys, h1, ⟨h2, h3, h4⟩, h5⟩ => ⟨v, zs, ys, h1, ⟨owns_kept h2 fun k hk hl => hb k (h4 k hk) hl, cellsL.kept hAB hb i zs h3, fun g hg => hAB g (h4 g hg)⟩, cellsL.kept hAB hb r ys h5⟩
  | .ch i r, _, ⟨v, zs, ys, h1, ⟨h2, h3, h4⟩, h5⟩ => ⟨v, zs, ys, h1, ⟨owns_kept h2 fun k hk hl => hb k (h4 k hk) hl, cellsL.kept hAB hb i zs h3, fun g hg => hAB g (h4 g hg)⟩, cellsL.kept hAB hb r ys h5⟩
  | .arm _ i r, _, ⟨v, zs, ys, h1, ⟨h2, h3, h4⟩, h5⟩ => ⟨v, zs, ys, h1, ⟨owns_kept h2 fun k hk hl => hb k (h4 k hk) hl, cellsL.kept hAB hb i zs h3, fun g hg => hAB g (h4 g hg)⟩, cellsL.kept hAB hb r ys h5⟩

theorem SlR.kept {w w' : World} {A B : Nat → Prop} {e sz : Nat} {v : Value} {r : Row} (h : SlR w A e sz v r) (hAB : ∀ k, A k → B k) (hb : ∀ k, A k → k < w.heap.size → w'.heap[k]? = w.heap[k]?) : SlR w' B e sz v r := by
  obtain ⟨zs, h1, h2, h3⟩ := h
  exact ⟨zs, owns_kept h1 fun k hk hl => hb k (h3 k hk) hl, cellsL.kept hAB hb r zs h2, fun g hg => hAB g (h3 g hg)⟩

theorem cellsL.app {w : World} {A : Nat → Prop} : ∀ (r r' : Row) (xs ys : List Value), cellsL w A r xs → cellsL w A r' ys → cellsL w A (r.app r') (xs ++ ys)
  | .nil, _, _, _, h, h' => by rw [h]; exact h'
  | .one _ r, r', _, ys, ⟨zs, h1, h2⟩, h' => ⟨zs ++ ys, by rw [h1]; rfl, cellsL.app r r' zs ys h2 h'⟩
  | .num _ _ r, r', _, ys, ⟨zs, h1, h2⟩, h' => ⟨zs ++ ys, by rw [h1]; rfl, cellsL.app r r' zs ys h2 h'⟩
  | .opt _ _ r, r', _, ys, ⟨v, us, zs, h1, h3, h2⟩, h' => ⟨v, us, zs ++ ys, by rw [h1]; rfl, h3, cellsL.app r r' zs ys h2 h'⟩
  | .ch _ r, r', _, ys, ⟨v, us, zs, h1, h3, h2⟩, h' => ⟨v, us, zs ++ ys, by rw [h1]; rfl, h3, cellsL.app r r' zs ys h2 h'⟩
  | .arm _ _ r, r', _, ys, ⟨v, us, zs, h1, h3, h2⟩, h' => ⟨v, us, zs ++ ys, by rw [h1]; rfl, h3, cellsL.app r r' zs ys h2 h'⟩
theorem len_app : ∀ (r r' : Row), (r.app r').len = r.len + r'.len
  | .nil, _ => by simp [Row.app, Row.len]
  | .one _ r, r' => by simp only [Row.app, Row.len, len_app r r']; omega
  | .num _ _ r, r' => by simp only [Row.app, Row.len, len_app r r']; omega
  | .opt _ _ r, r' => by simp only [Row.app, Row.len, len_app r r']; omega
  | .ch _ r, r' => by simp only [Row.app, Row.len, len_app r r']; omega
  | .arm _ _ r, r' => by simp only [Row.app, Row.len, len_app r r']; omega

/-- One sign. -/
def isSign (c : UInt8) : Bool := isOne c || isNum c || isOpt c || c == 60
def bk (num : NumP) (f n : Nat) (t1 : List UInt8) : Option (Row × List UInt8) :=
  match t1 with
  | [] => none
  | d :: t2 =>
    if d ≠ 40 ∨ 16 ≤ n then none
    else match pG num f true (n + 1) [] t2 with
      | some (i, e :: t3) => if e ≠ 41 then none else some (i, t3)
      | _ => none
def sg (num : NumP) (f n : Nat) (c : UInt8) (t1 : List UInt8) : Option (Row × List UInt8) :=
  if isOne c then some (.one c .nil, t1)
  else if isNum c then (num t1).map fun p => (.num c p.1 .nil, p.2)
  else if isOpt c then
    match bk num f n t1 with
    | none => none
    | some (i, t3) => if c = 42 ∧ i.empty = true then none else some (.opt c i .nil, t3)
  else if c = 60 then
    if 16 ≤ n then none
    else (pG num f false (n + 1) [] t1).map fun p => (.ch p.1 .nil, p.2)
  else none

theorem pG_row (num : NumP) (f n : Nat) (seen : List Int) (c : UInt8) (t1 : List UInt8) :
    pG num (f + 1) true n seen (c :: t1) = if isSign c then (match sg num f n c t1 with | none => none | some (x, t2) => (pG num f true n [] t2).map fun p => (x.app p.1, p.2)) else some (.nil, c :: t1) := by
  conv => lhs; unfold pG
  unfold isSign sg
  by_cases h1 : isOne c = true
  · simp [h1, Row.app]
  · by_cases h2 : isNum c = true
    · simp only [h1, h2, if_true]
      cases num t1 with
      | none => simp
      | some p => simp [Row.app]
    · by_cases h3 : isOpt c = true
      · simp only [h1, h2, h3]
        unfold bk
        cases t1 with
        | nil => simp
        | cons d t2 =>
          simp only []
          by_cases h4 : d ≠ 40 ∨ 16 ≤ n
          · simp [h4]
          · simp only [h4]
            cases h5 : pG num f true (n + 1) [] t2 with
            | none => simp
            | some q =>
              obtain ⟨i, t3⟩ := q
              cases t3 with
              | nil => simp
              | cons e t4 =>
                by_cases h6 : e = 41
                · by_cases h7 : c = 42 ∧ i.empty = true
                  · simp [h6, h7]
                  · simp [h6, h7, Row.app]
                · simp [h6]
      · by_cases h4 : c = 60
        · have h4' : (c == 60) = true := by simp [h4]
          dsimp only
          rw [if_pos (show (isOne c || isNum c || isOpt c || c == 60) = true by simp [h4'])]
          repeat rw [if_neg h1]
          repeat rw [if_neg h2]
          repeat rw [if_neg h3]
          repeat rw [if_pos h4]
          by_cases h5 : 16 ≤ n
          · simp [h5]
          · cases h6 : pG num f false (n + 1) [] t1 with
            | none => simp [h5]
            | some q => simp [h5, Row.app]
        · simp [h1, h2, h3, h4]
end Go.Proofs.YtjogcdkebplcpaaGreatDoor
