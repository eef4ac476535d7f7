/-
  A row that grows in memory; a choice's arms. No condition.
-/
import Derived.Test.YtjogcdkebplcpaaGreatDoorBk
namespace Go.Proofs.YtjogcdkebplcpaaGreatDoor
open Go.RowKit Sch

theorem owns_lt {w : World} {e sz : Nat} {v : Value} {n : Nat} {xs : List Value} (h : w.ownsRow 0 e sz v n xs) {g : Nat} (hg : v.ownBlock = some g) : g < w.heap.size := by
  rcases h.2 with ⟨e, _⟩ | ⟨g', cap, cur, e, _, hb, _⟩
  · rw [e] at hg; cases hg
  · rw [e] at hg
    have : g' = g := by simpa [Value.ownBlock] using hg
    subst this
    exact (Array.getElem?_eq_some_iff.1 hb).1
theorem cellsL.lt {w : World} {A : Nat → Prop} : ∀ (r : Row) (xs : List Value), cellsL w A r xs → cellsL w (fun k => A k ∧ k < w.heap.size) r xs
  | .nil, _, h => h
  | .one _ r, _, ⟨ys, h1, h2⟩ => ⟨ys, h1, cellsL.lt r ys h2⟩
  | .num _ _ r, _, ⟨ys, h1, h2⟩ => ⟨ys, h1, cellsL.lt r ys h2⟩
  | .opt _ i r, _, ⟨v, zs, ys, h1, ⟨h2, h3, h4⟩, h5⟩ => ⟨v, zs, ys, h1, ⟨h2, cellsL.lt i zs h3, fun g hg => ⟨h4 g hg, owns_lt h2 hg⟩⟩, cellsL.lt r ys h5⟩
  | .ch i r, _, ⟨v, zs, ys, h1, ⟨h2, h3, h4⟩, h5⟩ => ⟨v, zs, ys, h1, ⟨h2, cellsL.lt i zs h3, fun g hg => ⟨h4 g hg, owns_lt h2 hg⟩⟩, cellsL.lt r ys h5⟩
  | .arm _ i r, _, ⟨v, zs, ys, h1, ⟨h2, h3, h4⟩, h5⟩ => ⟨v, zs, ys, h1, ⟨h2, cellsL.lt i zs h3, fun g hg => ⟨h4 g hg, owns_lt h2 hg⟩⟩, cellsL.lt r ys h5⟩

/-- The slice v is the row r, in blocks from B on; what stands in it lies in none of its own. -/
def Own (w : World) (B e sz : Nat) (v : Value) (r : Row) : Prop := ∃ zs, w.ownsRow 0 e sz v r.len zs ∧ cellsL w (fun k => (B ≤ k ∧ v.ownBlock ≠ some k) ∧ k < w.heap.size) r zs ∧ ∀ g, v.ownBlock = some g → B ≤ g
theorem Own.nil (w : World) (B e sz : Nat) : Own w B e sz nilS .nil := ⟨[], ⟨by simp [Row.len], .inl ⟨rfl, rfl⟩⟩, rfl, fun _ h => by cases h⟩
theorem Own.sl {w : World} {B e sz : Nat} {v : Value} {r : Row} (h : Own w B e sz v r) : SlR w (fun k => B ≤ k) e sz v r := by
  obtain ⟨zs, h1, h2, h3⟩ := h
  exact ⟨zs, h1, cellsL.kept (fun k hk => hk.1.1) (fun _ _ _ => rfl) r zs h2, h3⟩
theorem Own.kept {w w' : World} {p B e sz : Nat} {v : Value} {r : Row} (h : Own w B e sz v r) (hp : p < B) (f : FrP p w w') : Own w' B e sz v r := by
  obtain ⟨zs, h1, h2, h3⟩ := h
  refine ⟨zs, owns_kept h1 fun k hk hl => f.block k hl (by have := h3 k hk; omega), cellsL.kept (fun k hk => ⟨hk.1, Nat.lt_of_lt_of_le hk.2 f.size⟩) (fun k hk hl => f.block k hl (by have := hk.1.1; omega)) r zs h2, h3⟩
/-- Below the size of the elder world all stands. -/
theorem Own.below {w w' : World} {B e sz : Nat} {v : Value} {r : Row} (h : Own w B e sz v r) (f : Below w.heap.size w w') : Own w' B e sz v r := by
  obtain ⟨zs, h1, h2, h3⟩ := h
  exact ⟨zs, owns_kept h1 fun k _ hl => f.block k hl, cellsL.kept (fun k hk => ⟨hk.1, Nat.lt_of_lt_of_le hk.2 f.size⟩) (fun k _ hl => f.block k hl) r zs h2, h3⟩

theorem Own.push {wr ws wb w1 : World} {p B e sz g cap m : Nat} {v : Value} {r x : Row} {zs news : List Value}
    (h1 : wr.ownsRow 0 e sz v r.len zs) (h2 : cellsL wr (fun k => (B ≤ k ∧ v.ownBlock ≠ some k) ∧ k < wr.heap.size) r zs) (h3 : ∀ g, v.ownBlock = some g → B ≤ g)
    (hp : p < B) (hB : B ≤ wr.heap.size) (hf : FrP p wr ws) (hx : cellsL ws (fun k => wr.heap.size ≤ k) x news) (hb : FrP p ws wb)
    (hgrow : wb.grownBy w1 v.ownBlock) (hat : v.ownBlock = some g ∨ g = wb.heap.size) (hm : m = (r.app x).len)
    (hown : w1.ownsRow 0 e sz (.slice (some ⟨g, 0, none⟩) m cap) m (zs ++ news)) : Own w1 B e sz (.slice (some ⟨g, 0, none⟩) m cap) (r.app x) := by
  have s1 := hf.size
  have s2 := hb.size
  have s3 := hgrow.size
  have hob : Value.ownBlock (.slice (some ⟨g, 0, none⟩) m cap) = some g := rfl
  have hgB : B ≤ g := by
    rcases hat with e | e
    · exact h3 g e
    · omega
  refine ⟨zs ++ news, by rw [← hm]; exact hown, cellsL.app _ _ _ _ ?_ ?_, ?_⟩
  · have hAB : ∀ k, ((B ≤ k ∧ v.ownBlock ≠ some k) ∧ k < wr.heap.size) → ((B ≤ k ∧ Value.ownBlock (.slice (some ⟨g, 0, none⟩) m cap) ≠ some k) ∧ k < w1.heap.size) := by
      intro k hk
      refine ⟨⟨hk.1.1, ?_⟩, by have := hk.2; omega⟩
      rw [hob]; intro e2
      have e3 : g = k := by simpa using e2
      rcases hat with e | e
      · exact hk.1.2 (by rw [e, e3])
      · have := hk.2; omega
    refine cellsL.kept hAB (fun k hk hl => ?_) r zs h2
    have hk1 := hk.1.1
    exact (hgrow.block k (by omega) (fun e => hk.1.2 e.symm)).trans ((hb.block k (by omega) (by omega)).trans (hf.block k (by omega) (by omega)))
  · have hAB : ∀ k, (wr.heap.size ≤ k ∧ k < ws.heap.size) → ((B ≤ k ∧ Value.ownBlock (.slice (some ⟨g, 0, none⟩) m cap) ≠ some k) ∧ k < w1.heap.size) := by
      intro k hk
      refine ⟨⟨by omega, ?_⟩, by omega⟩
      rw [hob]; intro e2
      have e3 : g = k := by simpa using e2
      rcases hat with e | e
      · have := owns_lt h1 e; omega
      · omega
    refine cellsL.kept hAB (fun k hk hl => ?_) x news (cellsL.lt x news hx)
    refine (hgrow.block k (by omega) (fun e => ?_)).trans (hb.block k (by omega) (by omega))
    have := owns_lt h1 e.symm; omega
  · intro g' hg'
    have : g = g' := by simpa [Value.ownBlock] using hg'
    omega
theorem FrP.grown {p : Nat} {w a b : World} {v : Value} (h : FrP p w a) (hg : a.grownBy b v.ownBlock) (hv : ∀ k, v.ownBlock = some k → w.heap.size ≤ k) : FrP p w b :=
  ⟨hg.os.trans h.os, hg.tape.trans h.tape, hg.output.trans h.output, Nat.le_trans h.size hg.size, fun k hk hp => (hg.block k (Nat.lt_of_lt_of_le hk h.size) (fun e => by have := hv k e.symm; omega)).trans (h.block k hk hp)⟩
theorem Pa.kept {w w' : World} {p : Nat} {t : List UInt8} {n : Nat} (h : Pa w p t n) (e : w'.heap[p]? = w.heap[p]?) : Pa w' p t n := e.trans h

/-- A choice's numbers. -/
def keys : Row → List Int
  | .arm k _ r => k :: keys r
  | _ => []
def armsOnly : Row → Prop
  | .nil => True
  | .arm _ _ r => armsOnly r
  | _ => False
theorem arms_app (k : Int) (i : Row) : ∀ r : Row, armsOnly r → armsOnly (r.app (.arm k i .nil)) ∧ keys (r.app (.arm k i .nil)) = keys r ++ [k]
  | .nil, _ => ⟨trivial, rfl⟩
  | .arm k' i' r, h => by
    have := arms_app k i r h
    exact ⟨this.1, by simp only [Row.app, keys, this.2]; rfl⟩
  | .one _ _, h => h.elim
  | .num _ _ _, h => h.elim
  | .opt _ _ _, h => h.elim
  | .ch _ _, h => h.elim
theorem arms_len : ∀ r : Row, armsOnly r → r.len = (keys r).length
  | .nil, _ => rfl
  | .arm k' i' r, h => by
    have := arms_len r h
    simp only [Row.len, keys, List.length_cons, this]
  | .one _ _, h => h.elim
  | .num _ _ _, h => h.elim
  | .opt _ _ _, h => h.elim
  | .ch _ _, h => h.elim
theorem arms_cells {w : World} {A : Nat → Prop} : ∀ (r : Row) (zs : List Value), armsOnly r → cellsL w A r zs → ∀ j (hj : j < (keys r).length), zs[2 * j]? = some (.int .i64 (keys r)[j]) ∧ ∃ so l c, zs[2 * j + 1]? = some (.slice so l c)
  | .nil, _, _, _, j, hj => by simp [keys] at hj
  | .arm k i r, _, ha, ⟨v, us, ys, h1, h2, h3⟩, j, hj => by
    subst h1
    cases j with
    | zero =>
      refine ⟨rfl, ?_⟩
      rcases h2.1.2 with ⟨e, _⟩ | ⟨g, cap, cur, e, _⟩
      · exact ⟨none, 0, 0, by rw [e]; rfl⟩
      · exact ⟨_, _, _, by rw [e]; rfl⟩
    | succ j =>
      have hj' : j < (keys r).length := by simpa [keys] using hj
      have := arms_cells r ys ha h3 j hj'
      simpa [keys, Nat.mul_succ, Nat.mul_add] using this
  | .one _ _, _, h, _, _, _ => h.elim
  | .num _ _ _, _, h, _, _, _ => h.elim
  | .opt _ _ _, _, h, _, _, _ => h.elim
  | .ch _ _, _, h, _, _, _ => h.elim

/-- Behind an arm. -/
def shut (num : NumP) (f n : Nat) (seen : List Int) (k : Int) (i : Row) : List UInt8 → Option (Row × List UInt8)
  | [] => none
  | d :: t2 => if d = 44 then (pG num f false n (seen ++ [k]) t2).map fun p => (.arm k i p.1, p.2) else if d = 62 then some (.arm k i .nil, t2) else none
theorem pG_arms (num : NumP) (f n : Nat) (seen : List Int) (t : List UInt8) :
    pG num (f + 1) false n seen t = match ar num f n t with | none => none | some ((k, i), t3) => if k ∈ seen ∨ (-1 : Int) ∈ seen then none else shut num f n seen k i t3 := by
  conv => lhs; unfold pG
  unfold ar
  cases key num t with
  | none => rfl
  | some y =>
    obtain ⟨k, t1⟩ := y
    simp only
    cases pG num f true n [] t1 with
    | none => rfl
    | some z =>
      obtain ⟨i, t3⟩ := z
      cases t3 with
      | nil => simp [shut]
      | cons d t2 => simp [shut]
theorem ar_lt {num : NumP} (hs : Short num) {f n : Nat} {t : List UInt8} {q : Int × Row} {t3 : List UInt8} (h : ar num f n t = some (q, t3)) : t3.length + 2 ≤ t.length := by
  unfold ar at h
  cases hk : key num t with
  | none => rw [hk] at h; cases h
  | some y =>
    obtain ⟨k, t1⟩ := y
    rw [hk] at h
    have h1 := key_lt hs hk
    cases hp : pG num f true n [] t1 with
    | none => simp [hp] at h
    | some z =>
      obtain ⟨i, t4⟩ := z
      have h2 := pG_le hs _ _ _ _ _ _ _ hp
      simp [hp] at h
      obtain ⟨_, rfl⟩ := h
      omega
end Go.Proofs.YtjogcdkebplcpaaGreatDoor
