/-
  Which segment is the emptiest of equally old ones, and the oldest of equally full ones. No condition but the bounds.
-/
import Derived.Test.YtdfpfdkpgokflaaTb
namespace Go.Proofs.Ytdfpfdkpgokflaa
open Go.RowKit Ieee

theorem tA_at (n : Nat) (h : n < 101) : tA n = true := List.all_eq_true.1 all_A n (List.mem_range.2 h)
theorem tB_at (n : Nat) (h : n < 1000) : tB n = true := List.all_eq_true.1 all_B n (List.mem_range.2 h)
theorem okA (n : Nat) (h : n < 101) : okO (benO n 100 7) = true := by
  have := tA_at n h
  unfold tA at this
  simp only [Bool.and_eq_true] at this
  exact this.1
theorem okB (n : Nat) (h : n < 1000) : okO (benO 30 100 n) = true := by
  have := tB_at n h
  unfold tB at this
  simp only [Bool.and_eq_true] at this
  exact this.1
theorem keyA (n d : Nat) (h : n + d + 1 ≤ 100) : keyO (benO (n + d + 1 : Nat) 100 7) < keyO (benO n 100 7) := by
  induction d with
  | zero =>
    have := tA_at n (by omega)
    unfold tA at this
    simp only [Bool.and_eq_true, decide_eq_true_eq] at this
    exact this.2
  | succ d ih =>
    have := tA_at (n + d + 1) (by omega)
    unfold tA at this
    simp only [Bool.and_eq_true, decide_eq_true_eq] at this
    exact Int.lt_trans this.2 (ih (by omega))
theorem keyB (n d : Nat) (h : n + d + 1 ≤ 999) : keyO (benO 30 100 n) < keyO (benO 30 100 (n + d + 1 : Nat)) := by
  induction d with
  | zero =>
    have := tB_at n (by omega)
    unfold tB at this
    simp only [Bool.and_eq_true, decide_eq_true_eq] at this
    exact this.2
  | succ d ih =>
    have := tB_at (n + d + 1) (by omega)
    unfold tB at this
    simp only [Bool.and_eq_true, decide_eq_true_eq] at this
    exact Int.lt_trans (ih (by omega)) this.2
theorem lessA (m n : Nat) (hm : m ≤ 100) (hn : n ≤ 100) : lessO (benO m 100 7) (benO n 100 7) = decide (n < m) := by
  rw [less_key (okA m (by omega)) (okA n (by omega))]
  rcases Nat.lt_trichotomy n m with h | h | h
  · have := keyA n (m - n - 1) (by omega)
    rw [show n + (m - n - 1) + 1 = m from by omega] at this
    rw [decide_eq_true h, decide_eq_true this]
  · subst h; simp
  · have := keyA m (n - m - 1) (by omega)
    rw [show m + (n - m - 1) + 1 = n from by omega] at this
    rw [decide_eq_false (by omega), decide_eq_false (by omega)]
theorem lessBB (m n : Nat) (hm : m ≤ 999) (hn : n ≤ 999) : lessO (benO 30 100 m) (benO 30 100 n) = decide (m < n) := by
  rw [less_key (okB m (by omega)) (okB n (by omega))]
  rcases Nat.lt_trichotomy m n with h | h | h
  · have := keyB m (n - m - 1) (by omega)
    rw [show m + (n - m - 1) + 1 = n from by omega] at this
    rw [decide_eq_true h, decide_eq_true this]
  · subst h; simp
  · have := keyB n (m - n - 1) (by omega)
    rw [show n + (m - n - 1) + 1 = m from by omega] at this
    rw [decide_eq_false (by omega), decide_eq_false (by omega)]

/-- A number brought into bounds, as the law does it. -/
theorem tmod_in (x : Int) (m : Int) (hm : 0 < m) : (x.tmod m + m).tmod m = x % m := by
  have h1 : 0 ≤ x.tmod m + m := by
    have := Int.lt_tmod_of_pos x hm
    omega
  rw [Int.tmod_eq_emod_of_nonneg h1, Int.add_emod_right, Int.tmod_def, Int.sub_emod]
  simp
def nA (x : Int) : Nat := (x % 101).toNat
def nB (x : Int) : Nat := (x % 1000).toNat
theorem nA_le (x : Int) : nA x ≤ 100 := by unfold nA; omega
theorem nB_le (x : Int) : nB x ≤ 999 := by unfold nB; omega
theorem nA_eq (x : Int) : (wrap64 (x.tmod 101 + 101)).tmod 101 = (nA x : Int) := by
  have h1 := Int.lt_tmod_of_pos x (show (0 : Int) < 101 by decide)
  have h2 := Int.tmod_lt_of_pos x (show (0 : Int) < 101 by decide)
  have h3 : wrap64 (x.tmod 101 + 101) = x.tmod 101 + 101 := by unfold wrap64; omega
  rw [h3, tmod_in x 101 (by decide)]
  unfold nA; omega
theorem nB_eq (x : Int) : (wrap64 (x.tmod 1000 + 1000)).tmod 1000 = (nB x : Int) := by
  have h1 := Int.lt_tmod_of_pos x (show (0 : Int) < 1000 by decide)
  have h2 := Int.tmod_lt_of_pos x (show (0 : Int) < 1000 by decide)
  have h3 : wrap64 (x.tmod 1000 + 1000) = x.tmod 1000 + 1000 := by unfold wrap64; omega
  rw [h3, tmod_in x 1000 (by decide)]
  unfold nB; omega
def sA (L : List Int) : List Seg := L.map fun x => ⟨nA x, 100, 7⟩
def sB (L : List Int) : List Seg := L.map fun x => ⟨30, 100, nB x⟩
def fullV (L : List Int) (k : Nat) : Int := if k = 0 then -1 else ((sA L).getD (bst (sA L) k).toNat default).l
def oldV (L : List Int) (k : Nat) : Int := if k = 0 then -1 else ((sB L).getD (bst (sB L) k).toNat default).a
theorem sA_get (L : List Int) (k : Nat) (h : k < L.length) : (sA L).getD k default = ⟨nA L[k], 100, 7⟩ := by
  simp [sA, List.getD_eq_getElem?_getD, List.getElem?_eq_getElem h]
theorem sB_get (L : List Int) (k : Nat) (h : k < L.length) : (sB L).getD k default = ⟨30, 100, nB L[k]⟩ := by
  simp [sB, List.getD_eq_getElem?_getD, List.getElem?_eq_getElem h]
theorem fullV_in (L : List Int) (k : Nat) (h : k ≤ L.length) : -1 ≤ fullV L k ∧ fullV L k ≤ 100 ∧ (0 < k → 0 ≤ fullV L k) := by
  unfold fullV
  by_cases hk : k = 0
  · rw [if_pos hk]; omega
  · rw [if_neg hk]
    obtain ⟨b, hb, hlt⟩ := bst_nat (sA L) k (by omega)
    rw [hb, Int.toNat_natCast, sA_get L b (by omega)]
    have := nA_le (L[b]'(by omega))
    simp only
    omega
theorem fullV_step (L : List Int) (k : Nat) (h : k < L.length) : fullV L (k + 1) = if fullV L k < 0 ∨ (nA L[k] : Int) < fullV L k then (nA L[k] : Int) else fullV L k := by
  unfold fullV
  rw [if_neg (by omega)]
  by_cases hk : k = 0
  · subst hk
    rw [if_pos rfl, if_pos (.inl (by decide))]
    have e : bst (sA L) (0 + 1) = 0 := by
      unfold bst
      rw [if_pos (.inl (show (-1 : Int) < 0 by decide))]
      rfl
    rw [e]
    show ((sA L).getD 0 default).l = _
    rw [sA_get L 0 h]
  · rw [if_neg hk]
    obtain ⟨b, hb, hlt⟩ := bst_nat (sA L) k (by omega)
    have e : bst (sA L) (k + 1) = if nA L[k] < nA (L[b]'(by omega)) then (k : Int) else (b : Int) := by
      rw [bst]
      rw [hb, Int.toNat_natCast, sA_get L b (by omega), sA_get L k h]
      have := lessA (nA (L[b]'(by omega))) (nA L[k]) (nA_le _) (nA_le _)
      simp only [Seg.ben, this]
      by_cases c : nA L[k] < nA (L[b]'(by omega))
      · rw [if_pos (.inr (decide_eq_true c)), if_pos c]
      · rw [if_neg (by simp; omega), if_neg c]
    rw [e, hb, Int.toNat_natCast, sA_get L b (by omega)]
    by_cases c : nA L[k] < nA (L[b]'(by omega))
    · rw [if_pos c, Int.toNat_natCast, sA_get L k h, if_pos (.inr (by simp only; omega))]
    · rw [if_neg c, Int.toNat_natCast, sA_get L b (by omega), if_neg (by simp only; omega)]
theorem oldV_in (L : List Int) (k : Nat) (h : k ≤ L.length) : -1 ≤ oldV L k ∧ oldV L k ≤ 999 := by
  unfold oldV
  by_cases hk : k = 0
  · rw [if_pos hk]; omega
  · rw [if_neg hk]
    obtain ⟨b, hb, hlt⟩ := bst_nat (sB L) k (by omega)
    rw [hb, Int.toNat_natCast, sB_get L b (by omega)]
    have := nB_le (L[b]'(by omega))
    simp only
    omega
theorem oldV_step (L : List Int) (k : Nat) (h : k < L.length) : oldV L (k + 1) = max (oldV L k) (nB L[k] : Int) := by
  unfold oldV
  rw [if_neg (by omega)]
  by_cases hk : k = 0
  · subst hk
    rw [if_pos rfl]
    have e : bst (sB L) (0 + 1) = 0 := by
      unfold bst
      rw [if_pos (.inl (show (-1 : Int) < 0 by decide))]
      rfl
    rw [e]
    show ((sB L).getD 0 default).a = _
    rw [sB_get L 0 h]
    simp only
    omega
  · rw [if_neg hk]
    obtain ⟨b, hb, hlt⟩ := bst_nat (sB L) k (by omega)
    have e : bst (sB L) (k + 1) = if nB (L[b]'(by omega)) < nB L[k] then (k : Int) else (b : Int) := by
      rw [bst]
      rw [hb, Int.toNat_natCast, sB_get L b (by omega), sB_get L k h]
      have := lessBB (nB (L[b]'(by omega))) (nB L[k]) (nB_le _) (nB_le _)
      simp only [Seg.ben, this]
      by_cases c : nB (L[b]'(by omega)) < nB L[k]
      · rw [if_pos (.inr (decide_eq_true c)), if_pos c]
      · rw [if_neg (by simp; omega), if_neg c]
    rw [e, hb, Int.toNat_natCast, sB_get L b (by omega)]
    by_cases c : nB (L[b]'(by omega)) < nB L[k]
    · rw [if_pos c, Int.toNat_natCast, sB_get L k h]
      simp only
      omega
    · rw [if_neg c, Int.toNat_natCast, sB_get L b (by omega)]
      simp only
      omega
end Go.Proofs.Ytdfpfdkpgokflaa
