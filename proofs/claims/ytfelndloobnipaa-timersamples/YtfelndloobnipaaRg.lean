/-
  Rungs of floats: what is exact is written as its own rung; doubling. No condition but those said.
-/
import Derived.Test.YtfelndloobnipaaOrd
namespace Go.Proofs.Ytfelndloobnipaa
open Ieee

/-- The rung of infinity. -/
abbrev INF : Nat := 9218868437227405312
theorem cut0 (neg : Bool) (n : Nat) : Toward.even.cut neg n 0 = n := by
  unfold Toward.cut
  simp only [Nat.zero_min, Nat.shiftLeft_zero, Nat.div_one, Nat.mod_one]
  simp
theorem log2_mul (n k : Nat) (h : 0 < n) : (n * 2 ^ k).log2 = n.log2 + k := by
  induction k with
  | zero => simp
  | succ k ih =>
    rw [Nat.pow_succ, ← Nat.mul_assoc, Nat.mul_comm _ 2, Nat.log2_two_mul (by have := Nat.two_pow_pos k; exact Nat.ne_of_gt (Nat.mul_pos h this)), ih]
    omega
theorem cutx (neg : Bool) (n d : Nat) (h : 0 < n) : Toward.even.cut neg (n * 2 ^ d) d = n := by
  unfold Toward.cut
  have hm : min d ((n * 2 ^ d).log2 + 2) = d := by rw [log2_mul n d h]; omega
  have hp := Nat.two_pow_pos d
  simp only [hm, Nat.shiftLeft_eq, Nat.one_mul]
  rw [Nat.mul_div_cancel _ hp, Nat.mul_mod_left]
  have h1 : ¬ (2 ^ d < 2 * 0) := by omega
  simp [h1]

/-- A rung's digits and how far they are shifted. -/
def fr (r : Nat) : Nat := if r < 4503599627370496 then r else 4503599627370496 + r % 4503599627370496
def sh (r : Nat) : Nat := if r < 4503599627370496 then 0 else r / 4503599627370496 - 1
theorem vl_fr (r : Nat) : vl r = fr r * 2 ^ sh r := by
  unfold vl fr sh
  split <;> simp
theorem rung_fr (r : Nat) : sh r * 4503599627370496 + fr r = r := by
  unfold fr sh
  split
  · omega
  · have := Nat.div_add_mod r 4503599627370496
    have : 1 ≤ r / 4503599627370496 := (Nat.le_div_iff_mul_le (by decide)).2 (by omega)
    omega
theorem fr_lt (r : Nat) : fr r < 9007199254740992 := by
  unfold fr
  split
  · omega
  · have := Nat.mod_lt r (show 0 < 4503599627370496 from by decide)
    omega
theorem log2_vl (r : Nat) (h : 0 < vl r) : sh r = (vl r).log2 - 52 := by
  have hf : 0 < fr r := by
    rw [vl_fr] at h
    exact Nat.pos_of_mul_pos_right h
  rw [vl_fr, log2_mul _ _ hf]
  have h1 : (fr r).log2 < 53 := (Nat.log2_lt (by omega)).2 (fr_lt r)
  by_cases e : r < 4503599627370496
  · have : sh r = 0 := by unfold sh; rw [if_pos e]
    have : fr r = r := by unfold fr; rw [if_pos e]
    have : (fr r).log2 < 52 := (Nat.log2_lt (by omega)).2 (by omega)
    omega
  · have : 52 ≤ (fr r).log2 := (Nat.le_log2 (by omega)).2 (by unfold fr; rw [if_neg e]; omega)
    omega

/-- WHAT IS EXACT IS WRITTEN AS ITS OWN RUNG. -/
theorem nearest_exact (neg : Bool) (mag p c r : Nat) (hm : 0 < mag) (h : mag * 2 ^ p = vl r * 2 ^ c) : double.nearest neg mag (-1074 + (p : Int) - (c : Int)) = double.word neg (min r INF) := by
  have hv : 0 < vl r := by
    rcases Nat.eq_zero_or_pos (vl r) with e | e
    · rw [e, Nat.zero_mul] at h
      have := Nat.mul_pos hm (Nat.two_pow_pos p)
      omega
    · exact e
  have hf : 0 < fr r := by
    rw [vl_fr] at hv
    exact Nat.pos_of_mul_pos_right hv
  have hl : mag.log2 + p = (vl r).log2 + c := by rw [← log2_mul _ _ hm, ← log2_mul _ _ hv, h]
  have hs := log2_vl r hv
  have hr := rung_fr r
  unfold Format.nearest
  rw [if_neg (by omega)]
  have e1 : max (-1074 + (p : Int) - (c : Int) + (mag.log2 : Nat) - (double.fractionBits : Nat)) double.leastPlace = -1074 + (sh r : Int) := by
    show max (-1074 + (p : Int) - (c : Int) + (mag.log2 : Nat) - ((52 : Nat) : Int)) (-1074) = _
    omega
  simp only [e1]
  have e2 : (-1074 + (p : Int) - (c : Int) - (-1074 + (sh r : Int))).toNat = p - (sh r + c) := by omega
  have e3 : (-1074 + (sh r : Int) - (-1074 + (p : Int) - (c : Int))).toNat = sh r + c - p := by omega
  have e4 : (-1074 + (sh r : Int) - double.leastPlace).toNat = sh r := by
    show (-1074 + (sh r : Int) - (-1074)).toNat = sh r
    omega
  rw [e2, e3, e4, Nat.shiftLeft_eq]
  rw [vl_fr, Nat.mul_assoc, ← Nat.pow_add] at h
  have ek : Toward.even.cut neg (mag * 2 ^ (p - (sh r + c))) (sh r + c - p) = fr r := by
    by_cases hp : sh r + c ≤ p
    · rw [show sh r + c - p = 0 from by omega, cut0]
      obtain ⟨k, rfl⟩ := Nat.exists_eq_add_of_le hp
      rw [show sh r + c + k - (sh r + c) = k from by omega]
      rw [Nat.pow_add, ← Nat.mul_assoc, Nat.mul_right_comm] at h
      exact Nat.eq_of_mul_eq_mul_right (Nat.two_pow_pos _) h
    · obtain ⟨k, hk⟩ := Nat.exists_eq_add_of_le (show p ≤ sh r + c from by omega)
      rw [show p - (sh r + c) = 0 from by omega, hk, show p + k - p = k from by omega, Nat.pow_zero, Nat.mul_one]
      rw [hk, Nat.add_comm p k, Nat.pow_add, ← Nat.mul_assoc] at h
      rw [Nat.eq_of_mul_eq_mul_right (Nat.two_pow_pos _) h]
      exact cutx neg (fr r) k hf
  rw [ek]
  show double.word neg (min (sh r * 4503599627370496 + fr r) 9218868437227405312) = _
  rw [hr]
theorem word_pos (r : Nat) : double.word false r = r := rfl

/-- Twice as much. -/
def dbl (r : Nat) : Nat := if r < 4503599627370496 then 2 * r else r + 4503599627370496
def up : Nat → Nat → Nat
  | 0, r => r
  | k + 1, r => dbl (up k r)
theorem vl_shift (r j : Nat) (h : 4503599627370496 ≤ r) : vl (r + j * 4503599627370496) = vl r * 2 ^ j := by
  unfold vl
  rw [if_neg (by omega), if_neg (by omega), Nat.add_mul_mod_self_right, Nat.add_mul_div_right _ _ (by decide)]
  have : 1 ≤ r / 4503599627370496 := (Nat.le_div_iff_mul_le (by decide)).2 (by omega)
  rw [Nat.mul_assoc, ← Nat.pow_add]
  congr 2
  omega
theorem vl_dbl (r : Nat) : vl (dbl r) = vl r * 2 := by
  unfold dbl
  split
  · rename_i h
    by_cases e : 2 * r < 4503599627370496
    · unfold vl; rw [if_pos e, if_pos h]; omega
    · unfold vl
      rw [if_neg e, if_pos h, show 2 * r / 4503599627370496 = 1 from by omega, show 2 * r % 4503599627370496 = 2 * r - 4503599627370496 from by omega]
      omega
  · have := vl_shift r 1 (by omega)
    rw [Nat.one_mul, Nat.pow_one] at this
    exact this
theorem vl_up (k r : Nat) : vl (up k r) = vl r * 2 ^ k := by
  induction k with
  | zero => simp [up]
  | succ k ih => rw [up, vl_dbl, ih, Nat.pow_succ, Nat.mul_assoc]
theorem dbl_mono {a b : Nat} (h : a ≤ b) : dbl a ≤ dbl b := by unfold dbl; split <;> split <;> omega
theorem dbl_ge (a : Nat) : a ≤ dbl a := by unfold dbl; split <;> omega
theorem up_mono {j k : Nat} (h : j ≤ k) (r : Nat) : up j r ≤ up k r := by
  induction k with
  | zero => obtain rfl : j = 0 := by omega
            exact Nat.le_refl _
  | succ k ih =>
    by_cases e : j = k + 1
    · subst e; exact Nat.le_refl _
    · exact Nat.le_trans (ih (by omega)) (dbl_ge _)
theorem dbl_cap (a : Nat) : min (dbl (min a INF)) INF = min (dbl a) INF := by
  unfold INF
  by_cases h : a ≤ 9218868437227405312
  · rw [Nat.min_eq_left h]
  · rw [show min a 9218868437227405312 = 9218868437227405312 from by omega]
    unfold dbl
    rw [if_neg (by omega), if_neg (by omega)]
    omega
theorem up_zero (k : Nat) : up k 0 = 0 := by
  induction k with
  | zero => rfl
  | succ k ih => rw [up, ih]; rfl
theorem up_norm (k r : Nat) (h : 4503599627370496 ≤ r) : up k r = r + k * 4503599627370496 := by
  induction k with
  | zero => simp [up]
  | succ k ih => rw [up, ih]; unfold dbl; rw [if_neg (by omega)]; omega

/-- What a rung that is no more than infinity reads as. -/
theorem read_rung (r : Nat) (h : r < INF) : ∃ m a, double.read r = .number false m (-1074 + ((a : Nat) : Int)) ∧ m * 2 ^ a = vl r := by
  unfold INF at h
  obtain ⟨m, a, h1, h2⟩ := read_fin r (by omega) (by omega)
  rw [show sgn r = false from decide_eq_false (by omega)] at h1
  rw [Nat.mod_eq_of_lt (by omega)] at h2
  exact ⟨m, a, h1, h2⟩
theorem read_top : double.read INF = .infinity false := by decide +kernel

/-- A rung times a power of two, where that is exact. -/
theorem mul_exact (x M : Nat) (P : Int) (e f : Nat) (hx : double.read x = .number false M (-(P : Int))) (hM : M = 2 ^ e) (c : Nat) (hc : P = (c : Int) - f) (r n : Nat) (hr : r < INF) (h0 : 0 < r) (hn : vl r * 2 ^ e * 2 ^ f = vl n * 2 ^ c) :
    double.mul r x = some (min n INF) ∧ double.mul x r = some (min n INF) := by
  obtain ⟨m, a, h1, h2⟩ := read_rung r hr
  have hv : 0 < vl r := by have := vl_lt h0; omega
  have hm : 0 < m := by
    rcases Nat.eq_zero_or_pos m with e | e
    · subst e; omega
    · exact e
  have hk : m * 2 ^ e * 2 ^ (a + f) = vl n * 2 ^ c := by
    rw [← hn, ← h2, Nat.pow_add]
    simp only [Nat.mul_comm, Nat.mul_left_comm, Nat.mul_assoc]
  have hp := Nat.two_pow_pos e
  have := nearest_exact false (m * 2 ^ e) (a + f) c n (Nat.mul_pos hm hp) hk
  rw [word_pos] at this
  subst hM
  constructor
  · unfold Format.mul
    rw [h1, hx]
    show some (double.nearest false (m * 2 ^ e) (-1074 + (a : Int) + -P)) = _
    rw [show -1074 + (a : Int) + -P = -1074 + ((a + f : Nat) : Int) - (c : Int) from by omega, this]
  · unfold Format.mul
    rw [h1, hx]
    show some (double.nearest false (2 ^ e * m) (-P + (-1074 + (a : Int)))) = _
    rw [Nat.mul_comm, show -P + (-1074 + (a : Int)) = -1074 + ((a + f : Nat) : Int) - (c : Int) from by omega, this]
theorem mul_two (r : Nat) (h : r ≤ INF) : double.mul r 4611686018427387904 = some (min (dbl r) INF) := by
  have hd : double.read 4611686018427387904 = .number false (2 ^ 52) (-51) := by decide +kernel
  rcases Nat.eq_zero_or_pos r with rfl | h0
  · decide +kernel
  · rcases Nat.lt_or_eq_of_le h with h | rfl
    · exact (mul_exact _ _ 51 52 0 hd rfl 51 rfl r (dbl r) h h0 (by rw [vl_dbl, Nat.pow_zero, Nat.mul_one, Nat.mul_assoc])).1
    · decide +kernel
theorem mul_one (r : Nat) (h : r ≤ INF) : double.mul 4607182418800017408 r = some r := by
  have hd : double.read 4607182418800017408 = .number false (2 ^ 52) (-52) := by decide +kernel
  rcases Nat.eq_zero_or_pos r with rfl | h0
  · decide +kernel
  · rcases Nat.lt_or_eq_of_le h with h | rfl
    · have := (mul_exact _ _ 52 52 0 hd rfl 52 rfl r r h h0 (by rw [Nat.pow_zero, Nat.mul_one])).2
      rwa [Nat.min_eq_left (Nat.le_of_lt h)] at this
    · decide +kernel
theorem mul_norm (r : Nat) (h : r < INF) (h0 : 0 < r) : double.mul r 4841369599423283200 = some (min (up 52 r) INF) := by
  have hd : double.read 4841369599423283200 = .number false (2 ^ 52) (-0) := by decide +kernel
  exact (mul_exact _ _ 0 52 0 hd rfl 0 rfl r (up 52 r) h h0 (by rw [vl_up])).1
theorem mul_down (z n : Nat) (h : z < INF) (h0 : 0 < z) (hn : vl z = vl n * 2 ^ 53) : double.mul 4368491638549381120 z = some (min n INF) := by
  have hd : double.read 4368491638549381120 = .number false (2 ^ 52) (-105) := by decide +kernel
  exact (mul_exact _ _ 105 52 0 hd rfl 105 rfl z n h h0 (by rw [hn, Nat.pow_zero, Nat.mul_one, Nat.mul_assoc, ← Nat.pow_add])).2

/-- What has no sign stays so. -/
theorem near_le (m : Nat) (p : Int) : double.nearest false m p ≤ INF := by
  unfold Format.nearest
  split
  · exact Nat.zero_le _
  · rw [word_pos]; exact Nat.min_le_right _ _
theorem add_rung (r s : Nat) (h : r ≤ INF) (h' : s ≤ INF) : ∃ t, double.add r s = some t ∧ t ≤ INF := by
  unfold Format.add
  rcases Nat.lt_or_eq_of_le h with h | rfl
  · obtain ⟨m, a, e, _⟩ := read_rung r h
    rw [e]
    rcases Nat.lt_or_eq_of_le h' with h' | rfl
    · obtain ⟨n, b, e', _⟩ := read_rung s h'
      rw [e']
      simp only [Datum.sum, signed, Bool.false_eq_true, if_false, Option.map_some, Bool.and_self]
      refine ⟨_, rfl, ?_⟩
      have : ∀ x y : Nat, (if (x : Int) + (y : Int) = 0 then false else decide ((x : Int) + (y : Int) < 0)) = false := by
        intro x y
        split
        · rfl
        · exact decide_eq_false (by omega)
      rw [this]
      exact near_le _ _
    · rw [read_top]
      exact ⟨_, rfl, by decide +kernel⟩
  · rw [read_top]
    rcases Nat.lt_or_eq_of_le h' with h' | rfl
    · obtain ⟨n, b, e', _⟩ := read_rung s h'
      rw [e']
      exact ⟨_, rfl, by decide +kernel⟩
    · rw [read_top]
      exact ⟨_, rfl, by decide +kernel⟩
theorem mul_rung (c s : Nat) (h : c < INF) (hc : 0 < c) (h' : s ≤ INF) : ∃ t, double.mul c s = some t ∧ t ≤ INF := by
  unfold Format.mul
  obtain ⟨m, a, e, ev⟩ := read_rung c h
  have hv : 0 < vl c := by have := vl_lt hc; omega
  have hm : m ≠ 0 := by rintro rfl; omega
  rw [e]
  rcases Nat.lt_or_eq_of_le h' with h' | rfl
  · obtain ⟨n, b, e', _⟩ := read_rung s h'
    rw [e']
    exact ⟨_, rfl, near_le _ _⟩
  · rw [read_top]
    simp only [Datum.product]
    rw [if_neg hm]
    exact ⟨_, rfl, by decide +kernel⟩
theorem half_rung (d : Nat) (h : d < INF) : ∃ t, double.div d 4611686018427387904 = some t ∧ t ≤ INF := by
  unfold Format.div
  obtain ⟨m, a, e, ev⟩ := read_rung d h
  have hd : double.read 4611686018427387904 = .number false (2 ^ 52) (-51) := by decide +kernel
  rw [e, hd]
  simp only [Datum.quotient]
  rw [if_neg (by decide)]
  exact ⟨_, rfl, near_le _ _⟩
theorem near_nz (m p : Nat) (hm : 0 < m) : double.nearest true m (-1074 + (p : Int)) ≠ 9223372036854775808 ∧ double.nearest true m (-1074 + (p : Int)) ≤ 9223372036854775808 + INF ∧ 9223372036854775808 ≤ double.nearest true m (-1074 + (p : Int)) := by
  unfold Format.nearest
  rw [if_neg (by omega)]
  generalize hL : max (-1074 + (p : Int) + (m.log2 : Nat) - (double.fractionBits : Nat)) double.leastPlace = L
  have hL1 : -1074 ≤ L := by
    subst hL
    exact Int.le_max_right _ (-1074)
  simp only []
  generalize hk : Toward.even.cut true (m <<< (-1074 + (p : Int) - L).toNat) (L - (-1074 + (p : Int))).toNat = k
  have e4 : (L - double.leastPlace).toNat = (L + 1074).toNat := by
    show (L - (-1074)).toNat = _
    congr 1
  rw [e4]
  show 9223372036854775808 + min ((L + 1074).toNat * 4503599627370496 + k) 9218868437227405312 ≠ _ ∧ 9223372036854775808 + min ((L + 1074).toNat * 4503599627370496 + k) 9218868437227405312 ≤ _ ∧ _ ≤ 9223372036854775808 + min ((L + 1074).toNat * 4503599627370496 + k) 9218868437227405312
  unfold INF
  refine ⟨?_, by omega, by omega⟩
  by_cases e : L = -1074
  · subst e
    rw [show (-1074 + (p : Int) - -1074).toNat = p from by omega, show (-1074 - (-1074 + (p : Int))).toNat = 0 from by omega, cut0, Nat.shiftLeft_eq] at hk
    have := Nat.mul_pos hm (Nat.two_pow_pos p)
    omega
  · have : 1 ≤ (L + 1074).toNat := by omega
    have : 4503599627370496 ≤ (L + 1074).toNat * 4503599627370496 := Nat.le_mul_of_pos_left _ this
    omega
/-- A difference of two rungs: a rung, or one with a sign, which isn't nought. -/
theorem sub_rung (r d : Nat) (h : r ≤ INF) (h' : d < INF) : ∃ t, double.sub r d = some t ∧ (t ≤ INF ∨ 9223372036854775808 < t ∧ t ≤ 9223372036854775808 + INF) := by
  unfold Format.sub
  obtain ⟨n, b, e', _⟩ := read_rung d h'
  rw [e']
  rcases Nat.lt_or_eq_of_le h with h | rfl
  · obtain ⟨m, a, e, _⟩ := read_rung r h
    rw [e]
    simp only [Datum.sum, Datum.opposite, Option.map_some, Bool.not_false, Bool.false_and]
    refine ⟨_, rfl, ?_⟩
    have hb : ∃ q : Nat, min (-1074 + (a : Int)) (-1074 + (b : Int)) = -1074 + (q : Int) := ⟨min a b, by omega⟩
    obtain ⟨q, hq⟩ := hb
    rw [hq]
    generalize signed false m (-1074 + (a : Int) - (-1074 + (q : Int))).toNat + signed true n (-1074 + (b : Int) - (-1074 + (q : Int))).toNat = T
    by_cases hT : T = 0
    · left
      subst hT
      exact near_le _ _
    · rw [if_neg hT]
      by_cases hn : T < 0
      · right
        rw [decide_eq_true hn]
        obtain ⟨h1, h2, h3⟩ := near_nz T.natAbs q (by omega)
        show 9223372036854775808 < double.nearest true T.natAbs (-1074 + (q : Int)) ∧ _
        exact ⟨by omega, h2⟩
      · left
        rw [decide_eq_false hn]
        exact near_le _ _
  · rw [read_top]
    exact ⟨_, rfl, .inl (by decide +kernel)⟩
end Go.Proofs.Ytfelndloobnipaa
