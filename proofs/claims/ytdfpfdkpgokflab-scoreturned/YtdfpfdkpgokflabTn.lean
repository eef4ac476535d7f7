/-
  A float that stands for a number is written as it was read; nought and a float, and a float by one, are that float again; the turned sign turns the order. Their condition: the words fit into 64 bits.
-/
import Derived.Test.YtdfpfdkpgokflabMn
import Derived.Test.YtdfpfdkpgokflabLs
namespace Go.Proofs.Ytdfpfdkpgokflab
open Go.RowKit Ieee

theorem cut_zero (neg : Bool) (n : Nat) : Toward.even.cut neg n 0 = n := by
  unfold Toward.cut
  simp [Nat.mod_one]
theorem cut_exact (neg : Bool) (m D : Nat) (hm : 0 < m) : Toward.even.cut neg (m * 2 ^ D) D = m := by
  have hp : 0 < 2 ^ D := Nat.two_pow_pos D
  have hl : D ≤ (m * 2 ^ D).log2 := (Nat.le_log2 (by have := Nat.mul_pos hm hp; omega)).2 (Nat.le_mul_of_pos_left _ hm)
  unfold Toward.cut
  have hg : 1 <<< min D ((m * 2 ^ D).log2 + 2) = 2 ^ D := by
    rw [Nat.min_eq_left (by omega), Nat.one_shiftLeft]
  simp only [hg]
  rw [Nat.mul_div_cancel _ hp, Nat.mul_mod_left]
  have h0 : ¬ 2 ^ D < 2 * 0 := by omega
  have h1 : (2 ^ D == 2 * 0) = false := by
    apply beq_eq_false_iff_ne.2
    omega
  simp [h1]

theorem pow_lt_of {a b : Nat} (h : 2 ^ a < 2 ^ b) : a < b := (Nat.pow_lt_pow_iff_right (by decide)).1 h

/-- WHAT IS WRITTEN OF A NUMBER THAT A FLOAT STANDS FOR IS THAT FLOAT. -/
theorem near_exact (neg : Bool) (r : Nat) (hr : r < 9218868437227405312) (mag P N : Nat) (place : Int) (hp : place = -1074 + (P : Int) - (N : Int)) (h : mag * 2 ^ P = vl r * 2 ^ N) :
    double.nearest neg mag place = double.word neg r := by
  subst hp
  -- the rung's parts
  obtain ⟨q, m, hv, hq, hm⟩ : ∃ q m, vl r = m * 2 ^ q ∧ q * 4503599627370496 + m = r ∧ (q = 0 ∧ m < 4503599627370496 ∨ 4503599627370496 ≤ m ∧ m < 9007199254740992) := by
    unfold vl
    by_cases e : r < 4503599627370496
    · rw [if_pos e]
      exact ⟨0, r, by simp, by omega, .inl ⟨rfl, e⟩⟩
    · rw [if_neg e]
      exact ⟨r / 4503599627370496 - 1, 4503599627370496 + r % 4503599627370496, rfl, by omega, .inr ⟨by omega, by omega⟩⟩
  rw [hv] at h
  have pP : 0 < 2 ^ P := Nat.two_pow_pos P
  have pN : 0 < 2 ^ N := Nat.two_pow_pos N
  have pq : 0 < 2 ^ q := Nat.two_pow_pos q
  unfold Format.nearest
  by_cases hz : mag = 0
  · rw [if_pos hz]
    subst hz
    have h0 : m * 2 ^ q * 2 ^ N = 0 := by rw [← h]; simp
    have hm0 : m = 0 := by
      rcases Nat.mul_eq_zero.1 h0 with h1 | h1
      · rcases Nat.mul_eq_zero.1 h1 with h2 | h2
        · exact h2
        · omega
      · omega
    have : r = 0 := by
      rcases hm with ⟨h1, h2⟩ | ⟨h1, _⟩
      · subst h1; omega
      · omega
    rw [this]
  · rw [if_neg hz]
    have hm0 : 0 < m := by
      rcases Nat.eq_zero_or_pos m with e | e
      · subst e
        have h3 : mag * 2 ^ P = 0 := by rw [h]; simp
        rcases Nat.mul_eq_zero.1 h3 with h4 | h4
        · exact absurd h4 hz
        · omega
      · exact e
    have l1 : 2 ^ mag.log2 ≤ mag := Nat.log2_self_le hz
    have l2 : mag < 2 ^ (mag.log2 + 1) := Nat.lt_log2_self
    -- the last place that is kept
    have hlast : max ((-1074 + (P : Int) - (N : Int)) + (mag.log2 : Nat) - (52 : Nat)) (-1074) = -1074 + (q : Int) := by
      have u1 : 2 ^ (mag.log2 + P) ≤ m * 2 ^ q * 2 ^ N := by
        rw [← h, Nat.pow_add]
        exact Nat.mul_le_mul_right _ l1
      have u2 : m * 2 ^ q * 2 ^ N < 2 ^ (mag.log2 + 1 + P) := by
        rw [← h, Nat.pow_add]
        exact Nat.mul_lt_mul_of_pos_right l2 pP
      rcases hm with ⟨h1, h2⟩ | ⟨h1, h2⟩
      · subst h1
        have : mag.log2 + P < 52 + N := by
          apply pow_lt_of
          refine Nat.lt_of_le_of_lt u1 ?_
          rw [Nat.pow_zero, Nat.mul_one, Nat.pow_add]
          exact Nat.mul_lt_mul_of_pos_right h2 pN
        omega
      · have a1 : mag.log2 + P < 53 + q + N := by
          apply pow_lt_of
          refine Nat.lt_of_le_of_lt u1 ?_
          rw [Nat.pow_add, Nat.pow_add]
          exact Nat.mul_lt_mul_of_pos_right (Nat.mul_lt_mul_of_pos_right h2 pq) pN
        have a2 : 52 + q + N < mag.log2 + 1 + P := by
          apply pow_lt_of
          refine Nat.lt_of_le_of_lt ?_ u2
          rw [Nat.pow_add, Nat.pow_add]
          exact Nat.mul_le_mul_right _ (Nat.mul_le_mul_right _ h1)
        omega
    have hfl : (double.fractionBits : Nat) = 52 := rfl
    have hlp : double.leastPlace = -1074 := rfl
    have hbn : double.binade = 4503599627370496 := rfl
    have hin : double.infRung = 9218868437227405312 := rfl
    simp only [hfl, hlp, hbn, hin, hlast]
    have hkept : Toward.even.cut neg (mag <<< ((-1074 + (P : Int) - (N : Int)) - (-1074 + (q : Int))).toNat) ((-1074 + (q : Int)) - (-1074 + (P : Int) - (N : Int))).toNat = m := by
      by_cases c : N + q ≤ P
      · rw [show ((-1074 + (q : Int)) - (-1074 + (P : Int) - (N : Int))).toNat = 0 from by omega, show ((-1074 + (P : Int) - (N : Int)) - (-1074 + (q : Int))).toNat = P - N - q from by omega, cut_zero, Nat.shiftLeft_eq]
        have e : mag * 2 ^ (P - N - q) * 2 ^ (N + q) = m * 2 ^ (N + q) := by
          rw [Nat.mul_assoc, ← Nat.pow_add, show P - N - q + (N + q) = P from by omega, h, Nat.mul_assoc, ← Nat.pow_add, Nat.add_comm q N]
        exact Nat.eq_of_mul_eq_mul_right (Nat.two_pow_pos _) e
      · rw [show ((-1074 + (P : Int) - (N : Int)) - (-1074 + (q : Int))).toNat = 0 from by omega, show ((-1074 + (q : Int)) - (-1074 + (P : Int) - (N : Int))).toNat = N + q - P from by omega, Nat.shiftLeft_zero]
        have e : mag = m * 2 ^ (N + q - P) := by
          apply Nat.eq_of_mul_eq_mul_right pP
          rw [h, Nat.mul_assoc, Nat.mul_assoc, ← Nat.pow_add, ← Nat.pow_add, show N + q - P + P = q + N from by omega]
        rw [e]
        exact cut_exact neg m _ hm0
    rw [hkept, show (-1074 + (q : Int) - -1074).toNat = q from by omega, hq, Nat.min_eq_left (by omega)]

theorem word_back (x : Nat) (hx : x < 18446744073709551616) : double.word (sgn x) (x % 9223372036854775808) = x := by
  have : double.word (sgn x) (x % 9223372036854775808) = if sgn x then 9223372036854775808 + x % 9223372036854775808 else x % 9223372036854775808 := rfl
  rw [this]
  unfold sgn
  by_cases e : 9223372036854775808 ≤ x
  · rw [decide_eq_true e, if_pos rfl]; omega
  · rw [decide_eq_false e, if_neg (by decide)]; omega

/-- Nought and a float. -/
theorem zero_add_f (x : Nat) (hx : x < 18446744073709551616) (hf : fin x = true) : floatBits .add .f64 0 x = some (if x % 9223372036854775808 = 0 then 0 else x) := by
  have hf := of_decide_eq_true hf
  show ((double.read 0).sum (double.read x)).map double.write = _
  obtain ⟨m, a, hr, hv⟩ := read_fin x hx hf
  have h0 : double.read 0 = .number false 0 (-1074) := rfl
  rw [hr, h0]
  simp only [Datum.sum, signed_eq, Option.map_some]
  rw [show min (-1074 : Int) (-1074 + (a : Int)) = -1074 from by omega, show ((-1074 + (a : Int)) - -1074).toNat = a from by omega, hv]
  have hz : sv false (0 * 2 ^ ((-1074 : Int) - -1074).toNat) = 0 := by simp [sv]
  rw [hz, Int.zero_add]
  have hab : (sv (sgn x) (vl (x % 9223372036854775808))).natAbs = vl (x % 9223372036854775808) := by unfold sv; split <;> omega
  rw [hab]
  show some (double.nearest _ _ _) = _
  rw [near_exact _ (x % 9223372036854775808) hf (vl (x % 9223372036854775808)) 0 0 (-1074) (by omega) rfl]
  by_cases e : x % 9223372036854775808 = 0
  · rw [if_pos e, e]
    have : sv (sgn x) (vl 0) = 0 := by unfold sv; split <;> rfl
    rw [this]
    rfl
  · rw [if_neg e]
    have hp : vl (x % 9223372036854775808) ≠ 0 := fun c => e ((vl_eq _ 0).1 (by rw [c]; rfl))
    have hn : sv (sgn x) (vl (x % 9223372036854775808)) ≠ 0 := by unfold sv; split <;> omega
    rw [if_neg hn]
    have hs : decide (sv (sgn x) (vl (x % 9223372036854775808)) < 0) = sgn x := by
      unfold sv
      cases sgn x
      · rw [if_neg (by decide)]; exact decide_eq_false (by omega)
      · rw [if_pos rfl]; exact decide_eq_true (by omega)
    rw [hs, word_back x hx]

/-- A float by one. -/
theorem div_one_f (x : Nat) (hx : x < 18446744073709551616) (hf : fin x = true) : floatBits .quo .f64 x fone = some x := by
  have hf := of_decide_eq_true hf
  show ((double.read x).quotient 54 (double.read fone)).map double.write = _
  obtain ⟨m, a, hr, hv⟩ := read_fin x hx hf
  have h1 : double.read fone = .number false 4503599627370496 (-52) := rfl
  rw [hr, h1]
  have hl52 : Nat.log2 4503599627370496 = 52 := by decide
  simp only [Datum.quotient, hl52]
  rw [if_neg (by decide)]
  have hm : m < 9007199254740992 := by
    have hr2 := hr
    rw [read_eq] at hr2
    split at hr2
    · injection hr2 with _ h2 _; omega
    · injection hr2 with _ h2 _; omega
  have hlg : m.log2 ≤ 52 := by
    rcases Nat.eq_zero_or_pos m with e | e
    · subst e; decide
    · have := (Nat.log2_lt (by omega)).2 (show m < 2 ^ 53 from hm)
      omega
  obtain ⟨c, hc⟩ : ∃ c, 54 + 52 - m.log2 = 52 + c := ⟨54 - m.log2, by omega⟩
  rw [hc]
  simp only [Nat.shiftLeft_eq, Nat.pow_add, Option.map_some]
  have hd : m * (2 ^ 52 * 2 ^ c) = m * 2 ^ c * 4503599627370496 := by
    rw [Nat.mul_comm (2 ^ 52), ← Nat.mul_assoc]
  rw [hd, Nat.mul_div_cancel _ (by decide), Nat.mul_mod_left]
  show some (double.nearest _ _ _) = _
  rw [near_exact _ (x % 9223372036854775808) hf _ a (c + 1) _ (by omega) (by
    rw [← hv]
    simp only [bne_self_eq_false, Bool.toNat_false, Nat.add_zero]
    rw [Nat.pow_succ]
    ac_rfl), Bool.xor_false, word_back x hx]

theorem fi_one : fi 1 = fone := by decide +kernel
/-- The mean of one number. -/
theorem mean_one (x : Nat) (hx : x < 18446744073709551616) (hf : fin x = true) : meanO [x] = some (if x % 9223372036854775808 = 0 then 0 else x) := by
  have hs : sumO [x] = some (if x % 9223372036854775808 = 0 then 0 else x) := by
    show (if fin x then fo .add (some 0) (some x) else some 0) = _
    rw [hf]
    exact zero_add_f x hx hf
  have hc : cntO [x] = 1 := by
    show (if fin x then 0 + 1 else 0) = 1
    rw [hf]; rfl
  unfold meanO
  rw [hs, hc]
  show floatBits .quo .f64 _ (fi 1) = _
  rw [fi_one]
  split
  · exact div_one_f 0 (by decide) (by decide)
  · exact div_one_f x hx hf
theorem one_eq (x : Nat) (hx : x < 18446744073709551616) (hf : fin x = true) : (FloatKind.f64.format.order (if x % 9223372036854775808 = 0 then 0 else x) x != some .eq) = false := by
  have hf := of_decide_eq_true hf
  have nx : nan x = false := decide_eq_false (by omega)
  show (double.order _ x != some .eq) = false
  by_cases e : x % 9223372036854775808 = 0
  · rw [if_pos e, order_word 0 x (by decide) hx (by decide) nx]
    have : kz x = kz 0 := by
      rw [kz_rung x hx, e]
      unfold sv; split <;> rfl
    rw [this]; rfl
  · rw [if_neg e, not_beq_self, nx]

theorem neg_eq (x : Nat) (hx : x < 18446744073709551616) : Op.negFloat .f64 x = if 9223372036854775808 ≤ x then x - 9223372036854775808 else x + 9223372036854775808 := by
  show x ^^^ 2 ^ 63 = _
  have h1 : (x ^^^ 2 ^ 63) / 2 ^ 63 = (x / 2 ^ 63) ^^^ 1 := by rw [Nat.xor_div_two_pow]
  have h2 : (x ^^^ 2 ^ 63) % 2 ^ 63 = x % 2 ^ 63 := by rw [Nat.xor_mod_two_pow]; simp
  have h3 := Nat.div_add_mod (x ^^^ 2 ^ 63) (2 ^ 63)
  rw [h1, h2] at h3
  by_cases e : 9223372036854775808 ≤ x
  · rw [if_pos e]
    rw [show x / 2 ^ 63 = 1 from by omega] at h3
    have : (1 : Nat) ^^^ 1 = 0 := rfl
    rw [this] at h3
    omega
  · rw [if_neg e]
    rw [show x / 2 ^ 63 = 0 from by omega] at h3
    have : (0 : Nat) ^^^ 1 = 1 := rfl
    rw [this] at h3
    omega
theorem neg_lt (x : Nat) (hx : x < 18446744073709551616) : Op.negFloat .f64 x < 18446744073709551616 := by
  rw [neg_eq x hx]; split <;> omega
theorem neg_less (x y : Nat) (hx : x < 18446744073709551616) (hy : y < 18446744073709551616) (nx : nan x = false) (ny : nan y = false) : lessB (Op.negFloat .f64 y) (Op.negFloat .f64 x) = lessB x y := by
  have hk : ∀ z, z < 18446744073709551616 → ky (Op.negFloat .f64 z) = -(ky z) - 1 := by
    intro z hz
    rw [neg_eq z hz]
    unfold ky sgn
    by_cases e : 9223372036854775808 ≤ z
    · rw [if_pos e, decide_eq_true e, decide_eq_false (by omega)]
      simp only [Bool.false_eq_true, if_false, if_true]
      omega
    · rw [if_neg e, decide_eq_false e, decide_eq_true (by omega)]
      simp only [Bool.false_eq_true, if_false, if_true]
      omega
  have hn : ∀ z, z < 18446744073709551616 → nan z = false → nan (Op.negFloat .f64 z) = false := by
    intro z hz h
    have h := of_decide_eq_false h
    rw [neg_eq z hz]
    apply decide_eq_false
    split <;> omega
  unfold lessB
  rw [hn x hx nx, hn y hy ny, nx, ny, hk x hx, hk y hy]
  simp only [Bool.or_self, Bool.false_eq_true, if_false]
  by_cases c : ky x < ky y
  · rw [decide_eq_true c, decide_eq_true (by omega)]
  · rw [decide_eq_false c, decide_eq_false (by omega)]
end Go.Proofs.Ytdfpfdkpgokflab
