/-
  Floats of 64 bits by their words: which are no numbers, how they stand to each other, and what Less says of two. No condition.
-/
import Ieee.Arith
namespace Go.Proofs.Ytfelndloobnipaa
open Ieee

/-- A word that is no number. -/
def nan (x : Nat) : Bool := decide (9218868437227405312 < x % 9223372036854775808)
/-- Its sign. -/
def sgn (x : Nat) : Bool := decide (9223372036854775808 ≤ x)
/-- Its number as an order has it, both noughts being one. -/
def kz (x : Nat) : Int := if sgn x then -((x : Int) - 9223372036854775808) else x
/-- The same, the nought with a sign standing ahead of the other one. -/
def ky (x : Nat) : Int := if sgn x then -((x : Int) - 9223372036854775808) - 1 else x

theorem read_eq (x : Nat) : double.read x =
    if x % 9223372036854775808 < 4503599627370496 then .number (x / 9223372036854775808 % 2 == 1) (x % 9223372036854775808) (-1074)
    else if x % 9223372036854775808 < 9218868437227405312 then .number (x / 9223372036854775808 % 2 == 1) (4503599627370496 + x % 9223372036854775808 % 4503599627370496) (-1074 + (x % 9223372036854775808 / 4503599627370496 - 1 : Nat))
    else if x % 9223372036854775808 = 9218868437227405312 then .infinity (x / 9223372036854775808 % 2 == 1)
    else .nan (x / 9223372036854775808 % 2 == 1) (x % 9223372036854775808 - 9218868437227405312) := rfl

theorem read_nan (x : Nat) (h : nan x = true) : ∃ s t, double.read x = .nan s t := by
  unfold nan at h
  have h := of_decide_eq_true h
  rw [read_eq, if_neg (by omega), if_neg (by omega), if_neg (by omega)]
  exact ⟨_, _, rfl⟩

/-- The magnitude of a rung. -/
def vl (r : Nat) : Nat := if r < 4503599627370496 then r else (4503599627370496 + r % 4503599627370496) * 2 ^ (r / 4503599627370496 - 1)

theorem vl_hi (r : Nat) : vl r < 4503599627370496 * 2 ^ (r / 4503599627370496) := by
  unfold vl
  split
  · rename_i h
    rw [Nat.div_eq_of_lt h]
    omega
  · rename_i h
    have hq : 1 ≤ r / 4503599627370496 := (Nat.le_div_iff_mul_le (by decide)).2 (by omega)
    have hm := Nat.mod_lt r (show 0 < 4503599627370496 from by decide)
    obtain ⟨q, hq'⟩ := Nat.exists_eq_add_of_le hq
    rw [hq', show 1 + q - 1 = q from by omega, show 1 + q = q + 1 from by omega, Nat.pow_succ]
    have hp : 0 < 2 ^ q := Nat.two_pow_pos q
    calc _ < (4503599627370496 + 4503599627370496) * 2 ^ q := Nat.mul_lt_mul_of_pos_right (by omega) hp
      _ = _ := by omega
theorem vl_lo (r : Nat) (h : 4503599627370496 ≤ r) : 4503599627370496 * 2 ^ (r / 4503599627370496 - 1) ≤ vl r := by
  unfold vl
  rw [if_neg (by omega)]
  exact Nat.mul_le_mul_right _ (by omega)

theorem vl_lt {a b : Nat} (h : a < b) : vl a < vl b := by
  have hd : a / 4503599627370496 ≤ b / 4503599627370496 := Nat.div_le_div_right (by omega)
  by_cases e : a / 4503599627370496 = b / 4503599627370496
  · by_cases hb : b < 4503599627370496
    · unfold vl
      rw [if_pos hb, if_pos (by omega)]
      exact h
    · have ha : ¬ a < 4503599627370496 := by
        intro ha
        rw [Nat.div_eq_of_lt ha] at e
        omega
      unfold vl
      rw [if_neg hb, if_neg ha, e]
      exact Nat.mul_lt_mul_of_pos_right (by omega) (Nat.two_pow_pos _)
  · have hb : 4503599627370496 ≤ b := by omega
    refine Nat.lt_of_lt_of_le (vl_hi a) (Nat.le_trans ?_ (vl_lo b hb))
    exact Nat.mul_le_mul_left _ (Nat.pow_le_pow_right (by decide) (by omega))
theorem vl_iff (a b : Nat) : vl a < vl b ↔ a < b := by
  constructor
  · intro h
    by_cases e : a < b
    · exact e
    · rcases Nat.lt_or_eq_of_le (Nat.le_of_not_lt e) with e | e
      · have := vl_lt e; omega
      · subst e; omega
  · exact vl_lt
theorem vl_eq (a b : Nat) : vl a = vl b ↔ a = b := by
  constructor
  · intro h
    rcases Nat.lt_trichotomy a b with e | e | e
    · have := vl_lt e; omega
    · exact e
    · have := vl_lt e; omega
  · rintro rfl; rfl

theorem cmp_of {a b c d : Int} (h1 : a < b ↔ c < d) (h2 : a = b ↔ c = d) : compare a b = compare c d := by
  show compareOfLessAndEq a b = compareOfLessAndEq c d
  unfold compareOfLessAndEq
  simp only [h1, h2]

theorem cmp_lt {a b : Int} (h : a < b) : compare a b = .lt := by
  show compareOfLessAndEq a b = .lt
  unfold compareOfLessAndEq
  rw [if_pos h]
theorem cmp_gt {a b : Int} (h : b < a) : compare a b = .gt := by
  show compareOfLessAndEq a b = .gt
  unfold compareOfLessAndEq
  rw [if_neg (by omega), if_neg (by omega)]

/-- A magnitude with its sign. -/
def sv (s : Bool) (v : Nat) : Int := if s then -(v : Int) else v
theorem signed_eq (s : Bool) (m u : Nat) : signed s m u = sv s (m * 2 ^ u) := by
  unfold signed sv
  rw [Nat.shiftLeft_eq]

theorem sv_scale (s t : Bool) (m n c : Nat) : compare (sv s m) (sv t n) = compare (sv s (m * 2 ^ c)) (sv t (n * 2 ^ c)) := by
  have hp : 0 < 2 ^ c := Nat.two_pow_pos c
  have e1 : m * 2 ^ c < n * 2 ^ c ↔ m < n := Nat.mul_lt_mul_right hp
  have e1' : n * 2 ^ c < m * 2 ^ c ↔ n < m := Nat.mul_lt_mul_right hp
  have e3 : m * 2 ^ c = 0 ↔ m = 0 := by simp [Nat.mul_eq_zero]
  have e4 : n * 2 ^ c = 0 ↔ n = 0 := by simp [Nat.mul_eq_zero]
  generalize m * 2 ^ c = M at *
  generalize n * 2 ^ c = N at *
  cases s <;> cases t <;> (unfold sv; apply cmp_of <;> simp <;> omega)

theorem order_num (s t : Bool) (m n a b : Nat) : Datum.order (.number s m (-1074 + (a : Int))) (.number t n (-1074 + (b : Int))) = some (compare (sv s (m * 2 ^ a)) (sv t (n * 2 ^ b))) := by
  unfold Datum.order
  simp only [signed_eq]
  rw [show ((-1074 + (a : Int)) - min (-1074 + (a : Int)) (-1074 + (b : Int))).toNat = a - min a b from by omega,
    show ((-1074 + (b : Int)) - min (-1074 + (a : Int)) (-1074 + (b : Int))).toNat = b - min a b from by omega]
  rw [sv_scale s t _ _ (min a b), Nat.mul_assoc, Nat.mul_assoc, ← Nat.pow_add, ← Nat.pow_add, show a - min a b + min a b = a from by omega, show b - min a b + min a b = b from by omega]

/-- What a word reads as, by its rung. -/
theorem read_fin (x : Nat) (hx : x < 18446744073709551616) (h : x % 9223372036854775808 < 9218868437227405312) :
    ∃ m a, double.read x = .number (sgn x) m (-1074 + ((a : Nat) : Int)) ∧ m * 2 ^ a = vl (x % 9223372036854775808) := by
  have hs : (x / 9223372036854775808 % 2 == 1) = sgn x := by
    unfold sgn
    by_cases e : 9223372036854775808 ≤ x
    · rw [decide_eq_true e, show x / 9223372036854775808 = 1 from by omega]; rfl
    · rw [decide_eq_false e, show x / 9223372036854775808 = 0 from by omega]; rfl
  rw [read_eq, hs]
  by_cases e : x % 9223372036854775808 < 4503599627370496
  · rw [if_pos e]
    refine ⟨_, 0, rfl, ?_⟩
    unfold vl
    rw [if_pos e]; simp
  · rw [if_neg e, if_pos h]
    refine ⟨_, _, rfl, ?_⟩
    unfold vl
    rw [if_neg e]
theorem read_inf (x : Nat) (hx : x < 18446744073709551616) (h : x % 9223372036854775808 = 9218868437227405312) : double.read x = .infinity (sgn x) := by
  have hs : (x / 9223372036854775808 % 2 == 1) = sgn x := by
    unfold sgn
    by_cases e : 9223372036854775808 ≤ x
    · rw [decide_eq_true e, show x / 9223372036854775808 = 1 from by omega]; rfl
    · rw [decide_eq_false e, show x / 9223372036854775808 = 0 from by omega]; rfl
  rw [read_eq, hs, if_neg (by omega), if_neg (by omega), if_pos h]

theorem kz_rung (x : Nat) (hx : x < 18446744073709551616) : kz x = sv (sgn x) (x % 9223372036854775808) := by
  unfold kz sv sgn
  by_cases e : 9223372036854775808 ≤ x
  · rw [decide_eq_true e, if_pos rfl, if_pos rfl]; omega
  · rw [decide_eq_false e, if_neg (by decide), if_neg (by decide)]; omega

theorem sv_vl (s t : Bool) (a b : Nat) : compare (sv s (vl a)) (sv t (vl b)) = compare (sv s a) (sv t b) := by
  have e1 := vl_iff a b
  have e2 := vl_iff b a
  have z : vl 0 = 0 := rfl
  have e3 : vl a = 0 ↔ a = 0 := by rw [← z]; exact vl_eq a 0
  have e4 : vl b = 0 ↔ b = 0 := by rw [← z]; exact vl_eq b 0
  generalize vl a = A at *
  generalize vl b = B at *
  cases s <;> cases t <;> (unfold sv; apply cmp_of <;> simp <;> omega)

/-- HOW TWO WORDS STAND TO EACH OTHER. -/
theorem order_word (x y : Nat) (hx : x < 18446744073709551616) (hy : y < 18446744073709551616) (nx : nan x = false) (ny : nan y = false) : double.order x y = some (compare (kz x) (kz y)) := by
  have nx := of_decide_eq_false nx
  have ny := of_decide_eq_false ny
  unfold Format.order
  rw [kz_rung x hx, kz_rung y hy]
  by_cases ix : x % 9223372036854775808 = 9218868437227405312
  · rw [read_inf x hx ix, ix]
    by_cases iy : y % 9223372036854775808 = 9218868437227405312
    · rw [read_inf y hy iy, iy]
      cases sgn x <;> cases sgn y <;> rfl
    · obtain ⟨n, b, hr, _⟩ := read_fin y hy (by omega)
      rw [hr]
      have : y % 9223372036854775808 < 9218868437227405312 := by omega
      generalize y % 9223372036854775808 = r at *
      cases sgn x <;> cases sgn y
      · show some Ordering.gt = _
        rw [cmp_gt]; simp only [sv, Bool.false_eq_true, if_false]; omega
      · show some Ordering.gt = _
        rw [cmp_gt]; simp only [sv, Bool.false_eq_true, if_false, if_true]; omega
      · show some Ordering.lt = _
        rw [cmp_lt]; simp only [sv, Bool.false_eq_true, if_false, if_true]; omega
      · show some Ordering.lt = _
        rw [cmp_lt]; simp only [sv, if_true]; omega
  · obtain ⟨m, a, hr, hv⟩ := read_fin x hx (by omega)
    rw [hr]
    by_cases iy : y % 9223372036854775808 = 9218868437227405312
    · rw [read_inf y hy iy, iy]
      have : x % 9223372036854775808 < 9218868437227405312 := by omega
      generalize x % 9223372036854775808 = r at *
      cases sgn x <;> cases sgn y
      · show some Ordering.lt = _
        rw [cmp_lt]; simp only [sv, Bool.false_eq_true, if_false]; omega
      · show some Ordering.gt = _
        rw [cmp_gt]; simp only [sv, Bool.false_eq_true, if_false, if_true]; omega
      · show some Ordering.lt = _
        rw [cmp_lt]; simp only [sv, Bool.false_eq_true, if_false, if_true]; omega
      · show some Ordering.gt = _
        rw [cmp_gt]; simp only [sv, if_true]; omega
    · obtain ⟨n, b, hr', hv'⟩ := read_fin y hy (by omega)
      rw [hr', order_num, hv, hv', sv_vl]

theorem order_nanl (x y : Nat) (h : nan x = true) : double.order x y = none := by
  obtain ⟨s, t, e⟩ := read_nan x h
  unfold Format.order
  rw [e]
  unfold Datum.order; rfl
theorem order_nanr (x y : Nat) (h : nan y = true) : double.order x y = none := by
  obtain ⟨s, t, e⟩ := read_nan y h
  unfold Format.order
  rw [e]
  cases double.read x <;> rfl
theorem order_self (x : Nat) : (double.order x x == some .eq) = !nan x := by
  cases h : nan x with
  | true => rw [order_nanl x x h]; rfl
  | false =>
    have h := of_decide_eq_false h
    unfold Format.order
    rw [read_eq]
    split
    · simp [Datum.order, compare, compareOfLessAndEq]
    · split
      · simp [Datum.order, compare, compareOfLessAndEq]
      · rw [if_pos (by omega)]
        simp [Datum.order, compare, compareOfLessAndEq]

/-- WHAT Less SAYS OF TWO WORDS. -/
def lessB (x y : Nat) : Bool := if nan x || nan y then nan x && !nan y else decide (ky x < ky y)
def sameB (x y : Nat) : Bool := (nan x && nan y) || decide (x = y)

theorem ky_kz (x : Nat) : ky x = kz x - (if sgn x then 1 else 0) := by
  unfold ky kz
  cases sgn x <;> simp

theorem less_eq (x y : Nat) (hx : x < 18446744073709551616) (hy : y < 18446744073709551616) (nx : nan x = false) (ny : nan y = false) (h : (double.order x y == some .eq) = true) : (sgn x && !sgn y) = lessB x y := by
  rw [order_word x y hx hy nx ny] at h
  have h : compare (kz x) (kz y) = .eq := by simpa using h
  have h : kz x = kz y := by
    change compareOfLessAndEq (kz x) (kz y) = .eq at h
    unfold compareOfLessAndEq at h
    split at h
    · cases h
    · split at h
      · assumption
      · cases h
  unfold lessB
  rw [nx, ny]
  simp only [Bool.or_self, Bool.false_eq_true, if_false]
  rw [ky_kz, ky_kz, h]
  cases sgn x <;> cases sgn y <;> simp <;> omega
theorem less_ne (x y : Nat) (hx : x < 18446744073709551616) (hy : y < 18446744073709551616) (nx : nan x = false) (ny : nan y = false) (h : (double.order x y == some .eq) = false) : (double.order x y == some .lt) = lessB x y := by
  rw [order_word x y hx hy nx ny] at h ⊢
  unfold lessB
  rw [nx, ny]
  simp only [Bool.or_self, Bool.false_eq_true, if_false]
  change (some (compareOfLessAndEq (kz x) (kz y)) == some .eq) = false at h
  show (some (compareOfLessAndEq (kz x) (kz y)) == some .lt) = _
  unfold compareOfLessAndEq at h ⊢
  rw [ky_kz, ky_kz]
  have e1 : sgn x = true → kz x ≤ 0 := by unfold kz sgn; intro e; rw [e]; have := of_decide_eq_true e; simp; omega
  have e2 : sgn y = true → kz y ≤ 0 := by unfold kz sgn; intro e; rw [e]; have := of_decide_eq_true e; simp; omega
  have e3 : sgn x = false → 0 ≤ kz x := by unfold kz sgn; intro e; rw [e]; simp
  have e4 : sgn y = false → 0 ≤ kz y := by unfold kz sgn; intro e; rw [e]; simp
  by_cases c1 : kz x < kz y
  · rw [if_pos c1]
    symm
    show decide _ = true
    apply decide_eq_true
    cases a : sgn x <;> cases b : sgn y <;> simp <;> first | omega | (have := e1 a; have := e4 b; omega) | (have := e3 a; have := e2 b; omega)
  · rw [if_neg c1] at h ⊢
    by_cases c2 : kz x = kz y
    · rw [if_pos c2] at h; cases h
    · rw [if_neg c2]
      symm
      show decide _ = false
      apply decide_eq_false
      cases a : sgn x <;> cases b : sgn y <;> simp <;> first | omega | (have := e1 a; have := e4 b; omega) | (have := e3 a; have := e2 b; omega)

theorem lessB_irr (x : Nat) : lessB x x = false := by
  unfold lessB
  cases nan x <;> simp
theorem lessB_asym (x y : Nat) : (lessB x y && lessB y x) = false := by
  unfold lessB
  cases nan x <;> cases nan y <;> simp
  omega
theorem lessB_trans (x y z : Nat) : (lessB x y && lessB y z && !lessB x z) = false := by
  unfold lessB
  cases nan x <;> cases nan y <;> cases nan z <;> simp
  omega
theorem lessB_total (x y : Nat) (hx : x < 18446744073709551616) (hy : y < 18446744073709551616) : (lessB x y || lessB y x || sameB x y) = true := by
  unfold lessB sameB
  cases nan x <;> cases nan y <;> simp
  unfold ky sgn
  by_cases c1 : 9223372036854775808 ≤ x <;> by_cases c2 : 9223372036854775808 ≤ y <;> simp [c1, c2] <;> omega
/-- The document's: by the bits. -/
theorem ref_less (x y : Nat) (hx : x < 18446744073709551616) (hy : y < 18446744073709551616) (nx : nan x = false) (ny : nan y = false) :
    lessB x y = if sgn x = sgn y then (if sgn x then decide (y < x) else decide (x < y)) else sgn x := by
  unfold lessB
  rw [nx, ny]
  simp only [Bool.or_self, Bool.false_eq_true, if_false]
  unfold ky sgn
  by_cases c1 : 9223372036854775808 ≤ x <;> by_cases c2 : 9223372036854775808 ≤ y <;> simp [c1, c2] <;> omega
end Go.Proofs.Ytfelndloobnipaa
