/-
  Rounding keeps an order: what is no more than a rung is written no higher, what is no less no lower. Its conditions are said.
-/
import Derived.Test.YtfelndloobnipaaRg
namespace Go.Proofs.Ytfelndloobnipaa
open Ieee

theorem cut_bounds (neg : Bool) (n d k : Nat) : (k * 2 ^ d ≤ n → k ≤ Toward.even.cut neg n d) ∧ (n ≤ k * 2 ^ d → Toward.even.cut neg n d ≤ k) := by
  unfold Toward.cut
  simp only [Nat.shiftLeft_eq, Nat.one_mul]
  by_cases h : d ≤ n.log2 + 2
  · rw [Nat.min_eq_left h]
    have hp := Nat.two_pow_pos d
    generalize 2 ^ d = g at *
    have h1 := Nat.div_add_mod n g
    have h2 := Nat.mod_lt n hp
    have hq : k * g ≤ n → k ≤ n / g := (Nat.le_div_iff_mul_le hp).2
    generalize n / g = q at *
    generalize n % g = t at *
    rw [Nat.mul_comm] at h1
    constructor
    · intro hk
      have := hq hk
      omega
    · intro hk
      by_cases ht : t = 0
      · subst ht
        have e : (decide (g < 2 * 0) || (g == 2 * 0 && q % 2 == 1)) = false := by
          rw [decide_eq_false (by omega), show (g == 2 * 0) = false from by simp; omega]; rfl
        rw [e]
        show q + 0 ≤ k
        have h3 : q * g ≤ k * g := by omega
        exact Nat.le_of_mul_le_mul_right h3 hp
      · have h3 : q < k := by
          refine Nat.lt_of_not_le fun hle => ?_
          have := Nat.mul_le_mul_right g hle
          omega
        have : (decide (g < 2 * t) || (g == 2 * t && q % 2 == 1)).toNat ≤ 1 := Bool.toNat_le _
        omega
  · rw [Nat.min_eq_right (by omega)]
    have hlt : 2 * n < 2 ^ (n.log2 + 2) := by
      have := Nat.lt_log2_self (n := n)
      rw [show n.log2 + 2 = (n.log2 + 1) + 1 from rfl, Nat.pow_succ]
      omega
    rw [Nat.div_eq_of_lt (by omega), Nat.mod_eq_of_lt (by omega)]
    have e : (decide (2 ^ (n.log2 + 2) < 2 * n) || (2 ^ (n.log2 + 2) == 2 * n && 0 % 2 == 1)) = false := by
      rw [decide_eq_false (by omega)]; simp
    rw [e]
    constructor
    · intro hk
      rcases Nat.eq_zero_or_pos k with rfl | h0
      · exact Nat.zero_le _
      · have h3 := Nat.mul_le_mul_right (2 ^ d) h0
        have h4 : 2 ^ (n.log2 + 2) ≤ 2 ^ d := Nat.pow_le_pow_right (by decide) (by omega)
        omega
    · intro _
      exact Nat.zero_le _
theorem kept_bounds (mag p e k : Nat) : (k * 2 ^ e ≤ mag * 2 ^ p → k ≤ Toward.even.cut false (mag * 2 ^ (p - e)) (e - p)) ∧ (mag * 2 ^ p ≤ k * 2 ^ e → Toward.even.cut false (mag * 2 ^ (p - e)) (e - p) ≤ k) := by
  have := cut_bounds false (mag * 2 ^ (p - e)) (e - p) k
  rcases Nat.le_total p e with h | h
  · obtain ⟨j, rfl⟩ := Nat.exists_eq_add_of_le h
    rw [show p - (p + j) = 0 from by omega, show p + j - p = j from by omega, Nat.pow_zero, Nat.mul_one] at this ⊢
    have hp := Nat.two_pow_pos p
    rw [show k * 2 ^ (p + j) = k * 2 ^ j * 2 ^ p from by rw [Nat.pow_add, Nat.mul_comm (2 ^ p), Nat.mul_assoc]]
    rw [Nat.mul_le_mul_right_iff hp, Nat.mul_le_mul_right_iff hp]
    exact this
  · obtain ⟨j, rfl⟩ := Nat.exists_eq_add_of_le h
    rw [show e + j - e = j from by omega, show e - (e + j) = 0 from by omega] at this ⊢
    rw [Nat.pow_zero, Nat.mul_one] at this
    have hp := Nat.two_pow_pos e
    rw [show mag * 2 ^ (e + j) = mag * 2 ^ j * 2 ^ e from by rw [Nat.pow_add, Nat.mul_comm (2 ^ e), Nat.mul_assoc]]
    rw [Nat.mul_le_mul_right_iff hp, Nat.mul_le_mul_right_iff hp]
    exact this
/-- What is written: how far it is shifted, and its digits. -/
theorem nearest_form (mag p c : Nat) (hm : 0 < mag) : ∃ l, l = mag.log2 + p - c - 52 ∧ double.nearest false mag (-1074 + (p : Int) - (c : Int)) = min (l * 4503599627370496 + Toward.even.cut false (mag * 2 ^ (p - (l + c))) (l + c - p)) INF := by
  refine ⟨_, rfl, ?_⟩
  unfold Format.nearest
  rw [if_neg (by omega)]
  have e1 : max (-1074 + (p : Int) - (c : Int) + (mag.log2 : Nat) - (double.fractionBits : Nat)) double.leastPlace = -1074 + ((mag.log2 + p - c - 52 : Nat) : Int) := by
    show max (-1074 + (p : Int) - (c : Int) + (mag.log2 : Nat) - ((52 : Nat) : Int)) (-1074) = _
    omega
  simp only [e1]
  generalize mag.log2 + p - c - 52 = l
  rw [show (-1074 + (p : Int) - (c : Int) - (-1074 + (l : Int))).toNat = p - (l + c) from by omega, show (-1074 + (l : Int) - (-1074 + (p : Int) - (c : Int))).toNat = l + c - p from by omega,
    show (-1074 + (l : Int) - double.leastPlace).toNat = l from by show (-1074 + (l : Int) - (-1074)).toNat = l; omega, Nat.shiftLeft_eq]
  have hbin : double.binade = 4503599627370496 := by decide
  have hinf : double.infRung = INF := by decide
  rw [hbin, hinf]
  exact word_pos _
theorem fr_ge (r : Nat) (h : 0 < sh r) : 4503599627370496 ≤ fr r := by
  unfold sh at h
  unfold fr
  split at h
  · omega
  · rename_i h'
    rw [if_neg h']
    omega
theorem two_le_log (mag : Nat) (hm : 0 < mag) : 2 ^ mag.log2 ≤ mag := Nat.log2_self_le (by omega)
theorem pow_lt_of {a b : Nat} (h : 2 ^ a < 2 ^ b) : a < b := (Nat.pow_lt_pow_iff_right (by decide)).1 h
theorem aux_le (l S K r f I : Nat) (hr : S * 4503599627370496 + f = r) (hls : l < S) (hg : 4503599627370496 ≤ f) (hk : K ≤ 9007199254740992) : min (l * 4503599627370496 + K) I ≤ r := by omega
theorem aux_le2 (S K r f I : Nat) (hr : S * 4503599627370496 + f = r) (hk : K ≤ f) : min (S * 4503599627370496 + K) I ≤ r := by omega
theorem aux_ge (l S K r f I : Nat) (hr : S * 4503599627370496 + f = r) (hls : S < l) (hf : f < 9007199254740992) (hk : 4503599627370496 ≤ K) : min r I ≤ min (l * 4503599627370496 + K) I := by omega
theorem aux_ge2 (S K r f I : Nat) (hr : S * 4503599627370496 + f = r) (hk : f ≤ K) : min r I ≤ min (S * 4503599627370496 + K) I := by omega
theorem nearest_le (mag p c r : Nat) (hm : 0 < mag) (h : mag * 2 ^ p ≤ vl r * 2 ^ c) : double.nearest false mag (-1074 + (p : Int) - (c : Int)) ≤ r := by
  obtain ⟨l, hl, e⟩ := nearest_form mag p c hm
  rw [e]
  have hr := rung_fr r
  have hf := fr_lt r
  rw [vl_fr, Nat.mul_assoc, ← Nat.pow_add] at h
  have hlo : 2 ^ (mag.log2 + p) ≤ mag * 2 ^ p := by rw [Nat.pow_add]; exact Nat.mul_le_mul_right _ (two_le_log mag hm)
  have hhi : mag * 2 ^ p < 2 ^ (mag.log2 + 1 + p) := by rw [Nat.pow_add]; exact Nat.mul_lt_mul_of_pos_right Nat.lt_log2_self (Nat.two_pow_pos p)
  have hlt : mag.log2 + p < 53 + (sh r + c) := by
    refine pow_lt_of (Nat.lt_of_le_of_lt hlo (Nat.lt_of_le_of_lt h ?_))
    rw [Nat.pow_add 2 53]
    exact Nat.mul_lt_mul_of_pos_right (by omega) (Nat.two_pow_pos _)
  rcases Nat.lt_or_ge l (sh r) with hls | hls
  · have hk := (kept_bounds mag p (l + c) 9007199254740992).2 (by
      rw [show (9007199254740992 : Nat) = 2 ^ 53 from rfl, ← Nat.pow_add]
      refine Nat.le_of_lt (Nat.lt_of_lt_of_le hhi (Nat.pow_le_pow_right (by decide) ?_))
      omega)
    have hg := fr_ge r (by omega)
    exact aux_le _ _ _ _ _ _ hr hls hg hk
  · have hle : l = sh r := by omega
    subst hle
    have hk := (kept_bounds mag p (sh r + c) (fr r)).2 h
    exact aux_le2 _ _ _ _ _ hr hk
theorem nearest_ge (mag p c r : Nat) (hm : 0 < mag) (h : vl r * 2 ^ c ≤ mag * 2 ^ p) : min r INF ≤ double.nearest false mag (-1074 + (p : Int) - (c : Int)) := by
  obtain ⟨l, hl, e⟩ := nearest_form mag p c hm
  rw [e]
  have hr := rung_fr r
  have hf := fr_lt r
  rw [vl_fr, Nat.mul_assoc, ← Nat.pow_add] at h
  have hlo : 2 ^ (mag.log2 + p) ≤ mag * 2 ^ p := by rw [Nat.pow_add]; exact Nat.mul_le_mul_right _ (two_le_log mag hm)
  have hhi : mag * 2 ^ p < 2 ^ (mag.log2 + 1 + p) := by rw [Nat.pow_add]; exact Nat.mul_lt_mul_of_pos_right Nat.lt_log2_self (Nat.two_pow_pos p)
  rcases Nat.lt_or_ge (sh r) l with hls | hls
  · have hk := (kept_bounds mag p (l + c) 4503599627370496).1 (by
      rw [show (4503599627370496 : Nat) = 2 ^ 52 from rfl, ← Nat.pow_add]
      refine Nat.le_trans (Nat.pow_le_pow_right (by decide) ?_) hlo
      omega)
    exact aux_ge _ _ _ _ _ _ hr hls hf hk
  · have hle : l = sh r := by
      rcases Nat.lt_or_ge l (sh r) with hls' | hls'
      · have hg := fr_ge r (by omega)
        have h2 : 2 ^ (52 + (sh r + c)) ≤ fr r * 2 ^ (sh r + c) := by rw [Nat.pow_add 2 52]; exact Nat.mul_le_mul_right _ (by omega)
        have := pow_lt_of (Nat.lt_of_le_of_lt (Nat.le_trans h2 h) hhi)
        omega
      · omega
    subst hle
    have hk := (kept_bounds mag p (sh r + c) (fr r)).1 h
    exact aux_ge2 _ _ _ _ _ hr hk
/-- A sum is no less than either. -/
theorem add_ge (r s t : Nat) (h : r ≤ INF) (h' : s ≤ INF) (ht : double.add r s = some t) : r ≤ t := by
  unfold Format.add at ht
  rcases Nat.lt_or_eq_of_le h with h | rfl
  · obtain ⟨m, a, e, hv⟩ := read_rung r h
    rw [e] at ht
    rcases Nat.lt_or_eq_of_le h' with h' | rfl
    · obtain ⟨n, b, e', hv'⟩ := read_rung s h'
      rw [e'] at ht
      simp only [Datum.sum, signed, Bool.false_eq_true, if_false, Option.map_some, Bool.and_self] at ht
      injection ht with ht
      have : ∀ x y : Nat, (if (x : Int) + (y : Int) = 0 then false else decide ((x : Int) + (y : Int) < 0)) = false := by
        intro x y
        split
        · rfl
        · exact decide_eq_false (by omega)
      rw [this] at ht
      rcases Nat.eq_zero_or_pos r with rfl | h0
      · exact Nat.zero_le _
      have hb : min (-1074 + (a : Int)) (-1074 + (b : Int)) = -1074 + ((min a b : Nat) : Int) - ((0 : Nat) : Int) := by omega
      rw [hb, show (-1074 + (a : Int) - (-1074 + ((min a b : Nat) : Int) - ((0 : Nat) : Int))).toNat = a - min a b from by omega, show (-1074 + (b : Int) - (-1074 + ((min a b : Nat) : Int) - ((0 : Nat) : Int))).toNat = b - min a b from by omega, Nat.shiftLeft_eq, Nat.shiftLeft_eq] at ht
      have hpos : 0 < vl r := by have := vl_lt h0; omega
      have hm1 : m * 2 ^ (a - min a b) * 2 ^ min a b = vl r := by rw [Nat.mul_assoc, ← Nat.pow_add, show a - min a b + min a b = a from by omega, hv]
      have hge := nearest_ge (m * 2 ^ (a - min a b) + n * 2 ^ (b - min a b)) (min a b) 0 r (by
        have : 0 < m * 2 ^ (a - min a b) := by
          rcases Nat.eq_zero_or_pos (m * 2 ^ (a - min a b)) with e | e
          · rw [e, Nat.zero_mul] at hm1; omega
          · exact e
        omega) (by rw [Nat.pow_zero, Nat.mul_one, Nat.add_mul, hm1]; omega)
      have e2 : (((m * 2 ^ (a - min a b) : Nat) : Int) + ((n * 2 ^ (b - min a b) : Nat) : Int)).natAbs = m * 2 ^ (a - min a b) + n * 2 ^ (b - min a b) := by omega
      have ht : double.nearest false ((((m * 2 ^ (a - min a b) : Nat) : Int) + ((n * 2 ^ (b - min a b) : Nat) : Int)).natAbs) (-1074 + ((min a b : Nat) : Int) - ((0 : Nat) : Int)) = t := ht
      rw [e2] at ht
      omega
    · rw [read_top] at ht
      have : double.write (.infinity false) = t := by injection ht
      have h2 : double.write (.infinity false) = INF := by decide +kernel
      omega
  · rw [read_top] at ht
    have h2 : double.write (.infinity false) = INF := by decide +kernel
    rcases Nat.lt_or_eq_of_le h' with h' | rfl
    · obtain ⟨n, b, e', _⟩ := read_rung s h'
      rw [e'] at ht
      have : double.write (.infinity false) = t := by injection ht
      omega
    · rw [read_top] at ht
      have : double.write (.infinity false) = t := by
        have ht : (some (Datum.infinity false)).map double.write = some t := ht
        injection ht
      omega
theorem add_zero (r : Nat) (h : r < INF) : double.add r 0 = some r := by
  obtain ⟨m, a, e, hv⟩ := read_rung r h
  unfold Format.add
  rw [e, show double.read 0 = .number false 0 (-1074) from by decide +kernel]
  simp only [Datum.sum, signed, Bool.false_eq_true, if_false, Option.map_some, Bool.and_self, Nat.zero_shiftLeft, Int.ofNat_zero, Int.add_zero]
  rw [show min (-1074 + (a : Int)) (-1074) = -1074 from by omega, show (-1074 + (a : Int) - -1074).toNat = a from by omega, Nat.shiftLeft_eq, hv]
  rcases Nat.eq_zero_or_pos r with rfl | h0
  · decide +kernel
  · have hpos : 0 < vl r := by have := vl_lt h0; omega
    rw [if_neg (by omega), decide_eq_false (by omega)]
    have := nearest_exact false (vl r) 0 0 r hpos rfl
    rw [word_pos, Nat.min_eq_left (Nat.le_of_lt h)] at this
    show some (double.nearest false ((vl r : Int)).natAbs (-1074)) = _
    rw [Int.natAbs_natCast]
    exact congrArg some this
/-- Three quarters are no more. -/
theorem mul75 (v t : Nat) (h : v < INF) (ht : double.mul 4604930618986332160 v = some t) : t ≤ v := by
  obtain ⟨m, a, e, hv⟩ := read_rung v h
  unfold Format.mul at ht
  rw [e, show double.read 4604930618986332160 = .number false 6755399441055744 (-53) from by decide +kernel] at ht
  have ht : some (double.nearest false (6755399441055744 * m) (-53 + (-1074 + (a : Int)))) = some t := ht
  injection ht with ht
  rw [← ht]
  rcases Nat.eq_zero_or_pos m with rfl | hm
  · rw [Nat.mul_zero]
    unfold Format.nearest
    rw [if_pos rfl]
    exact Nat.zero_le _
  · rw [show -53 + (-1074 + (a : Int)) = -1074 + (a : Int) - ((53 : Nat) : Int) from by omega]
    refine nearest_le _ a 53 v (by omega) ?_
    rw [← hv, Nat.mul_comm 6755399441055744, Nat.mul_right_comm]
    exact Nat.mul_le_mul_left _ (by decide)
end Go.Proofs.Ytfelndloobnipaa
