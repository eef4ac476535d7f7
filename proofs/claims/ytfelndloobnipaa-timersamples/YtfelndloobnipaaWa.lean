/-
  How long is waited: Ceil, Smooth, New and Wait of a timer, whatever it has learned. Its conditions: the numbers are rungs no greater than infinity.
-/
import Derived.Test.YtfelndloobnipaaFl
namespace Go.Proofs.Ytfelndloobnipaa
open Go.RowKit Ieee

theorem cut_up (m d k : Nat) : Toward.up.cut false m d ≤ k ↔ m ≤ k * 2 ^ d := by
  unfold Toward.cut
  simp only [Nat.shiftLeft_eq, Nat.one_mul, Bool.not_false, Bool.true_and]
  by_cases h : d ≤ m.log2 + 2
  · rw [Nat.min_eq_left h]
    have hp := Nat.two_pow_pos d
    generalize 2 ^ d = g at *
    have h1 := Nat.div_add_mod m g
    have h2 := Nat.mod_lt m hp
    generalize m / g = q at *
    generalize m % g = t at *
    rw [Nat.mul_comm] at h1
    by_cases ht : t = 0
    · subst ht
      simp
      rw [← h1, Nat.add_zero]
      exact (Nat.mul_le_mul_right_iff hp).symm
    · rw [show (t != 0) = true from by simp [ht]]
      show q + 1 ≤ k ↔ _
      constructor
      · intro h
        have := Nat.mul_le_mul_right g h
        rw [Nat.add_mul, Nat.one_mul] at this
        omega
      · intro h
        refine Nat.le_of_not_lt fun hlt => ?_
        have := Nat.mul_le_mul_right g (show k ≤ q from by omega)
        omega
  · rw [Nat.min_eq_right (by omega)]
    have hlt : m < 2 ^ (m.log2 + 2) := by
      have := Nat.lt_log2_self (n := m)
      rw [Nat.pow_succ]
      omega
    rw [Nat.div_eq_of_lt hlt, Nat.mod_eq_of_lt hlt]
    rcases Nat.eq_zero_or_pos m with rfl | h0
    · simp
    · rw [show (m != 0) = true from by simp; omega]
      show 0 + 1 ≤ k ↔ _
      constructor
      · intro h1
        have h2 : 2 ^ (m.log2 + 2) ≤ 2 ^ d := Nat.pow_le_pow_right (by decide) (by omega)
        have h3 := Nat.mul_le_mul_right (2 ^ d) h1
        omega
      · intro h1
        rcases Nat.eq_zero_or_pos k with rfl | hk
        · omega
        · omega
def ONE : Nat := 2 ^ 1074
theorem one_pos : 0 < ONE := by decide +kernel
/-- The least whole number that isn't below. -/
def ce (x : Nat) : Nat := (vl x + (ONE - 1)) / ONE
theorem ce_le (x k : Nat) : ce x ≤ k ↔ vl x ≤ k * ONE := by
  unfold ce
  have hp := one_pos
  rw [← Nat.lt_succ_iff, Nat.div_lt_iff_lt_mul hp, Nat.succ_mul]
  generalize k * ONE = K
  generalize ONE = g at *
  omega
abbrev W64 : Nat := 4634204016564240384
theorem vl64 : vl W64 = 64 * ONE := by decide +kernel
theorem ce_mono {a b : Nat} (h : a ≤ b) : ce a ≤ ce b := by
  rw [ce_le]
  have h1 : vl a ≤ vl b := by
    rcases Nat.lt_or_eq_of_le h with h | rfl
    · exact Nat.le_of_lt (vl_lt h)
    · exact Nat.le_refl _
  exact Nat.le_trans h1 ((ce_le b _).1 (Nat.le_refl _))
theorem ce_64 (x : Nat) : ce x ≤ 64 ↔ x ≤ W64 := by
  rw [ce_le, ← vl64]
  have := vl_iff W64 x
  omega
/-- What Ceil answers. -/
theorem ceil_word (x : Nat) (h : x ≤ W64) : (double.read x).integral .up = .number false (ce x) 0 := by
  obtain ⟨m, a, e, hv⟩ := read_rung x (by unfold INF; unfold W64 at h; omega)
  have ha : a ≤ 1074 := by
    have h1 := read_eq x
    rw [e, Nat.mod_eq_of_lt (show x < 9223372036854775808 from by unfold W64 at h; omega)] at h1
    unfold W64 at h
    split at h1
    · injection h1; omega
    · rw [if_pos (by omega)] at h1
      injection h1
      omega
  rw [e]
  show Datum.number false (Toward.up.cut false (m <<< (-1074 + (a : Int)).toNat) (-(-1074 + (a : Int))).toNat) 0 = _
  rw [show (-1074 + (a : Int)).toNat = 0 from by omega, Nat.shiftLeft_zero, show (-(-1074 + (a : Int))).toNat = 1074 - a from by omega]
  congr 1
  have hk : ∀ k, Toward.up.cut false m (1074 - a) ≤ k ↔ ce x ≤ k := by
    intro k
    rw [cut_up, ce_le, ← hv]
    have hp := Nat.two_pow_pos a
    have : ONE = 2 ^ (1074 - a) * 2 ^ a := by unfold ONE; rw [← Nat.pow_add, show 1074 - a + a = 1074 from by omega]
    rw [this, ← Nat.mul_assoc]
    exact (Nat.mul_le_mul_right_iff hp).symm
  exact Nat.le_antisymm ((hk _).2 (Nat.le_refl _)) ((hk _).1 (Nat.le_refl _))
/-- The words of the whole numbers up to 64. -/
theorem int_word (c : Nat) (h : c ≤ 64) : floatToIntVal .f64 (double.nearest false c 0) .i64 = some (c : Int) := by
  have h' : ∀ k : Fin 65, floatToIntVal .f64 (double.nearest false k.val 0) .i64 = some (k.val : Int) := by decide +kernel
  exact h' ⟨c, by omega⟩
@[go_sem] theorem call_ceil (x : Nat) (w : World) (h : x ≤ W64) : (callFunc 26 #[.float .f64 x]).run Try.prog w = .ok (.value (.float .f64 (double.nearest false (ce x) 0))) w := by
  have hw := ceil_word x h
  rw [run_callFunc_extern Try.func26 (by kernel_rfl) (by kernel_rfl) (by kernel_rfl) (e := Extern.MathFloor.toIntegral "math.archCeil" .up) (by kernel_rfl)]
  obtain ⟨m, a, e, hv⟩ := read_rung x (by unfold INF; unfold W64 at h; omega)
  rw [e] at hw
  have e' : FloatKind.f64.decode x = .number false m (-1074 + (a : Int)) := e
  have hd : Extern.MathFloor.toIntegral "math.archCeil" .up #[.float .f64 x] = pure (.float .f64 (FloatKind.f64.encode ((Datum.number false m (-1074 + (a : Int))).integral .up))) := by
    conv => lhs; whnf
    rw [e']
  rw [hd, hw]
  rfl
theorem ceil_any (x : Nat) (w : World) (h : x ≤ W64) : Calls Try.prog 23 #[.float .f64 x] w fun e w' => e = .returned (.float .f64 (double.nearest false (ce x) 0)) ∧ w = w' := by
  have hc := call_ceil x w h
  go_enter Try.func23, Try.ntmps23
  go_wp2
  go_ret
  exact ⟨rfl, rfl⟩

/-- What is waited, by the rung of what would be. -/
def wt (x : Nat) : Nat := if W64 < x then 64 else max (ce x) 1
theorem wt_mono {a b : Nat} (h : a ≤ b) : wt a ≤ wt b := by
  unfold wt
  have h1 := ce_mono h
  have h2 := ce_64 a
  split <;> split <;> omega
theorem wt_hi (a : Nat) : wt a ≤ 64 ∧ 1 ≤ wt a := by
  unfold wt
  have h2 := ce_64 a
  split <;> omega

/-- What a timer has learned: nothing, or its two numbers. -/
abbrev St := Option (Nat × Nat)
abbrev NAN : Nat := 9221120237041090561
def fv (op : BinOp) (x y : Nat) : Nat := (floatBits op .f64 x y).getD 0
def cells43 (s : St) : Array Value := #[.float .f64 (s.getD (NAN, NAN)).1, .float .f64 (s.getD (NAN, NAN)).2]
def TAt (w : World) (p : Nat) (s : St) : Prop := w.heap[p]? = some (.cells (cells43 s) 43 (0, 0))
def Okay : St → Prop
  | none => True
  | some (m, v) => m ≤ INF ∧ v ≤ INF
theorem TAt.of {w w' : World} {p : Nat} {s : St} (h : TAt w p s) (hb : Below w.heap.size w w') : TAt w' p s := by
  have hp : p < w.heap.size := by
    rcases Nat.lt_or_ge p w.heap.size with e | e
    · exact e
    · unfold TAt at h; rw [Array.getElem?_eq_none e] at h; cases h
  unfold TAt at *
  rw [← h]
  exact hb.block p hp
theorem new_any (w : World) : Calls Try.prog 7 #[] w fun e w' => e = .returned (.pointer (some ⟨w.heap.size, 0, none⟩)) ∧ w' = w.alloc (.cells #[.float .f64 NAN, .float .f64 NAN] 43) := by
  go_enter Try.func7, Try.ntmps7
  go_wp2_with (go_at_call 15; refine (nan_any _).mono ?_; rintro e w' ⟨rfl, rfl⟩)
  go_ret
  exact ⟨rfl, rfl⟩
theorem smooth_any (w : World) (p : Nat) (s : St) (h : TAt w p s) : Calls Try.prog 11 #[.pointer (some ⟨p, 0, none⟩)] w fun e w' => e = .returned (.tuple #[.float .f64 (s.getD (NAN, NAN)).1, .float .f64 (s.getD (NAN, NAN)).2]) ∧ ∃ n, w' = w.drewN n := by
  unfold TAt cells43 at h
  generalize (s.getD (NAN, NAN)).1 = m at *
  generalize (s.getD (NAN, NAN)).2 = v at *
  have h1 : w.cell? ⟨p, 0, none⟩ = some (.float .f64 m) := by simp [World.cell?, h]
  have h2 : w.cell? ⟨p, 1, none⟩ = some (.float .f64 v) := by simp [World.cell?, h]
  go_enter Try.func11, Try.ntmps11
  go_wp2
  go_region
  go_wp2
  go_ret2
  exact ⟨rfl, _, World.drew_is_drewN _⟩
theorem smooth_nil (w : World) : Calls Try.prog 11 #[.pointer none] w fun e w' => e = .returned (.tuple #[.float .f64 NAN, .float .f64 NAN]) ∧ ∃ n, w' = w.drewN n := by
  go_enter Try.func11, Try.ntmps11
  go_wp2_with (go_at_call 15; refine (nan_any _).mono ?_; rintro e w' ⟨rfl, rfl⟩)
  go_ret2
  exact ⟨rfl, 0, (World.drewN_zero _).symm⟩
/-- What would be waited at first. -/
def bs : St → Nat
  | none => 4616189618054758400
  | some (m, v) => fv .add m (fv .mul 4616189618054758400 v)
theorem fv_of {op : BinOp} {x y t : Nat} (h : floatBits op .f64 x y = some t) : fv op x y = t := by unfold fv; rw [h]; rfl
theorem bs_ok (s : St) (h : Okay s) : bs s ≤ INF ∧ FV (fo .add (fo .mul (some 4607182418800017408) (some (s.getD (NAN, NAN)).1)) (fo .mul (some 4616189618054758400) (some (s.getD (NAN, NAN)).2))) = FV (s.map fun _ => bs s) := by
  cases s with
  | none =>
    refine ⟨by decide, ?_⟩
    show FV (fo .add (floatBits .mul .f64 4607182418800017408 NAN) (floatBits .mul .f64 4616189618054758400 NAN)) = FV none
    rw [bits_nan .mul _ NAN (.inr (by decide +kernel))]
    rfl
  | some mv =>
    obtain ⟨m, v⟩ := mv
    obtain ⟨h1, h2⟩ := h
    obtain ⟨f, hf, hf'⟩ := mul_rung 4616189618054758400 v (by decide) (by decide) h2
    obtain ⟨b, hb, hb'⟩ := add_rung m f h1 hf'
    have e1 : fv .mul 4616189618054758400 v = f := fv_of hf
    have e2 : bs (some (m, v)) = b := by show fv .add m (fv .mul 4616189618054758400 v) = b; rw [e1]; exact fv_of hb
    refine ⟨by rw [e2]; exact hb', ?_⟩
    show FV (fo .add (floatBits .mul .f64 4607182418800017408 m) (floatBits .mul .f64 4616189618054758400 v)) = FV (some (bs (some (m, v))))
    rw [e2, show floatBits .mul .f64 4607182418800017408 m = some m from mul_one m h1, show floatBits .mul .f64 4616189618054758400 v = some f from hf]
    exact congrArg FV hb
/-- How often is doubled. -/
def tms (n : Int) : Nat := (min (max n 0) 1000).toNat
theorem Ldexp_int (r k : Nat) (K : Int) (w : World) (hK : K = k) (h : r ≤ INF) (hk : k ≤ 1000) : Calls Try.prog 22 #[.float .f64 r, .int .i64 K] w fun e w' => e = .returned (.float .f64 (min (up k r) INF)) ∧ w = w' := by
  subst hK
  exact Ldexp_any r k w h hk
set_option maxHeartbeats 1000000 in
theorem wait_num (pv : Value) (n : Int) (w : World) (m v b : Nat) (hb : b ≤ INF)
    (hS : Calls Try.prog 11 #[pv] w fun e w' => e = .returned (.tuple #[.float .f64 m, .float .f64 v]) ∧ ∃ k, w' = w.drewN k)
    (hT : ∀ w, Calls Try.prog 19 #[.float .f64 4607182418800017408, .float .f64 m, .float .f64 4616189618054758400, .float .f64 v] w fun e w' => ∃ k, e = .returned (.float .f64 b) ∧ w' = w.drewN k) :
    Calls Try.prog 13 #[pv, .int .i64 n] w fun e w' => e = .returned (.int .i64 (wt (min (up (tms n) b) INF) : Nat)) ∧ ∃ k, w' = w.drewN k := by
  have hnr : nan b = false := decide_eq_false (by unfold INF at hb; omega)
  have ht : tms n ≤ 1000 := by unfold tms; omega
  have hn : n < 0 ∨ (0 ≤ n ∧ n ≤ 1000) ∨ 1000 < n := by omega
  have htn : ((tms n : Nat) : Int) = min (max n 0) 1000 := by unfold tms; omega
  have HT := Lib.hid htn
  have HS := Lib.hid hS
  have HU := Lib.hid hT
  clear htn hS hT
  generalize hx : min (up (tms n) b) INF = x
  have HX := Lib.hid hx
  have hxi : x ≤ INF := by omega
  clear hx
  have hc : (FloatKind.f64.format.order x 4634204016564240384 == some .gt) = decide (W64 < x) := by
    rw [order_rung _ _ hxi (by decide), (cmpi _ _).2.1]
    by_cases h : W64 < x
    · rw [decide_eq_true h, decide_eq_true (by unfold W64 at h; omega)]
    · rw [decide_eq_false h, decide_eq_false (by unfold W64 at h; omega)]
  by_cases hg : W64 < x
  · have hw : wt x = 64 := by unfold wt; rw [if_pos hg]
    rw [decide_eq_true hg] at hc
    rw [hw]
    clear hw hg
    rcases hn with hn | ⟨hn, hn'⟩ | hn
    all_goals go_enter Try.func13, Try.ntmps13
    all_goals go_wp2_with first
      | (go_at_call 11; refine HS.out.mono ?_; rintro e w' ⟨rfl, k0, rfl⟩)
      | (go_at_call 19; refine (HU.out _).mono ?_; rintro e w' ⟨n1, rfl, rfl⟩)
      | (go_at_call 17; refine (isnan_any _ _).mono ?_; rintro e w' ⟨rfl, rfl⟩; rw [hnr])
      | (go_at_call 22; refine (Ldexp_int _ (tms n) _ _ (by have := HT.out; omega) hb ht).mono ?_; rintro e w' ⟨rfl, rfl⟩; rw [HX.out])
    all_goals go_ret
    all_goals exact ⟨rfl, _, rfl⟩
  · have hle : x ≤ W64 := by omega
    have hw : wt x = max (ce x) 1 := by unfold wt; rw [if_neg hg]
    rw [decide_eq_false hg] at hc
    have hci := fun w => run_convert_float_int (P := Try.prog) w 27 3 .f64 .i64 _ _ (by kernel_rfl) Try.underlying3 (int_word (ce x) ((ce_64 x).2 hle))
    rw [hw]
    generalize hcc : ce x = c at *
    have HC := Lib.hid hcc
    have HL := Lib.hid hle
    clear hw hg hcc hle hxi
    have hc1 : c < 1 ∨ 1 ≤ c := by omega
    rcases hc1 with hc1 | hc1
    all_goals rcases hn with hn | ⟨hn, hn'⟩ | hn
    all_goals go_enter Try.func13, Try.ntmps13
    all_goals go_wp2_with first
      | (go_at_call 11; refine HS.out.mono ?_; rintro e w' ⟨rfl, k0, rfl⟩)
      | (go_at_call 19; refine (HU.out _).mono ?_; rintro e w' ⟨n1, rfl, rfl⟩)
      | (go_at_call 17; refine (isnan_any _ _).mono ?_; rintro e w' ⟨rfl, rfl⟩; rw [hnr])
      | (go_at_call 22; refine (Ldexp_int _ (tms n) _ _ (by have := HT.out; omega) hb ht).mono ?_; rintro e w' ⟨rfl, rfl⟩; rw [HX.out])
      | (go_at_call 23; refine (ceil_any _ _ HL.out).mono ?_; rintro e w' ⟨rfl, rfl⟩; rw [HC.out])
    all_goals go_ret
    all_goals refine ⟨?_, _, rfl⟩
    all_goals (by_cases h00 : c = 0; (first | (subst h00; rfl) | (exfalso; omega)); (first | (exfalso; omega) | (rw [Nat.max_eq_left (by omega)]; rfl)))
set_option maxHeartbeats 1000000 in
theorem wait_nan (pv : Value) (n : Int) (w : World) (m v : Nat)
    (hS : Calls Try.prog 11 #[pv] w fun e w' => e = .returned (.tuple #[.float .f64 m, .float .f64 v]) ∧ ∃ k, w' = w.drewN k)
    (hT : ∀ w, Calls Try.prog 19 #[.float .f64 4607182418800017408, .float .f64 m, .float .f64 4616189618054758400, .float .f64 v] w fun e w' => ∃ r k, e = .returned (.float .f64 r) ∧ w' = w.drewN k ∧ nan r = true) :
    Calls Try.prog 13 #[pv, .int .i64 n] w fun e w' => e = .returned (.int .i64 (wt (min (up (tms n) 4616189618054758400) INF) : Nat)) ∧ ∃ k, w' = w.drewN k := by
  have hb : 4616189618054758400 ≤ INF := by decide
  have ht : tms n ≤ 1000 := by unfold tms; omega
  have hn : n < 0 ∨ (0 ≤ n ∧ n ≤ 1000) ∨ 1000 < n := by omega
  have htn : ((tms n : Nat) : Int) = min (max n 0) 1000 := by unfold tms; omega
  have HT := Lib.hid htn
  have HS := Lib.hid hS
  have HU := Lib.hid hT
  clear htn hS hT
  generalize hx : min (up (tms n) 4616189618054758400) INF = x
  have HX := Lib.hid hx
  have hxi : x ≤ INF := by omega
  clear hx
  have hc : (FloatKind.f64.format.order x 4634204016564240384 == some .gt) = decide (W64 < x) := by
    rw [order_rung _ _ hxi (by decide), (cmpi _ _).2.1]
    by_cases h : W64 < x
    · rw [decide_eq_true h, decide_eq_true (by unfold W64 at h; omega)]
    · rw [decide_eq_false h, decide_eq_false (by unfold W64 at h; omega)]
  by_cases hg : W64 < x
  · have hw : wt x = 64 := by unfold wt; rw [if_pos hg]
    rw [decide_eq_true hg] at hc
    rw [hw]
    clear hw hg
    rcases hn with hn | ⟨hn, hn'⟩ | hn
    all_goals go_enter Try.func13, Try.ntmps13
    all_goals go_wp2_with first
      | (go_at_call 11; refine HS.out.mono ?_; rintro e w' ⟨rfl, k0, rfl⟩)
      | (go_at_call 19; refine (HU.out _).mono ?_; rintro e w' ⟨r, n1, rfl, rfl, hnr⟩)
      | (go_at_call 17; refine (isnan_any _ _).mono ?_; rintro e w' ⟨rfl, rfl⟩; rw [hnr])
      | (go_at_call 22; refine (Ldexp_int _ (tms n) _ _ (by have := HT.out; omega) hb ht).mono ?_; rintro e w' ⟨rfl, rfl⟩; rw [HX.out])
    all_goals go_ret
    all_goals exact ⟨rfl, _, rfl⟩
  · have hle : x ≤ W64 := by omega
    have hw : wt x = max (ce x) 1 := by unfold wt; rw [if_neg hg]
    rw [decide_eq_false hg] at hc
    have hci := fun w => run_convert_float_int (P := Try.prog) w 27 3 .f64 .i64 _ _ (by kernel_rfl) Try.underlying3 (int_word (ce x) ((ce_64 x).2 hle))
    rw [hw]
    generalize hcc : ce x = c at *
    have HC := Lib.hid hcc
    have HL := Lib.hid hle
    clear hw hg hcc hle hxi
    have hc1 : c < 1 ∨ 1 ≤ c := by omega
    rcases hc1 with hc1 | hc1
    all_goals rcases hn with hn | ⟨hn, hn'⟩ | hn
    all_goals go_enter Try.func13, Try.ntmps13
    all_goals go_wp2_with first
      | (go_at_call 11; refine HS.out.mono ?_; rintro e w' ⟨rfl, k0, rfl⟩)
      | (go_at_call 19; refine (HU.out _).mono ?_; rintro e w' ⟨r, n1, rfl, rfl, hnr⟩)
      | (go_at_call 17; refine (isnan_any _ _).mono ?_; rintro e w' ⟨rfl, rfl⟩; rw [hnr])
      | (go_at_call 22; refine (Ldexp_int _ (tms n) _ _ (by have := HT.out; omega) hb ht).mono ?_; rintro e w' ⟨rfl, rfl⟩; rw [HX.out])
      | (go_at_call 23; refine (ceil_any _ _ HL.out).mono ?_; rintro e w' ⟨rfl, rfl⟩; rw [HC.out])
    all_goals go_ret
    all_goals refine ⟨?_, _, rfl⟩
    all_goals (by_cases h00 : c = 0; (first | (subst h00; rfl) | (exfalso; omega)); (first | (exfalso; omega) | (rw [Nat.max_eq_left (by omega)]; rfl)))
/-- Wait OF A TIMER, whatever it has learned. -/
theorem wait_core (pv : Value) (n : Int) (s : St) (w : World) (hs : Okay s) (hS : Calls Try.prog 11 #[pv] w fun e w'' => e = .returned (.tuple #[.float .f64 (s.getD (NAN, NAN)).1, .float .f64 (s.getD (NAN, NAN)).2]) ∧ ∃ k, w'' = w.drewN k) :
    Calls Try.prog 13 #[pv, .int .i64 n] w fun e w' => e = .returned (.int .i64 (wt (min (up (tms n) (bs s)) INF) : Nat)) ∧ ∃ k, w' = w.drewN k := by
  obtain ⟨hb, hF⟩ := bs_ok s hs
  cases s with
  | none => exact wait_nan pv n w NAN NAN hS fun w => (together_any _ _ _ _ w).mono fun e w' ⟨r, k, h1, h2, h3⟩ => ⟨r, k, h1, h3, by
      have h2 : FV (fo .add (fo .mul (some 4607182418800017408) (some NAN)) (fo .mul (some 4616189618054758400) (some NAN))) r := h2
      have hF : FV (fo .add (fo .mul (some 4607182418800017408) (some NAN)) (fo .mul (some 4616189618054758400) (some NAN))) = FV none := hF
      rw [hF] at h2
      exact h2.1⟩
  | some mv => exact wait_num pv n w mv.1 mv.2 _ hb hS fun w => (together_any _ _ _ _ w).mono fun e w' ⟨r, k, h1, h2, h3⟩ => ⟨k, by
      have hF : FV (fo .add (fo .mul (some 4607182418800017408) (some mv.1)) (fo .mul (some 4616189618054758400) (some mv.2))) = FV (some (bs (some mv))) := hF
      rw [hF] at h2
      have h2 : r = bs (some mv) := h2
      rw [h1, h2], h3⟩
theorem wait_any (w : World) (p : Nat) (n : Int) (s : St) (h : TAt w p s) (hs : Okay s) : Calls Try.prog 13 #[.pointer (some ⟨p, 0, none⟩), .int .i64 n] w fun e w' => e = .returned (.int .i64 (wt (min (up (tms n) (bs s)) INF) : Nat)) ∧ ∃ k, w' = w.drewN k := wait_core _ n s w hs (smooth_any w p s h)
theorem wait_nil (w : World) (n : Int) : Calls Try.prog 13 #[.pointer none, .int .i64 n] w fun e w' => e = .returned (.int .i64 (wt (min (up (tms n) (bs none)) INF) : Nat)) ∧ ∃ k, w' = w.drewN k := wait_core _ n none w trivial (smooth_nil w)
end Go.Proofs.Ytfelndloobnipaa
