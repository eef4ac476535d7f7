/-
  What the four operations on floats come to (a float, or some word that is no number), and what the small functions of score and of the document answer. Their conditions: the words of floats fit into 64 bits, where it is said.
-/
import Derived.Test.YtfelndloobnipaaRows
import Derived.Test.YtfelndloobnipaaRg
import Derived.Laws.FloatArith
import Derived.WalkKit
import Derived.WalkSpells
import Derived.WalkLawsBesides
import Derived.WalkSmall
import Derived.Laws.Externs
import Derived.StillTailTactics
import Derived.Deep.RegionLaw
import Derived.Deep.RegionHeld3
import Derived.Deep.QuietTactic
import Derived.BigQuiet
import Derived.Lib.Hide
namespace Go.Proofs.Ytfelndloobnipaa
open Go.RowKit Ieee

@[go_sem] theorem call_from (n : Int) (w : World) : (callFunc 9 #[.int .u64 n]).run Try.prog w = .ok (.value (.float .f64 n.toNat)) w := by
  rw [run_callFunc_extern Try.func9 (by kernel_rfl) (by kernel_rfl) (by kernel_rfl) (e := Extern.MathFloatBits.float64frombits) (by kernel_rfl)]
  rfl
@[go_sem] theorem call_bits (x : Nat) (w : World) : (callFunc 21 #[.float .f64 x]).run Try.prog w = .ok (.value (.int .u64 x)) w := by
  rw [run_callFunc_extern Try.func21 (by kernel_rfl) (by kernel_rfl) (by kernel_rfl) (e := Extern.MathFloatBits.float64bits) (by kernel_rfl)]
  rfl

/-- The word that the machine gives where there is no number. -/
def askd (x y : Nat) (w : World) : Nat := (Question.nanBits .f64 x y).cut (w.tape w.drawn (.nanBits .f64 x y))
def fres (op : BinOp) (x y : Nat) (w : World) : Nat := match floatBits op .f64 x y with | some r => r | none => askd x y w
def fcnt (op : BinOp) (x y : Nat) : Nat := if (floatBits op .f64 x y).isSome then 0 else 1

theorem run_fop {P : Program} (op : BinOp) (t : TypeId) (x y : Nat) (w : World) (hop : op = .add ∨ op = .sub ∨ op = .mul ∨ op = .quo) :
    (binOp op t (.float .f64 x) (.float .f64 y)).run P w = .ok (.float .f64 (fres op x y w)) (w.drewN (fcnt op x y)) := by
  cases h : floatBits op .f64 x y with
  | some r =>
    rw [run_float_arith w op t .f64 x y r h]
    simp [fres, fcnt, h, World.drewN_zero]
  | none =>
    unfold fres fcnt
    rw [h]
    unfold floatBits at h
    rcases hop with rfl | rfl | rfl | rfl <;> simp only at h <;> simp [binOp, Op.floatArith, h, askd, Question.forced, World.drew_is_drewN]
@[go_sem] theorem run_fadd {P : Program} (t : TypeId) (x y : Nat) (w : World) : (binOp .add t (.float .f64 x) (.float .f64 y)).run P w = .ok (.float .f64 (fres .add x y w)) (w.drewN (fcnt .add x y)) := run_fop _ t x y w (by simp)
@[go_sem] theorem run_fsub {P : Program} (t : TypeId) (x y : Nat) (w : World) : (binOp .sub t (.float .f64 x) (.float .f64 y)).run P w = .ok (.float .f64 (fres .sub x y w)) (w.drewN (fcnt .sub x y)) := run_fop _ t x y w (by simp)
@[go_sem] theorem run_fmul {P : Program} (t : TypeId) (x y : Nat) (w : World) : (binOp .mul t (.float .f64 x) (.float .f64 y)).run P w = .ok (.float .f64 (fres .mul x y w)) (w.drewN (fcnt .mul x y)) := run_fop _ t x y w (by simp)
@[go_sem] theorem run_fquo {P : Program} (t : TypeId) (x y : Nat) (w : World) : (binOp .quo t (.float .f64 x) (.float .f64 y)).run P w = .ok (.float .f64 (fres .quo x y w)) (w.drewN (fcnt .quo x y)) := run_fop _ t x y w (by simp)

theorem askd_nan (x y : Nat) (w : World) : nan (askd x y w) = true ∧ askd x y w < 18446744073709551616 := by
  unfold askd nan
  generalize w.tape w.drawn (.nanBits .f64 x y) = t
  have e : (Question.nanBits .f64 x y).cut t = (t % 2) * 9223372036854775808 + 9218868437227405312 + 1 + (t / 2) % 4503599627370495 := rfl
  rw [e]
  have h1 := Nat.mod_lt (t / 2) (show 0 < 4503599627370495 from by decide)
  have h2 := Nat.mod_lt t (show 0 < 2 from by decide)
  generalize t / 2 % 4503599627370495 = b at *
  generalize t % 2 = a at *
  exact ⟨decide_eq_true (by omega), by omega⟩

/-- A float that is known, or some word that is no number. -/
def FV : Option Nat → Nat → Prop
  | some r, v => v = r
  | none, v => nan v = true ∧ v < 18446744073709551616
def fo (op : BinOp) (a b : Option Nat) : Option Nat := a.bind fun x => b.bind fun y => floatBits op .f64 x y

theorem bits_nan (op : BinOp) (x y : Nat) (h : nan x = true ∨ nan y = true) : floatBits op .f64 x y = none := by
  unfold floatBits
  show (match op with | .add => double.add x y | .sub => double.sub x y | .mul => double.mul x y | .quo => double.div x y | _ => none) = none
  rcases h with h | h
  · obtain ⟨s, t, e⟩ := read_nan x h
    cases op <;> simp only [Format.add, Format.sub, Format.mul, Format.div, e] <;> rfl
  · obtain ⟨s, t, e⟩ := read_nan y h
    cases op <;> simp only [Format.add, Format.sub, Format.mul, Format.div, e, Datum.opposite] <;> cases double.read x <;> rfl

theorem FV.op (op : BinOp) {a b : Option Nat} {x y : Nat} (ha : FV a x) (hb : FV b y) (w : World) : FV (fo op a b) (fres op x y w) := by
  cases a with
  | none =>
    show nan (fres op x y w) = true ∧ fres op x y w < 18446744073709551616
    unfold fres
    rw [bits_nan op x y (.inl ha.1)]
    exact askd_nan x y w
  | some r =>
    cases b with
    | none =>
      show nan (fres op x y w) = true ∧ fres op x y w < 18446744073709551616
      unfold fres
      rw [bits_nan op x y (.inr hb.1)]
      exact askd_nan x y w
    | some s =>
      have ha : x = r := ha
      have hb : y = s := hb
      subst ha hb
      show FV (floatBits op .f64 x y) _
      unfold fres
      cases h : floatBits op .f64 x y with
      | some r => rfl
      | none => exact askd_nan x y w
theorem FV.same {o : Option Nat} {a b : Nat} (ha : FV o a) (hb : FV o b) : sameB a b = true := by
  unfold sameB
  cases o with
  | none => rw [ha.1, hb.1]; rfl
  | some r => have ha : a = r := ha; have hb : b = r := hb; subst ha hb; simp

def fi (n : Int) : Nat := floatOfInt .f64 n
theorem fo_lt {op : BinOp} {a b : Option Nat} {r : Nat} (h : fo op a b = some r) : r < 18446744073709551616 := by
  cases a with
  | none => cases h
  | some x =>
    cases b with
    | none => cases h
    | some y =>
      have := floatBits_wf (show floatBits op .f64 x y = some r from h)
      simpa [Lit.wf] using this
theorem FV.lt {op : BinOp} {a b : Option Nat} {r : Nat} (h : FV (fo op a b) r) : r < 18446744073709551616 := by
  cases e : fo op a b with
  | none => rw [e] at h; exact h.2
  | some s => rw [e] at h; have h : r = s := h; subst h; exact fo_lt e

/-- A new block and draws leave what was there. -/
theorem below_step {B : Nat} {a w : World} (h : Below B a w) (o : Obj) (n : Nat) (hB : B ≤ w.heap.size) : Below B a ((w.alloc o).drewN n) := below_drewN (h.alloc hB o) n
theorem le_step (w : World) (o : Obj) (n : Nat) : w.heap.size ≤ ((w.alloc o).drewN n).heap.size := (below_step (Below.refl w.heap.size w) o n (Nat.le_refl _)).size

theorem not_beq_self (x : Nat) : (double.order x x != some .eq) = nan x := by
  have := order_self x
  simp only [bne, this, Bool.not_not]
theorem isnan_any (x : Nat) (w : World) : Calls Try.prog 17 #[.float .f64 x] w fun e w' => e = .returned (.bool (nan x)) ∧ w = w' := by
  go_enter Try.func17, Try.ntmps17
  go_wp2
  go_ret
  exact ⟨by rw [← not_beq_self x]; rfl, rfl⟩

theorem beq_dec (x y : Nat) : ((x : Int) == (y : Int)) = decide (x = y) := by
  by_cases h : x = y
  · subst h; simp
  · rw [decide_eq_false h]; simp; omega
theorem same_any (x y : Nat) (w : World) : Calls Try.prog 12 #[.float .f64 x, .float .f64 y] w fun e w' => e = .returned (.bool (sameB x y)) ∧ w = w' := by
  have hx : (FloatKind.f64.format.order x x != some .eq) = nan x := not_beq_self x
  have hy : (FloatKind.f64.format.order y y != some .eq) = nan y := not_beq_self y
  have hxy := beq_dec x y
  go_enter Try.func12, Try.ntmps12
  go_wp2
  all_goals (go_ret; refine ⟨?_, rfl⟩; simp_all [sameB])


/-- Sums of two products. -/
theorem together_any (a x b y : Nat) (w : World) : Calls Try.prog 19 #[.float .f64 a, .float .f64 x, .float .f64 b, .float .f64 y] w fun e w' => ∃ r n, e = .returned (.float .f64 r) ∧ FV (fo .add (fo .mul (some a) (some x)) (fo .mul (some b) (some y))) r ∧ w' = w.drewN n := by
  go_enter Try.func19, Try.ntmps19
  go_wp2
  go_ret
  exact ⟨_, _, rfl, FV.op .add (FV.op .mul (a := some a) (b := some x) rfl rfl _) (FV.op .mul (a := some b) (b := some y) rfl rfl _) _, rfl⟩
theorem together_ok (a x b y r s t : Nat) (w : World) (h1 : floatBits .mul .f64 a x = some r) (h2 : floatBits .mul .f64 b y = some s) (h3 : floatBits .add .f64 r s = some t) : Calls Try.prog 19 #[.float .f64 a, .float .f64 x, .float .f64 b, .float .f64 y] w fun e w' => e = .returned (.float .f64 t) ∧ w = w' := by
  have e1 := fun W T => run_float_arith (P := Try.prog) W .mul T .f64 a x r h1
  have e2 := fun W T => run_float_arith (P := Try.prog) W .mul T .f64 b y s h2
  have e3 := fun W T => run_float_arith (P := Try.prog) W .add T .f64 r s t h3
  go_enter Try.func19, Try.ntmps19
  go_wp2
  go_ret
  exact ⟨rfl, rfl⟩
theorem nan_any (w : World) : Calls Try.prog 15 #[] w fun e w' => e = .returned (.float .f64 9221120237041090561) ∧ w = w' := by
  go_enter Try.func15, Try.ntmps15
  go_wp2
  go_ret
  exact ⟨rfl, rfl⟩
theorem inf_any (w : World) : Calls Try.prog 16 #[.int .i64 1] w fun e w' => e = .returned (.float .f64 9218868437227405312) ∧ w = w' := by
  go_enter Try.func16, Try.ntmps16
  go_wp2
  go_ret
  exact ⟨rfl, rfl⟩
theorem and_not_sign (x : Nat) (hx : x < 18446744073709551616) : bits .andNot .u64 (x : Int) 9223372036854775808 = ((x % 9223372036854775808 : Nat) : Int) := by
  have := u64_andNot_nat x 9223372036854775808 hx (by decide)
  rw [show ((9223372036854775808 : Nat) : Int) = 9223372036854775808 from rfl] at this
  rw [this]
  congr 1
  exact Nat.and_two_pow_sub_one_eq_mod x 63
theorem and_not_exp (x : Nat) (hx : x < 9223372036854775808) : bits .andNot .u64 (x : Int) 9218868437227405312 = ((x % 4503599627370496 : Nat) : Int) := by
  have := u64_andNot_nat x 9218868437227405312 (by omega) (by decide)
  rw [show ((9218868437227405312 : Nat) : Int) = 9218868437227405312 from rfl] at this
  rw [this]
  congr 1
  show x &&& 9227875636482146303 = _
  have e : x &&& 9227875636482146303 = (x &&& 9227875636482146303) &&& 9223372036854775807 := by
    rw [show (9223372036854775807 : Nat) = 2 ^ 63 - 1 from rfl, Nat.and_two_pow_sub_one_eq_mod, Nat.mod_eq_of_lt]
    exact Nat.lt_of_le_of_lt Nat.and_le_left hx
  rw [e, Nat.and_assoc]
  exact Nat.and_two_pow_sub_one_eq_mod x 52
theorem and_mask11 (n : Nat) (_ : n < 4096) : bits .and .i64 (n : Int) 2047 = ((n % 2048 : Nat) : Int) := by
  have e : (BitVec.ofInt 64 (n : Int) &&& BitVec.ofInt 64 2047).toNat = n % 2048 := by
    rw [BitVec.toNat_and]
    have e3 : (BitVec.ofInt 64 2047).toNat = 2 ^ 11 - 1 := by decide
    rw [e3, Nat.and_two_pow_sub_one_eq_mod, BitVec.toNat_ofInt]
    omega
  unfold bits
  show IntKind.i64.wrap (((BitVec.ofInt 64 (n : Int) &&& BitVec.ofInt 64 2047).toNat : Nat) : Int) = _
  rw [e, IntWalk.i64_in _ (by omega)]
theorem or_join (a b : Nat) (ha : a < 4503599627370496) (hb : b < 4096) : bits .or .u64 (a : Int) ((b * 4503599627370496 : Nat) : Int) = ((a + b * 4503599627370496 : Nat) : Int) := by
  rw [u64_or_nat a (b * 4503599627370496) (by omega) (by omega), Nat.or_comm, nat_join 52 (b * 4503599627370496) a (by omega) ha, Nat.add_comm]
theorem abs_any (x : Nat) (w : World) (hx : x < 18446744073709551616) : Calls Try.prog 20 #[.float .f64 x] w fun e w' => e = .returned (.float .f64 (x % 9223372036854775808)) ∧ w = w' := by
  go_enter Try.func20, Try.ntmps20
  go_wp2
  go_ret
  refine ⟨?_, rfl⟩
  rw [and_not_sign x hx]
  rfl
theorem order_rung (x y : Nat) (hx : x ≤ INF) (hy : y ≤ INF) : FloatKind.f64.format.order x y = some (compare (x : Int) (y : Int)) := by
  unfold INF at hx hy
  have := order_word x y (by omega) (by omega) (decide_eq_false (by omega)) (decide_eq_false (by omega))
  rw [show kz x = x from by unfold kz sgn; rw [decide_eq_false (by omega)]; rfl, show kz y = y from by unfold kz sgn; rw [decide_eq_false (by omega)]; rfl] at this
  exact this
theorem cmpi (x y : Int) : (some (compare x y) == some .lt) = decide (x < y) ∧ (some (compare x y) == some .gt) = decide (y < x) ∧ (some (compare x y) == some .eq) = decide (x = y) := by
  show (some (compareOfLessAndEq x y) == some .lt) = _ ∧ (some (compareOfLessAndEq x y) == some .gt) = _ ∧ (some (compareOfLessAndEq x y) == some .eq) = _
  unfold compareOfLessAndEq
  by_cases h : x < y
  · rw [if_pos h, decide_eq_true h, decide_eq_false (show ¬ y < x by omega), decide_eq_false (show ¬ x = y by omega)]; exact ⟨rfl, rfl, rfl⟩
  · by_cases h' : x = y
    · rw [if_neg h, if_pos h', decide_eq_false h, decide_eq_false (show ¬ y < x by omega), decide_eq_true h']; exact ⟨rfl, rfl, rfl⟩
    · rw [if_neg h, if_neg h', decide_eq_false h, decide_eq_true (show y < x by omega), decide_eq_false h']; exact ⟨rfl, rfl, rfl⟩
theorem isinf_any (x : Nat) (w : World) (hx : x < 18446744073709551616) : Calls Try.prog 18 #[.float .f64 x, .int .i64 0] w fun e w' => e = .returned (.bool (decide (x % 9223372036854775808 = 9218868437227405312))) ∧ w = w' := by
  go_enter Try.func18, Try.ntmps18
  go_wp2_with (go_at_call 20; refine (abs_any _ _ hx).mono ?_; rintro e w' ⟨rfl, rfl⟩)
  go_ret
  refine ⟨?_, rfl⟩
  have : (FloatKind.f64.format.order (x % 9223372036854775808) 9218868437227405311 == some .gt) = decide (x % 9223372036854775808 = 9218868437227405312) := by
    by_cases h : nan x = true
    · have hm : nan (x % 9223372036854775808) = true := by
        unfold nan at h ⊢
        have h := of_decide_eq_true h
        exact decide_eq_true (by omega)
      rw [show FloatKind.f64.format.order (x % 9223372036854775808) 9218868437227405311 = none from order_nanl _ _ hm]
      have h := of_decide_eq_true h
      rw [decide_eq_false (by omega)]
      rfl
    · have h := of_decide_eq_false (Bool.eq_false_iff.2 h)
      rw [order_rung _ _ (by unfold INF; omega) (by decide), (cmpi _ _).2.1]
      by_cases e : x % 9223372036854775808 = 9218868437227405312
      · rw [decide_eq_true e, decide_eq_true (by omega)]
      · rw [decide_eq_false e, decide_eq_false (by omega)]
  first | exact congrArg (fun b => Ending.returned (Value.bool b)) this | (simp; exact this)
theorem norm_big (r : Nat) (w : World) (h : r < INF) (h0 : 4503599627370496 ≤ r) : Calls Try.prog 28 #[.float .f64 r] w fun e w' => e = .returned (.tuple #[.float .f64 r, .int .i64 0]) ∧ w = w' := by
  have hc : (FloatKind.f64.format.order r 4503599627370496 == some .lt) = false := by
    rw [order_rung _ _ (by omega) (by decide), (cmpi _ _).1]
    exact decide_eq_false (by omega)
  have hr : r % 9223372036854775808 = r := Nat.mod_eq_of_lt (by unfold INF at h; omega)
  go_enter Try.func28, Try.ntmps28
  go_wp2_with (go_at_call 20; refine (abs_any _ _ (by unfold INF at h; omega)).mono ?_; rintro e w' ⟨rfl, rfl⟩; rw [hr])
  go_ret2
  exact ⟨rfl, rfl⟩
theorem norm_small (r : Nat) (w : World) (h : r < 4503599627370496) (h0 : 0 < r) : Calls Try.prog 28 #[.float .f64 r] w fun e w' => e = .returned (.tuple #[.float .f64 (min (up 52 r) INF), .int .i64 (-52)]) ∧ w = w' := by
  have hc : (FloatKind.f64.format.order r 4503599627370496 == some .lt) = true := by
    rw [order_rung _ _ (by unfold INF; omega) (by decide), (cmpi _ _).1]
    exact decide_eq_true (by omega)
  have hr : r % 9223372036854775808 = r := Nat.mod_eq_of_lt (by omega)
  have e1 := fun W T => run_float_arith (P := Try.prog) W .mul T .f64 r 4841369599423283200 _ (mul_norm r (by unfold INF; omega) h0)
  generalize min (up 52 r) INF = y at *
  go_enter Try.func28, Try.ntmps28
  go_wp2_with (go_at_call 20; refine (abs_any _ _ (by omega)).mono ?_; rintro e w' ⟨rfl, rfl⟩; rw [hr])
  go_ret2
  exact ⟨rfl, rfl⟩
theorem ldexp_zero (k : Nat) (w : World) : Calls Try.prog 25 #[.float .f64 0, .int .i64 (k : Int)] w fun e w' => e = .returned (.float .f64 0) ∧ w = w' := by
  have h0 : (FloatKind.f64.format.order 0 0 == some .eq) = true := by decide +kernel
  go_enter Try.func25, Try.ntmps25
  go_wp2
  go_ret
  exact ⟨rfl, rfl⟩
theorem ldexp_inf (k : Nat) (w : World) : Calls Try.prog 25 #[.float .f64 9218868437227405312, .int .i64 (k : Int)] w fun e w' => e = .returned (.float .f64 9218868437227405312) ∧ w = w' := by
  have h0 : (FloatKind.f64.format.order 9218868437227405312 0 == some .eq) = false := by decide +kernel
  go_enter Try.func25, Try.ntmps25
  go_wp2_with (go_at_call 18; refine (isinf_any _ _ (by decide)).mono ?_; rintro e w' ⟨rfl, rfl⟩)
  go_ret
  exact ⟨rfl, rfl⟩
theorem or_word (m : Nat) (E : Int) (hm : m < 4503599627370496) (h0 : 0 ≤ E) (h1 : E < 4096) : (bits .or .u64 (m : Int) (E * 4503599627370496)).toNat = m + E.toNat * 4503599627370496 := by
  have := or_join m E.toNat hm (by omega)
  rw [show ((E.toNat * 4503599627370496 : Nat) : Int) = E * 4503599627370496 from by omega] at this
  rw [this, Int.toNat_natCast]
theorem fres_ok {op : BinOp} {x y t : Nat} (h : floatBits op .f64 x y = some t) (w : World) : fres op x y w = t ∧ fcnt op x y = 0 := by
  unfold fres fcnt
  rw [h]
  exact ⟨rfl, rfl⟩
theorem ldexp_core (r y k t : Nat) (c : Int) (w : World) (h : r < INF) (h0 : 0 < r) (hk : k ≤ 1000) (hy : y < INF) (hc0 : -52 ≤ c) (hc1 : c ≤ 0)
    (hnorm : ∀ w, Calls Try.prog 28 #[.float .f64 r] w fun e w' => e = .returned (.tuple #[.float .f64 y, .int .i64 c]) ∧ w = w')
    (q m : Nat) (hq : q = y / 4503599627370496) (hm : m = y % 4503599627370496) (E : Int) (hE : E = k + c + (q - 1023)) (hE0 : -1075 ≤ E) (hE1 : 1023 < E → t = 9218868437227405312)
    (hE2 : -1022 ≤ E → E ≤ 1023 → floatBits .mul .f64 4607182418800017408 (m + (E + 1023).toNat * 4503599627370496) = some t)
    (hE3 : E < -1022 → floatBits .mul .f64 4368491638549381120 (m + (E + 53 + 1023).toNat * 4503599627370496) = some t) :
    Calls Try.prog 25 #[.float .f64 r, .int .i64 (k : Int)] w fun e w' => e = .returned (.float .f64 t) ∧ w = w' := by
  have hz : (FloatKind.f64.format.order r 0 == some .eq) = false := by
    rw [order_rung _ _ (by omega) (by decide), (cmpi _ _).2.2]
    exact decide_eq_false (by omega)
  have hz' : (FloatKind.f64.format.order y 0 == some .lt) = false := by
    rw [order_rung _ _ (by omega) (by decide), (cmpi _ _).1]
    exact decide_eq_false (by omega)
  have hi : decide (r % 9223372036854775808 = 9218868437227405312) = false := decide_eq_false (by unfold INF at h; omega)
  have hn : nan r = false := decide_eq_false (by unfold INF at h; omega)
  unfold INF at *
  have w1 : wrap64 ((k : Int) + c) = (k : Int) + c := by unfold wrap64; omega
  have w2 : bits .and .i64 ((y : Int) / 4503599627370496) 2047 = (q : Int) := by
    have := and_mask11 (y / 4503599627370496) (by omega)
    rw [show ((y / 4503599627370496 : Nat) : Int) = (y : Int) / 4503599627370496 from by omega] at this
    rw [this, hq, Nat.mod_eq_of_lt (by omega)]
  have w3 : wrap64 ((q : Int) - 1023) = (q : Int) - 1023 := by unfold wrap64; omega
  have w4 : wrap64 ((k : Int) + c + ((q : Int) - 1023)) = E := by unfold wrap64; omega
  have w5 : bits .andNot .u64 (y : Int) 9218868437227405312 = (m : Int) := by rw [hm]; exact and_not_exp y (by omega)
  have hm1 : m < 4503599627370496 := by omega
  have hE4 : E < 3000 := by omega
  have a1 := Lib.hid hE1
  have a2 := Lib.hid hE2
  have a3 := Lib.hid hE3
  have a4 := Lib.hid hE
  clear hE1 hE2 hE3 hE hq hm
  go_enter Try.func25, Try.ntmps25
  go_wp2_with first
    | (go_at_call 18; refine (isinf_any _ _ (by omega)).mono ?_; rintro e w' ⟨rfl, rfl⟩; rw [hi])
    | (go_at_call 17; refine (isnan_any _ _).mono ?_; rintro e w' ⟨rfl, rfl⟩; rw [hn])
    | (go_at_call 28; refine (hnorm _).mono ?_; rintro e w' ⟨rfl, rfl⟩)
    | (go_at_call 16; refine (inf_any _).mono ?_; rintro e w' ⟨rfl, rfl⟩)
  all_goals go_ret
  · rename_i h5
    rw [a1.out h5]
    exact ⟨rfl, rfl⟩
  · rename_i h5
    have e1 := or_word m (E + 53 + 1023) hm1 (by omega) (by omega)
    obtain ⟨e2, e3⟩ := fres_ok (a3.out h5) w
    rw [e1, e3, World.drewN_zero]
    refine ⟨?_, rfl⟩
    exact congrArg (fun x => Ending.returned (Value.float .f64 x)) e2
  · rename_i h4 h5
    have e1 := or_word m (E + 1023) hm1 (by omega) (by omega)
    obtain ⟨e2, e3⟩ := fres_ok (a2.out h5 h4) w
    rw [e1, e3, World.drewN_zero]
    refine ⟨?_, rfl⟩
    exact congrArg (fun x => Ending.returned (Value.float .f64 x)) e2
/-- ldexp OF A RUNG: as often doubled. -/
theorem ldexp_any (r k : Nat) (w : World) (h : r ≤ INF) (hk : k ≤ 1000) : Calls Try.prog 25 #[.float .f64 r, .int .i64 (k : Int)] w fun e w' => e = .returned (.float .f64 (min (up k r) INF)) ∧ w = w' := by
  rcases Nat.eq_zero_or_pos r with rfl | h0
  · rw [up_zero]
    exact ldexp_zero k w
  rcases Nat.lt_or_eq_of_le h with h | rfl
  case inr =>
    rw [up_norm k INF (by decide), show min (INF + k * 4503599627370496) INF = 9218868437227405312 from by unfold INF; omega]
    exact ldexp_inf k w
  by_cases hb : 4503599627370496 ≤ r
  · have hu := up_norm k r hb
    rw [hu]
    have hd := Nat.div_add_mod r 4503599627370496
    generalize hq : r / 4503599627370496 = q at *
    generalize hm : r % 4503599627370496 = m at *
    unfold INF at *
    refine ldexp_core r r k _ 0 w h h0 hk h (by omega) (by omega) (fun w => norm_big r w h hb) q m hq.symm hm.symm _ rfl (by omega) (fun h1 => ?_) (fun h1 h2 => ?_) (fun h1 => ?_)
    · omega
    · have e : m + ((k : Int) + 0 + ((q : Int) - 1023) + 1023).toNat * 4503599627370496 = r + k * 4503599627370496 := by omega
      rw [e, show min (r + k * 4503599627370496) 9218868437227405312 = r + k * 4503599627370496 from by omega]
      exact mul_one _ (by unfold INF; omega)
    · omega
  · have hv : vl r = r := by unfold vl; rw [if_pos (by omega)]
    have hn : vl (up 52 r) = r * 2 ^ 52 := by rw [vl_up, hv]
    have hlo : 4503599627370496 ≤ up 52 r := by
      refine Nat.le_of_not_lt fun hlt => ?_
      have h1 : vl (up 52 r) = up 52 r := by unfold vl; rw [if_pos hlt]
      have h2 : 1 * 2 ^ 52 ≤ r * 2 ^ 52 := Nat.mul_le_mul_right _ h0
      rw [hn] at h1
      omega
    have hhi : up 52 r < 54 * 4503599627370496 := by
      refine (vl_iff _ _).1 ?_
      rw [hn, show vl (54 * 4503599627370496) = 4503599627370496 * 2 ^ 53 from by decide +kernel]
      omega
    have hk' : vl (up k r) = r * 2 ^ k := by rw [vl_up, hv]
    have hmin : min (up 52 r) INF = up 52 r := by unfold INF; omega
    have hnorm := fun w => norm_small r w (by omega) h0
    rw [hmin] at hnorm
    have hd := Nat.div_add_mod (up 52 r) 4503599627370496
    have hshift : ∀ z j : Nat, z = up 52 r + j * 4503599627370496 → vl z = r * 2 ^ 52 * 2 ^ j := fun z j e => by rw [e, vl_shift _ _ hlo, hn]
    have hback : ∀ z : Nat, 4503599627370496 ≤ z → z + 52 * 4503599627370496 = up 52 r + k * 4503599627370496 → z = up k r := by
      intro z hz e
      have h1 := vl_shift z 52 hz
      rw [e, vl_shift _ _ hlo, hn] at h1
      refine (vl_eq _ _).1 ?_
      rw [hk']
      have h2 : vl z * 2 ^ 52 = r * 2 ^ k * 2 ^ 52 := by rw [← h1, Nat.mul_right_comm]
      exact Nat.eq_of_mul_eq_mul_right (Nat.two_pow_pos 52) h2
    have hkb : up k r < INF := by
      by_cases c : up k r < 4503599627370496
      · unfold INF; omega
      · refine (vl_iff _ _).1 ?_
        rw [hk', show vl INF = 4503599627370496 * 2 ^ 2046 from by decide +kernel]
        calc r * 2 ^ k < 4503599627370496 * 2 ^ k := Nat.mul_lt_mul_of_pos_right (by omega) (Nat.two_pow_pos k)
          _ ≤ _ := Nat.mul_le_mul_left _ (Nat.pow_le_pow_right (by decide) (by omega))
    rw [show min (up k r) INF = up k r from by omega]
    generalize up 52 r = y at *
    generalize hq : y / 4503599627370496 = q at *
    generalize hm : y % 4503599627370496 = m at *
    unfold INF at *
    refine ldexp_core r y k _ (-52) w h h0 hk (by unfold INF; omega) (by omega) (by omega) hnorm q m hq.symm hm.symm _ rfl (by omega) (fun h1 => ?_) (fun h1 h2 => ?_) (fun h1 => ?_)
    · omega
    · have e := hback (m + ((k : Int) + -52 + ((q : Int) - 1023) + 1023).toNat * 4503599627370496) (by omega) (by omega)
      rw [e]
      exact mul_one _ (by unfold INF; omega)
    · have e1 := hshift (m + ((k : Int) + -52 + ((q : Int) - 1023) + 53 + 1023).toNat * 4503599627370496) (k + 1) (by omega)
      have := mul_down (m + ((k : Int) + -52 + ((q : Int) - 1023) + 53 + 1023).toNat * 4503599627370496) (up k r) (by unfold INF; omega) (by omega) (by
        rw [e1, hk', Nat.mul_assoc, Nat.mul_assoc, ← Nat.pow_add, ← Nat.pow_add, show 52 + (k + 1) = k + 53 from by omega])
      rw [show min (up k r) INF = up k r from by unfold INF; omega] at this
      exact this
theorem Ldexp_any (r k : Nat) (w : World) (h : r ≤ INF) (hk : k ≤ 1000) : Calls Try.prog 22 #[.float .f64 r, .int .i64 (k : Int)] w fun e w' => e = .returned (.float .f64 (min (up k r) INF)) ∧ w = w' := by
  go_enter Try.func22, Try.ntmps22
  go_wp2_with (go_at_call 25; refine (ldexp_any r k _ h hk).mono ?_; rintro e w' ⟨rfl, rfl⟩)
  go_ret
  exact ⟨rfl, rfl⟩
end Go.Proofs.Ytfelndloobnipaa
