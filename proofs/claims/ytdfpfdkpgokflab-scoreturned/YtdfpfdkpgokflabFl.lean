/-
  What the four operations on floats come to (a float, or some word that is no number), and what the small functions of score and of the document answer. Their conditions: the words of floats fit into 64 bits, where it is said.
-/
import Derived.Test.YtdfpfdkpgokflabRows
import Derived.Test.YtdfpfdkpgokflabOrd
import Derived.WalkKit
import Derived.WalkSpells
import Derived.WalkLawsBesides
import Derived.WalkSmall
import Derived.Laws.Externs
import Derived.StillTailTactics
import Derived.Deep.RegionLaw
import Derived.Deep.RegionHeld3
import Derived.Deep.QuietTactic
import Derived.BigQuiet
import Derived.Lib.Hide
namespace Go.Proofs.Ytdfpfdkpgokflab
open Go.RowKit Ieee

@[go_sem] theorem call_from (n : Int) (w : World) : (callFunc 5 #[.int .u64 n]).run Try.prog w = .ok (.value (.float .f64 n.toNat)) w := by
  rw [run_callFunc_extern Try.func5 (by kernel_rfl) (by kernel_rfl) (by kernel_rfl) (e := Extern.MathFloatBits.float64frombits) (by kernel_rfl)]
  rfl
@[go_sem] theorem call_bits (x : Nat) (w : World) : (callFunc 16 #[.float .f64 x]).run Try.prog w = .ok (.value (.int .u64 x)) w := by
  rw [run_callFunc_extern Try.func16 (by kernel_rfl) (by kernel_rfl) (by kernel_rfl) (e := Extern.MathFloatBits.float64bits) (by kernel_rfl)]
  rfl

/-- The word that the machine gives where there is no number. -/
def askd (x y : Nat) (w : World) : Nat := (Question.nanBits .f64 x y).cut (w.tape w.drawn (.nanBits .f64 x y))
def fres (op : BinOp) (x y : Nat) (w : World) : Nat := match floatBits op .f64 x y with | some r => r | none => askd x y w
def fcnt (op : BinOp) (x y : Nat) : Nat := if (floatBits op .f64 x y).isSome then 0 else 1

theorem run_fop {P : Program} (op : BinOp) (t : TypeId) (x y : Nat) (w : World) (hop : op = .add ∨ op = .sub ∨ op = .mul ∨ op = .quo) :
    (binOp op t (.float .f64 x) (.float .f64 y)).run P w = .ok (.float .f64 (fres op x y w)) (w.drewN (fcnt op x y)) := by
  cases h : floatBits op .f64 x y with
  | some r =>
    rw [run_float_arith w op t .f64 x y r h]
    simp [fres, fcnt, h, World.drewN_zero]
  | none =>
    unfold fres fcnt
    rw [h]
    unfold floatBits at h
    rcases hop with rfl | rfl | rfl | rfl <;> simp only at h <;> simp [binOp, Op.floatArith, h, askd, Question.forced, World.drew_is_drewN]
@[go_sem] theorem run_fadd {P : Program} (t : TypeId) (x y : Nat) (w : World) : (binOp .add t (.float .f64 x) (.float .f64 y)).run P w = .ok (.float .f64 (fres .add x y w)) (w.drewN (fcnt .add x y)) := run_fop _ t x y w (by simp)
@[go_sem] theorem run_fsub {P : Program} (t : TypeId) (x y : Nat) (w : World) : (binOp .sub t (.float .f64 x) (.float .f64 y)).run P w = .ok (.float .f64 (fres .sub x y w)) (w.drewN (fcnt .sub x y)) := run_fop _ t x y w (by simp)
@[go_sem] theorem run_fmul {P : Program} (t : TypeId) (x y : Nat) (w : World) : (binOp .mul t (.float .f64 x) (.float .f64 y)).run P w = .ok (.float .f64 (fres .mul x y w)) (w.drewN (fcnt .mul x y)) := run_fop _ t x y w (by simp)
@[go_sem] theorem run_fquo {P : Program} (t : TypeId) (x y : Nat) (w : World) : (binOp .quo t (.float .f64 x) (.float .f64 y)).run P w = .ok (.float .f64 (fres .quo x y w)) (w.drewN (fcnt .quo x y)) := run_fop _ t x y w (by simp)

theorem askd_nan (x y : Nat) (w : World) : nan (askd x y w) = true ∧ askd x y w < 18446744073709551616 := by
  unfold askd nan
  generalize w.tape w.drawn (.nanBits .f64 x y) = t
  have e : (Question.nanBits .f64 x y).cut t = (t % 2) * 9223372036854775808 + 9218868437227405312 + 1 + (t / 2) % 4503599627370495 := rfl
  rw [e]
  have h1 := Nat.mod_lt (t / 2) (show 0 < 4503599627370495 from by decide)
  have h2 := Nat.mod_lt t (show 0 < 2 from by decide)
  generalize t / 2 % 4503599627370495 = b at *
  generalize t % 2 = a at *
  exact ⟨decide_eq_true (by omega), by omega⟩

/-- A float that is known, or some word that is no number. -/
def FV : Option Nat → Nat → Prop
  | some r, v => v = r
  | none, v => nan v = true ∧ v < 18446744073709551616
def fo (op : BinOp) (a b : Option Nat) : Option Nat := a.bind fun x => b.bind fun y => floatBits op .f64 x y

theorem bits_nan (op : BinOp) (x y : Nat) (h : nan x = true ∨ nan y = true) : floatBits op .f64 x y = none := by
  unfold floatBits
  show (match op with | .add => double.add x y | .sub => double.sub x y | .mul => double.mul x y | .quo => double.div x y | _ => none) = none
  rcases h with h | h
  · obtain ⟨s, t, e⟩ := read_nan x h
    cases op <;> simp only [Format.add, Format.sub, Format.mul, Format.div, e] <;> rfl
  · obtain ⟨s, t, e⟩ := read_nan y h
    cases op <;> simp only [Format.add, Format.sub, Format.mul, Format.div, e, Datum.opposite] <;> cases double.read x <;> rfl

theorem FV.op (op : BinOp) {a b : Option Nat} {x y : Nat} (ha : FV a x) (hb : FV b y) (w : World) : FV (fo op a b) (fres op x y w) := by
  cases a with
  | none =>
    show nan (fres op x y w) = true ∧ fres op x y w < 18446744073709551616
    unfold fres
    rw [bits_nan op x y (.inl ha.1)]
    exact askd_nan x y w
  | some r =>
    cases b with
    | none =>
      show nan (fres op x y w) = true ∧ fres op x y w < 18446744073709551616
      unfold fres
      rw [bits_nan op x y (.inr hb.1)]
      exact askd_nan x y w
    | some s =>
      have ha : x = r := ha
      have hb : y = s := hb
      subst ha hb
      show FV (floatBits op .f64 x y) _
      unfold fres
      cases h : floatBits op .f64 x y with
      | some r => rfl
      | none => exact askd_nan x y w
theorem FV.same {o : Option Nat} {a b : Nat} (ha : FV o a) (hb : FV o b) : sameB a b = true := by
  unfold sameB
  cases o with
  | none => rw [ha.1, hb.1]; rfl
  | some r => have ha : a = r := ha; have hb : b = r := hb; subst ha hb; simp

def fi (n : Int) : Nat := floatOfInt .f64 n
def fone : Nat := 4607182418800017408
def ratO (a b : Int) : Option Nat := fo .quo (some (fi a)) (some (fi b))
def benO (live size age : Int) : Option Nat := fo .quo (fo .mul (fo .sub (some fone) (ratO live size)) (some (fi age))) (fo .add (some fone) (ratO live size))

theorem fo_lt {op : BinOp} {a b : Option Nat} {r : Nat} (h : fo op a b = some r) : r < 18446744073709551616 := by
  cases a with
  | none => cases h
  | some x =>
    cases b with
    | none => cases h
    | some y =>
      have := floatBits_wf (show floatBits op .f64 x y = some r from h)
      simpa [Lit.wf] using this
theorem FV.lt {op : BinOp} {a b : Option Nat} {r : Nat} (h : FV (fo op a b) r) : r < 18446744073709551616 := by
  cases e : fo op a b with
  | none => rw [e] at h; exact h.2
  | some s => rw [e] at h; have h : r = s := h; subst h; exact fo_lt e

/-- A new block and draws leave what was there. -/
theorem below_step {B : Nat} {a w : World} (h : Below B a w) (o : Obj) (n : Nat) (hB : B ≤ w.heap.size) : Below B a ((w.alloc o).drewN n) := below_drewN (h.alloc hB o) n
theorem le_step (w : World) (o : Obj) (n : Nat) : w.heap.size ≤ ((w.alloc o).drewN n).heap.size := (below_step (Below.refl w.heap.size w) o n (Nat.le_refl _)).size

theorem not_beq_self (x : Nat) : (double.order x x != some .eq) = nan x := by
  have := order_self x
  simp only [bne, this, Bool.not_not]
theorem isnan_any (x : Nat) (w : World) : Calls Try.prog 12 #[.float .f64 x] w fun e w' => e = .returned (.bool (nan x)) ∧ w = w' := by
  go_enter Try.func12, Try.ntmps12
  go_wp2
  go_ret
  exact ⟨by rw [← not_beq_self x]; rfl, rfl⟩

theorem sgn_conv (x : Nat) (hx : x < 18446744073709551616) : decide (wrap64 (x : Int) < 0) = sgn x := by
  unfold sgn wrap64
  by_cases h : 9223372036854775808 ≤ x
  · rw [decide_eq_true h]
    apply decide_eq_true
    omega
  · rw [decide_eq_false h]
    apply decide_eq_false
    omega
theorem signbit_any (x : Nat) (w : World) (hx : x < 18446744073709551616) : Calls Try.prog 14 #[.float .f64 x] w fun e w' => e = .returned (.bool (sgn x)) ∧ w = w' := by
  have hs := sgn_conv x hx
  go_enter Try.func14, Try.ntmps14
  go_wp2
  go_ret
  exact ⟨rfl, rfl⟩

theorem ratio_any (a b : Int) (w : World) : Calls Try.prog 15 #[.int .i64 a, .int .i64 b] w fun e w' => ∃ r n, e = .returned (.float .f64 r) ∧ FV (ratO a b) r ∧ w' = w.drewN n := by
  go_enter Try.func15, Try.ntmps15
  go_wp2
  go_ret
  exact ⟨_, _, rfl, FV.op .quo (a := some (fi a)) (b := some (fi b)) rfl rfl _, rfl⟩
theorem ben_any (a b c : Int) (w : World) : Calls Try.prog 11 #[.agg #[.int .i64 a, .int .i64 b, .int .i64 c]] w fun e w' => ∃ r n, e = .returned (.float .f64 r) ∧ FV (benO a b c) r ∧ w' = (w.alloc (.cells #[.int .i64 a, .int .i64 b, .int .i64 c] 35)).drewN n := by
  go_enter Try.func11, Try.ntmps11
  go_wp2_with (go_at_call 15; refine (ratio_any _ _ _).mono ?_; rintro e w' ⟨u, n, rfl, hu, rfl⟩)
  go_ret
  refine ⟨_, _, rfl, ?_, rfl⟩
  exact FV.op .quo (FV.op .mul (FV.op .sub (a := some fone) rfl hu _) (b := some (fi c)) rfl _) (FV.op .add (a := some fone) rfl hu _) _
set_option maxRecDepth 100000 in
theorem ben_five : benO 0 10 5 = some 4617315517961601024 := by kernel_rfl
set_option maxRecDepth 100000 in
theorem speaks_any (w : World) : Calls Try.prog 4 #[] w fun e w' => ∃ o n, e = .returned (.bool true) ∧ w' = (w.alloc o).drewN n := by
  go_enter Try.func4, Try.ntmps4
  go_wp2_with (go_at_call 11; refine (ben_any _ _ _ _).mono ?_; rintro e w' ⟨u, n, rfl, hu, rfl⟩; rw [ben_five] at hu; obtain rfl : u = _ := hu)
  go_ret
  exact ⟨_, _, by first | rfl | (congr 2; kernel_rfl), rfl⟩
end Go.Proofs.Ytdfpfdkpgokflab
