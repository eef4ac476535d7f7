/-
  What Less and the document's Less answer: both are lessB of the two words. Their condition: the words fit into 64 bits.
-/
import Derived.Test.YtdfpfdkpgokflaaFl
namespace Go.Proofs.Ytdfpfdkpgokflaa
open Go.RowKit Ieee

theorem less_any (x y : Nat) (w : World) (hx : x < 18446744073709551616) (hy : y < 18446744073709551616) : Calls Try.prog 15 #[.float .f64 x, .float .f64 y] w fun e w' => e = .returned (.bool (lessB x y)) ∧ w = w' := by
  have hl : nan x = true ∨ nan y = true → lessB x y = (nan x && !nan y) := by
    intro h
    unfold lessB
    rcases h with h | h <;> simp [h]
  have h1 : nan x = false → nan y = false → (FloatKind.f64.format.order x y == some .eq) = true → (sgn x && !sgn y) = lessB x y := less_eq x y hx hy
  have h2 : nan x = false → nan y = false → (FloatKind.f64.format.order x y == some .eq) = false → (FloatKind.f64.format.order x y == some .lt) = lessB x y := less_ne x y hx hy
  have hl := Lib.hid hl
  have h1 := Lib.hid h1
  have h2 := Lib.hid h2
  go_enter Try.func15, Try.ntmps15
  go_wp2_with first | (go_at_call 21; refine (isnan_any _ _).mono ?_; rintro e w' ⟨rfl, rfl⟩) | (go_at_call 22; refine (signbit_any _ _ (by assumption)).mono ?_; rintro e w' ⟨rfl, rfl⟩)
  all_goals go_ret
  all_goals refine ⟨congrArg (fun b => Ending.returned (Value.bool b)) (?_ : _ = _), rfl⟩
  all_goals (have hl := hl.out; have h1 := h1.out; have h2 := h2.out)
  all_goals simp_all
theorem refless_any (x y : Nat) (w : World) (hx : x < 18446744073709551616) (hy : y < 18446744073709551616) : Calls Try.prog 16 #[.float .f64 x, .float .f64 y] w fun e w' => e = .returned (.bool (lessB x y)) ∧ w = w' := by
  have hl : nan x = true ∨ nan y = true → lessB x y = (nan x && !nan y) := by
    intro h
    unfold lessB
    rcases h with h | h <;> simp [h]
  have h1 := ref_less x y hx hy
  have ex : ((x : Int) / 9223372036854775808 == 1) = sgn x := by
    unfold sgn
    by_cases h : 9223372036854775808 ≤ x
    · rw [decide_eq_true h]; simp; omega
    · rw [decide_eq_false h]; simp; omega
  have exy : ((x : Int) / 9223372036854775808 != (y : Int) / 9223372036854775808) = (sgn x != sgn y) := by
    unfold sgn
    have : (x : Int) / 9223372036854775808 = if 9223372036854775808 ≤ x then 1 else 0 := by split <;> omega
    have : (y : Int) / 9223372036854775808 = if 9223372036854775808 ≤ y then 1 else 0 := by split <;> omega
    by_cases h : 9223372036854775808 ≤ x <;> by_cases h' : 9223372036854775808 ≤ y <;> simp_all <;> omega
  have hl := Lib.hid hl
  have h1 := Lib.hid h1
  have nx : (FloatKind.f64.format.order x x != some .eq) = nan x := not_beq_self x
  have ny : (FloatKind.f64.format.order y y != some .eq) = nan y := not_beq_self y
  have ny' : (FloatKind.f64.format.order y y == some .eq) = !nan y := order_self y
  go_enter Try.func16, Try.ntmps16
  go_wp2
  all_goals go_ret
  all_goals refine ⟨congrArg (fun b => Ending.returned (Value.bool b)) (?_ : _ = _), rfl⟩
  all_goals (have hl := hl.out; have h1 := h1.out)
  all_goals (cases sx : sgn x <;> cases sy : sgn y <;> simp_all)
end Go.Proofs.Ytdfpfdkpgokflaa
