/-
  What Less and the document's Less answer: both are lessB of the two words. Their condition: the words fit into 64 bits.
-/
import Derived.Test.YtdfpfdkpgokflabFl
namespace Go.Proofs.Ytdfpfdkpgokflab
open Go.RowKit Ieee

theorem less_any (x y : Nat) (w : World) (hx : x < 18446744073709551616) (hy : y < 18446744073709551616) : Calls Try.prog 10 #[.float .f64 x, .float .f64 y] w fun e w' => e = .returned (.bool (lessB x y)) ∧ w = w' := by
  have hl : nan x = true ∨ nan y = true → lessB x y = (nan x && !nan y) := by
    intro h
    unfold lessB
    rcases h with h | h <;> simp [h]
  have h1 : nan x = false → nan y = false → (FloatKind.f64.format.order x y == some .eq) = true → (sgn x && !sgn y) = lessB x y := less_eq x y hx hy
  have h2 : nan x = false → nan y = false → (FloatKind.f64.format.order x y == some .eq) = false → (FloatKind.f64.format.order x y == some .lt) = lessB x y := less_ne x y hx hy
  have hl := Lib.hid hl
  have h1 := Lib.hid h1
  have h2 := Lib.hid h2
  go_enter Try.func10, Try.ntmps10
  go_wp2_with first | (go_at_call 12; refine (isnan_any _ _).mono ?_; rintro e w' ⟨rfl, rfl⟩) | (go_at_call 14; refine (signbit_any _ _ (by assumption)).mono ?_; rintro e w' ⟨rfl, rfl⟩)
  all_goals go_ret
  all_goals refine ⟨congrArg (fun b => Ending.returned (Value.bool b)) (?_ : _ = _), rfl⟩
  all_goals (have hl := hl.out; have h1 := h1.out; have h2 := h2.out)
  all_goals simp_all
end Go.Proofs.Ytdfpfdkpgokflab
