/-
  ScoreBenefits' walk: it answers true, and makes new blocks alone. No condition.
-/
import Derived.Test.YtdfpfdkpgokflaaFl
namespace Go.Proofs.Ytdfpfdkpgokflaa
open Go.RowKit Ieee
theorem benefits_walk (a b c : Int) (w : World) : Calls Try.prog 3 #[.int .i64 a, .int .i64 b, .int .i64 c] w fun e w' => e = .returned (.bool true) ∧ Below w.heap.size w w' := by
  go_enter Try.func3, Try.ntmps3
  go_wp2_with first
    | (go_at_call 9; refine (speaks_any _).mono ?_; rintro e w' ⟨o, n, rfl, rfl⟩)
    | (go_at_call 11; refine (ratio_any _ _ _).mono ?_; rintro e w' ⟨r, n2, rfl, hr, rfl⟩; have hq : ∀ W, sameB r (fres .quo (floatOfInt .f64 a) (floatOfInt .f64 b) W) = true := fun W => FV.same hr (FV.op .quo (a := some (fi a)) (b := some (fi b)) rfl rfl W))
    | (go_at_call 12; refine (ben_any _ _ _ _).mono ?_; rintro e w' ⟨r2, n3, rfl, hr2, rfl⟩)
    | (go_at_call 13; refine (refben_any _ _ _ _).mono ?_; rintro e w' ⟨r3, n4, rfl, hr3, rfl⟩)
    | (go_at_call 10; refine (same_any _ _ _).mono ?_; rintro e w' ⟨rfl, rfl⟩)
  go_ret
  refine ⟨?_, ?_⟩
  · rw [FV.same hr2 hr3]; rfl
  · exact below_step (below_step (Below.refl _ _) _ _ (Nat.le_refl _)) _ _ (le_step _ _ _)
end Go.Proofs.Ytdfpfdkpgokflaa
