/-
  ScoreTotal's walk: it answers true, and makes new blocks alone. Its condition: the numbers fit into 64 bits.
-/
import Derived.Test.YtdfpfdkpgokflaaLs
namespace Go.Proofs.Ytdfpfdkpgokflaa
open Go.RowKit Ieee
theorem total_walk (a b c : Int) (w : World) (ha : a.toNat < 18446744073709551616) (hb : b.toNat < 18446744073709551616) (hc : c.toNat < 18446744073709551616) : Calls Try.prog 7 #[.int .u64 a, .int .u64 b, .int .u64 c] w fun e w' => e = .returned (.bool true) ∧ Below w.heap.size w w' := by
  have h1 := lessB_irr a.toNat
  have h2 := Lib.hid (lessB_asym a.toNat b.toNat)
  have h3 := Lib.hid (lessB_trans a.toNat b.toNat c.toNat)
  have h4 := Lib.hid (lessB_total a.toNat b.toNat ha hb)
  go_enter Try.func7, Try.ntmps7
  go_wp2_with first
    | (go_at_call 9; refine (speaks_any _).mono ?_; rintro e w' ⟨o, n, rfl, rfl⟩)
    | (go_at_call 15; refine (less_any _ _ _ (by assumption) (by assumption)).mono ?_; rintro e w' ⟨rfl, rfl⟩)
    | (go_at_call 10; refine (same_any _ _ _).mono ?_; rintro e w' ⟨rfl, rfl⟩)
  all_goals (have h2 := h2.out; have h3 := h3.out; have h4 := h4.out)
  all_goals first | (exfalso; simp_all; done) | go_ret
  all_goals refine ⟨?_, below_step (Below.refl _ _) _ _ (Nat.le_refl _)⟩
  all_goals first | rfl | (have e : sameB a.toNat b.toNat = true := by simp_all); rw [e]; rfl
end Go.Proofs.Ytdfpfdkpgokflaa
