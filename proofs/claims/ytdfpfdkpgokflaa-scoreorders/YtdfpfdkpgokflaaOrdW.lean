/-
  ScoreOrders' walk: it answers true, and makes new blocks alone. Its condition: the numbers fit into 64 bits.
-/
import Derived.Test.YtdfpfdkpgokflaaLs
namespace Go.Proofs.Ytdfpfdkpgokflaa
open Go.RowKit Ieee
theorem orders_walk (a b : Int) (w : World) (ha : a.toNat < 18446744073709551616) (hb : b.toNat < 18446744073709551616) : Calls Try.prog 4 #[.int .u64 a, .int .u64 b] w fun e w' => e = .returned (.bool true) ∧ Below w.heap.size w w' := by
  go_enter Try.func4, Try.ntmps4
  go_wp2_with first
    | (go_at_call 9; refine (speaks_any _).mono ?_; rintro e w' ⟨o, n, rfl, rfl⟩)
    | (go_at_call 15; refine (less_any _ _ _ (by assumption) (by assumption)).mono ?_; rintro e w' ⟨rfl, rfl⟩)
    | (go_at_call 16; refine (refless_any _ _ _ (by assumption) (by assumption)).mono ?_; rintro e w' ⟨rfl, rfl⟩)
  go_ret
  exact ⟨rfl, below_step (Below.refl _ _) _ _ (Nat.le_refl _)⟩
end Go.Proofs.Ytdfpfdkpgokflaa
