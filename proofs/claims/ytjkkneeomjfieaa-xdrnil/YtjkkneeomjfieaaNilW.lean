/-
  XdrNil's walk: of no reader the answers are what a nil one gives. No condition.
-/
import Derived.Test.YtjkkneeomjfieaaSpeaks
namespace Go.Proofs.Ytjkkneeomjfieaa
open Go.RowKit
set_option maxHeartbeats 1000000 in
theorem nil_walk (n : Int) (w : World) : Calls Try.prog 6 #[.int .i64 n] w fun e w' => e = .returned (.bool true) ∧ Below w.heap.size w w' := by
  go_enter Try.func6, Try.ntmps6
  go_wp2_with (first | (go_at_call 9; refine (speaks_any _).mono ?_; rintro e w1 ⟨rfl, HB0⟩; have HB := Lib.hid HB0; clear HB0) | go_in)
  all_goals
    go_ret
    exact ⟨rfl, HB.out⟩
end Go.Proofs.Ytjkkneeomjfieaa
