/-
  Check, of any form. No condition.
-/
import Derived.Test.YtihkjgfghjgblaaGreatDoorPs
namespace Go.Proofs.YtihkjgfghjgblaaGreatDoor
open Go.RowKit Sch

set_option maxRecDepth 100000 in
set_option maxHeartbeats 400000 in
theorem refused_any (e : Int) (w : World) : Calls Tryz.prog 25 #[.iface 81 (.int .i64 e)] w fun r w' => r = .returned (.int .i64 e) ∧ w = w' := by
  have hta : ∀ w : World, (Instr.typeAssert (.iface 81 (.int .i64 e)) 20 81 true).run Tryz.prog w = .ok (.tuple #[.int .i64 e, .bool true]) w := fun w => by kernel_rfl
  go_enter Tryz.func25, Tryz.ntmps25
  go_wp2
  go_ret
  exact ⟨rfl, rfl⟩

end Go.Proofs.YtihkjgfghjgblaaGreatDoor
