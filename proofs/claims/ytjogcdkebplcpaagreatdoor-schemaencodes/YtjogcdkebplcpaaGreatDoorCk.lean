/-
  Check, of any form. No condition.
-/
import Derived.Test.YtjogcdkebplcpaaGreatDoorPs
namespace Go.Proofs.YtjogcdkebplcpaaGreatDoor
open Go.RowKit Sch

set_option maxRecDepth 100000 in
set_option maxHeartbeats 400000 in
theorem refused_any (e : Int) (w : World) : Calls Tryz.prog 12 #[.iface 58 (.int .i64 e)] w fun r w' => r = .returned (.int .i64 e) ∧ w = w' := by
  have hta : ∀ w : World, (Instr.typeAssert (.iface 58 (.int .i64 e)) 20 58 true).run Tryz.prog w = .ok (.tuple #[.int .i64 e, .bool true]) w := fun w => by kernel_rfl
  go_enter Tryz.func12, Tryz.ntmps12
  go_wp2
  go_ret
  exact ⟨rfl, rfl⟩

end Go.Proofs.YtjogcdkebplcpaaGreatDoor
