/-
  Open makes a reader of all the bytes. No condition.
-/
import Derived.Test.YtjogcdkebplcpaaGreatDoorXRdFix
namespace Go.Proofs.YtjogcdkebplcpaaGreatDoor.X
open Go.RowKit
theorem opened (s : ByteArray) (w : World) (C : Array Value) (fr : Nat × Nat) (cap : Nat) (h1 : s.size ≤ cap) (h2 : cap ≤ maxLen) (hC : ∀ j (_ : j < s.data.toList.length), C[0 + j]? = some (.int .u8 ((s.data.toList[j]).toNat : Int))) :
    Rd ((w.alloc (.cells C 5 fr)).alloc (.cells #[.slice (some ⟨w.heap.size, 0, none⟩) s.size cap, .int .i64 0] 95)).drew (w.heap.size + 1) s.data.toList 0 := by
  refine ⟨.slice (some ⟨w.heap.size, 0, none⟩) s.size cap, ?_, .inr ⟨w.heap.size, 0, cap, C, fr, ?_, ?_, h2, ?_, hC⟩⟩
  · have := heap_alloc_new (w.alloc (.cells C 5 fr)) (.cells #[.slice (some ⟨w.heap.size, 0, none⟩) s.size cap, .int .i64 0] 95)
    rw [show (w.alloc (.cells C 5 fr)).heap.size = w.heap.size + 1 from by simp] at this
    exact this
  · rw [Array.length_toList]; rfl
  · rw [Array.length_toList]; exact h1
  · show ((w.alloc (.cells C 5 fr)).alloc _).heap[w.heap.size]? = _
    rw [(World.grownBy_alloc (w.alloc (.cells C 5 fr)) _ none).block w.heap.size (by simp) (by simp)]
    exact heap_alloc_new w _

set_option maxHeartbeats 400000 in
theorem open_any (s : ByteArray) (w : World) (hs : s.size ≤ maxLen) :
    Calls Tryz.prog 23 #[.string s] w fun r w' => r = .returned (.pointer (some ⟨w.heap.size + 1, 0, none⟩)) ∧ Rd w' (w.heap.size + 1) s.data.toList 0 ∧ Below w.heap.size w w' ∧ w'.heap.size = w.heap.size + 2 := by
  have hcv := run_bytes_of_string (P := Tryz.prog) w 9 54 5 s Tryz.underlying9 Tryz.underlying54 Tryz.underlying5
  go_enter Tryz.func23, Tryz.ntmps23
  go_wp2
  go_ret
  refine ⟨rfl, opened s w _ _ _ (grownCap_ge w s.size 0 5) (grownCap_le_maxLen w s.size 0 5 hs) ?_, ?_, by simp⟩
  · intro j hj
    have hj' : j < s.data.size := by simpa using hj
    rw [Nat.zero_add, bytesRow_at s _ j hj']
    simp
  · exact (((Below.refl w.heap.size w).alloc (Nat.le_refl _) _).alloc (by simp) _).drew
end Go.Proofs.YtjogcdkebplcpaaGreatDoor.X
