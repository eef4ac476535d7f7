/-
  The law's first line holds: a writer that is handed three bytes puts them with their length and a nought. No condition.
-/
import Derived.Test.YtjkkneeomjfieaaPut
namespace Go.Proofs.Ytjkkneeomjfieaa
open Go.RowKit

theorem Wr.new (w : World) : Wr (w.alloc (.cells #[.slice none 0 0] 26)) w.heap.size (.slice none 0 0) [] :=
  ⟨heap_alloc_new w _, World.ownsRow_nil _ _ _ _⟩

theorem abc : opaqueOf ⟨#[97, 98, 99]⟩ = [0, 0, 0, 3, 97, 98, 99, 0] := by decide +kernel

set_option maxHeartbeats 400000 in
theorem speaks_any (w : World) : Calls Try.prog 9 #[] w fun e w' => e = .returned (.bool true) ∧ Below w.heap.size w w' := by
  go_enter Try.func9, Try.ntmps9
  go_wp2_with fail
  refine (opaque_any w.heap.size (.slice none 0 0) [] ⟨#[97, 98, 99]⟩ _ (Wr.new w) (by decide)).mono ?_
  rintro e w1 ⟨rfl, v1, hW1, hC1⟩
  have HB := Lib.hid (((Below.refl w.heap.size w).alloc (Nat.le_refl _) (.cells #[.slice none 0 0] 26)).trans (hC1.below (B := w.heap.size) (by simp) (Nat.le_refl _) (by intro k hk; simp [Value.ownBlock] at hk)))
  clear hC1
  rw [List.nil_append, abc] at hW1
  go_wp2_with fail
  refine (bytes_any _ v1 _ w1 hW1).mono ?_
  rintro e w2 ⟨rfl, rfl⟩
  go_wp2
  go_ret
  exact ⟨rfl, HB.out⟩
end Go.Proofs.Ytjkkneeomjfieaa
