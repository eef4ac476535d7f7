/-
  The laws' own speaks: it answers true. No condition.
-/
import Derived.Test.YtfblnbcdnokdnaaDoorDe
namespace Go.Proofs.YtfblnbcdnokdnaaDoor
open Go.RowKit Sch
theorem sp_dec : decO [63, 40, 117, 41, 111, 56] ⟨#[0, 0, 0, 1, 0, 0, 0, 7, 0, 0, 0, 2, 97, 98, 0, 0]⟩ = .ok ([1, 7], [⟨#[97, 98]⟩]) := by kernel_rfl
set_option maxRecDepth 100000 in
set_option maxHeartbeats 1000000 in
theorem speaks_any (w : World) : Calls Tryd.prog 8 #[] w fun r w' => r = .returned (.bool true) ∧ Below w.heap.size w w' := by
  go_enter Tryd.func8, Tryd.ntmps8
  go_wp2_with fail
  refine (decode_any [63, 40, 117, 41, 111, 56] ⟨#[0, 0, 0, 1, 0, 0, 0, 7, 0, 0, 0, 2, 97, 98, 0, 0]⟩ w _ sp_dec).mono ?_
  rintro r w1 ⟨hB, vN, vT, rfl, hN, hT⟩
  obtain ⟨g, cap, rfl, _, _⟩ := hN.form (by decide)
  obtain ⟨k, cap2, rfl, _, _⟩ := hT.form (by decide)
  have c1 := cellAt0 hN 1 (.int .i64 7) rfl
  have c0 := cellAt0 hN 0 (.int .i64 1) rfl
  have t0 := cellAt0 hT 0 (.string ⟨#[97, 98]⟩) rfl
  obtain ⟨lg, hlg⟩ : ∃ x : Nat, x = ([1, 7] : List Int).length := ⟨_, rfl⟩
  have HB := Lib.hid hB
  have hgl : g < w1.heap.size := by assumption
  have hkl : k < w1.heap.size := by assumption
  clear hB hN hT
  simp only [List.length_cons, List.length_nil]
  have d1 : (w1.alloc (.cells #[.slice (some ⟨g, 0, none⟩) 2 cap, .slice (some ⟨k, 0, none⟩) 1 cap2] 31)).cell? ⟨g, 1, none⟩ = some (.int .i64 7) := (World.cell?_alloc_past _ _ _ hgl).trans c1
  have d2 : (w1.alloc (.cells #[.slice (some ⟨g, 0, none⟩) 2 cap, .slice (some ⟨k, 0, none⟩) 1 cap2] 31)).cell? ⟨k, 0, none⟩ = some (.string ⟨#[97, 98]⟩) := (World.cell?_alloc_past _ _ _ hkl).trans t0
  go_wp2
  go_ret
  exact ⟨rfl, HB.out.alloc HB.out.size _⟩
end Go.Proofs.YtfblnbcdnokdnaaDoor
