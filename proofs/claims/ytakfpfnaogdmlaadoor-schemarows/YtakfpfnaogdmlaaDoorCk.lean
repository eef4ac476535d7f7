/-
  Check, of any form. No condition.
-/
import Derived.Test.YtakfpfnaogdmlaaDoorPs
namespace Go.Proofs.YtakfpfnaogdmlaaDoor
open Go.RowKit Sch

set_option maxRecDepth 100000 in
set_option maxHeartbeats 400000 in
theorem refused_any (e : Int) (w : World) : Calls Tryd.prog 28 #[.iface 88 (.int .i64 e)] w fun r w' => r = .returned (.int .i64 e) ∧ w = w' := by
  have hta : ∀ w : World, (Instr.typeAssert (.iface 88 (.int .i64 e)) 20 88 true).run Tryd.prog w = .ok (.tuple #[.int .i64 e, .bool true]) w := fun w => by kernel_rfl
  go_enter Tryd.func28, Tryd.ntmps28
  go_wp2
  go_ret
  exact ⟨rfl, rfl⟩

set_option maxRecDepth 100000 in
set_option maxHeartbeats 400000 in
theorem catch25 (q : Nat) (e : Int) (w : World) (b : Bool) (hc : w.cell? ⟨q, 0, none⟩ = some (.bool b)) (hz : w.frozen? ⟨q, 0, none⟩ = false) :
    CallsD Tryd.prog 27 #[.pointer (some ⟨q, 0, none⟩)] (.panicking [{ v := .iface 88 (.int .i64 e), recovered := false }]) w fun r u' w' =>
      r = .returned (.tuple #[]) ∧ u' = .panicking [{ v := .iface 88 (.int .i64 e), recovered := true }] ∧ w' = w.setCell ⟨q, 0, none⟩ (.bool (e == 0)) := by
  refine callsD_of_wpS Tryd.func27 rfl fun c₀ cs hu => ?_
  apply wpS_seq
  apply wpS_region
  simp [wpOpsS, go_sem, recoverD, hu, Tryd.ntmps27, Exit.thenS]
  refine wpS_of_wp ?_
  go_wp2_with fail
  refine (refused_any e w).mono ?_
  rintro r w' ⟨rfl, rfl⟩
  go_wp2
  simp [bodyPostS, results, Tryd.results27]
set_option maxRecDepth 100000 in
set_option maxHeartbeats 400000 in
theorem idle25 (q : Nat) (w : World) :
    CallsD Tryd.prog 27 #[.pointer (some ⟨q, 0, none⟩)] .returning w fun r u' w' => r = .returned (.tuple #[]) ∧ u' = .returning ∧ w' = w := by
  refine callsD_of_wpS Tryd.func27 rfl fun c₀ cs hu => ?_
  apply wpS_seq
  apply wpS_region
  simp [wpOpsS, go_sem, recoverD, hu, Tryd.ntmps27, Exit.thenS]
  refine wpS_of_wp ?_
  go_wp2_with fail
  cases c₀
  simp_all [bodyPostS, results, Tryd.results27]

set_option maxRecDepth 100000 in
set_option maxHeartbeats 1000000 in
theorem check_any (t : List UInt8) (w : World) : Calls Tryd.prog 7 #[.string ⟨t.toArray⟩] w fun r w' => r = .returned (.bool (form num5 t).isSome) ∧ Below w.heap.size w w' := by
  have hmf : ∀ (fn : Fn) (first cap : Array Value) (w : World), (Instr.makeFunc fn first cap).run Tryd.prog w = .ok (.func fn first cap) w := fun _ _ _ _ => rfl
  obtain ⟨b0, hb0⟩ : ∃ b0, b0 = (form num5 t).isSome := ⟨_, rfl⟩
  rw [← hb0]
  have HB0 := Lib.hid hb0
  clear hb0
  go_enter_defers Tryd.func7, Tryd.ntmps7
  go_wp2_with fail
  have hbe : Below w.heap.size w (w.alloc (.cells #[.bool false] 4 (0, 0))) := (Below.refl _ _).alloc (Nat.le_refl _) _
  have hq := heap_alloc_new w (.cells #[.bool false] 4 (0, 0))
  have hsz : (w.alloc (.cells #[.bool false] 4 (0, 0))).heap.size = w.heap.size + 1 := by simp
  generalize w.alloc (.cells #[.bool false] 4 (0, 0)) = wa at *
  have HBE := Lib.hid hbe
  have HQ := Lib.hid hq
  have HSA := Lib.hid hsz
  clear hbe hq hsz
  refine (parse_any t wa).mono ?_
  rintro r w1 ⟨hb, h1⟩
  have hsa := HSA.out
  have hq1 : w1.heap[w.heap.size]? = _ := (hb.block _ (by omega)).trans HQ.out
  have hc1 : w1.cell? ⟨w.heap.size, 0, none⟩ = some (.bool false) := by rw [cell_of_row w1 _ 0 _ _ _ hq1]; rfl
  have hz1 : w1.frozen? ⟨w.heap.size, 0, none⟩ = false := Lib.frozen_of_heap hq1 _
  have hB1 : Below w.heap.size w w1 := HBE.out.trans ⟨hb.os, hb.tape, hb.output, hb.size, fun k hk => hb.block k (by omega)⟩
  have HB1 := Lib.hid hB1
  have HQ1 := Lib.hid hq1
  clear hb hq1 hB1
  have hend : ∀ v, Below w.heap.size w (w1.setCell ⟨w.heap.size, 0, none⟩ v) := fun v => ⟨HB1.out.os, HB1.out.tape, HB1.out.output, by have := HB1.out.size; simpa [World.setCell] using this, fun k hk => (set_far _ _ _ _ _ (by omega)).trans (HB1.out.block k hk)⟩
  have HEND := Lib.hid hend
  clear hend
  generalize hx : form num5 t = x at h1
  have hb1 := HB0.out
  rw [hx] at hb1
  clear hx
  cases x with
  | none =>
    simp only at h1
    subst h1
    go_wp2
    refine leaves_cons (f := 27) (args := #[.pointer (some ⟨w.heap.size, 0, none⟩)]) (by simp) (by simp [go_sem]) ?_
    refine (catch25 w.heap.size 1 w1 false hc1 hz1).mono ?_
    rintro e u' w'' ⟨rfl, rfl, rfl⟩
    have he := HEND.out (.bool false)
    simp [Leaves, settle, results, Tryd.results7, go_sem, hc1, hb1, he]
  | some row =>
    obtain ⟨v, rfl, hv⟩ := h1
    clear hv
    go_wp2
    refine leaves_cons (f := 27) (args := #[.pointer (some ⟨w.heap.size, 0, none⟩)]) (by simp) (by simp [go_sem]) ?_
    refine (idle25 w.heap.size _).mono ?_
    rintro e u' w'' ⟨rfl, rfl, rfl⟩
    have he := HEND.out (.bool true)
    simp [Leaves, settle, results, Tryd.results7, go_sem, hc1, hb1, he]
end Go.Proofs.YtakfpfnaogdmlaaDoor
