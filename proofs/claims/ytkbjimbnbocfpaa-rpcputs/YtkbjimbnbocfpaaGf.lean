/-
  GetCall of what is no call. Its conditions: none.
-/
import Derived.Test.YtkbjimbnbocfpaaGd
namespace Go.Proofs.Ytkbjimbnbocfpaa
open Go.RowKit

theorem laidE (a b c : Nat) (w w1 : World) (S : ByteArray) (E : Int) (hB : Below w.heap.size w w1) (hA : CAt w1 a 0 0 0 0 false 0 ⟨#[]⟩ 0 0 (.slice none 0 0) ⟨#[]⟩) (hb : w1.heap[b]? = some (.cells #[.string ⟨#[]⟩] 9 (0, 0))) (hc : w1.heap[c]? = some (.cells #[.int .i64 0] 35 (0, 0))) (hab : a ≠ b) (hac : a ≠ c) (hbc : b ≠ c) (W : World)
    (hW : W = (((((((((((((w1.setCell ⟨a, 0, none⟩ (.int .i64 0)).setCell ⟨a, 1, none⟩ (.int .i64 0)).setCell ⟨a, 2, none⟩ (.int .i64 0)).setCell ⟨a, 3, none⟩ (.int .i64 0)).setCell ⟨a, 4, none⟩ (.bool false)).setCell ⟨a, 5, none⟩ (.int .i64 0)).setCell ⟨a, 6, none⟩ (.string ⟨#[]⟩)).setCell ⟨a, 7, none⟩ (.int .i64 0)).setCell ⟨a, 8, none⟩ (.int .i64 0)).setCell ⟨a, 9, none⟩ (.slice none 0 0)).setCell ⟨a, 10, none⟩ (.string ⟨#[]⟩)).setCell ⟨b, 0, none⟩ (.string S)).setCell ⟨c, 0, none⟩ (.int .i64 E))) :
    CAt W a 0 0 0 0 false 0 ⟨#[]⟩ 0 0 (.slice none 0 0) ⟨#[]⟩ ∧ W.heap[b]? = some (.cells #[.string S] 9 (0, 0)) ∧ W.heap[c]? = some (.cells #[.int .i64 E] 35 (0, 0)) ∧ W.os = w.os ∧ W.tape = w.tape ∧ W.output = w.output ∧ w.heap.size ≤ W.heap.size ∧ ∀ k, k < w.heap.size → k ≠ a → k ≠ b → k ≠ c → W.heap[k]? = w.heap[k]? := by
  have o1 : Only a w1 (((((((((((w1.setCell ⟨a, 0, none⟩ (.int .i64 0)).setCell ⟨a, 1, none⟩ (.int .i64 0)).setCell ⟨a, 2, none⟩ (.int .i64 0)).setCell ⟨a, 3, none⟩ (.int .i64 0)).setCell ⟨a, 4, none⟩ (.bool false)).setCell ⟨a, 5, none⟩ (.int .i64 0)).setCell ⟨a, 6, none⟩ (.string ⟨#[]⟩)).setCell ⟨a, 7, none⟩ (.int .i64 0)).setCell ⟨a, 8, none⟩ (.int .i64 0)).setCell ⟨a, 9, none⟩ (.slice none 0 0)).setCell ⟨a, 10, none⟩ (.string ⟨#[]⟩)) := (((((((((((Only.refl _ _).set 0 _).set 1 _).set 2 _).set 3 _).set 4 _).set 5 _).set 6 _).set 7 _).set 8 _).set 9 _).set 10 _
  have h1 : CAt (((((((((((w1.setCell ⟨a, 0, none⟩ (.int .i64 0)).setCell ⟨a, 1, none⟩ (.int .i64 0)).setCell ⟨a, 2, none⟩ (.int .i64 0)).setCell ⟨a, 3, none⟩ (.int .i64 0)).setCell ⟨a, 4, none⟩ (.bool false)).setCell ⟨a, 5, none⟩ (.int .i64 0)).setCell ⟨a, 6, none⟩ (.string ⟨#[]⟩)).setCell ⟨a, 7, none⟩ (.int .i64 0)).setCell ⟨a, 8, none⟩ (.int .i64 0)).setCell ⟨a, 9, none⟩ (.slice none 0 0)).setCell ⟨a, 10, none⟩ (.string ⟨#[]⟩)) a 0 0 0 0 false 0 ⟨#[]⟩ 0 0 (.slice none 0 0) ⟨#[]⟩ := (((((((((((hA.s0 0).s1 0).s2 0).s3 0).s4 false).s5 0).s6 ⟨#[]⟩).s7 0).s8 0).s9 (.slice none 0 0)).s10 ⟨#[]⟩)
  generalize (((((((((((w1.setCell ⟨a, 0, none⟩ (.int .i64 0)).setCell ⟨a, 1, none⟩ (.int .i64 0)).setCell ⟨a, 2, none⟩ (.int .i64 0)).setCell ⟨a, 3, none⟩ (.int .i64 0)).setCell ⟨a, 4, none⟩ (.bool false)).setCell ⟨a, 5, none⟩ (.int .i64 0)).setCell ⟨a, 6, none⟩ (.string ⟨#[]⟩)).setCell ⟨a, 7, none⟩ (.int .i64 0)).setCell ⟨a, 8, none⟩ (.int .i64 0)).setCell ⟨a, 9, none⟩ (.slice none 0 0)).setCell ⟨a, 10, none⟩ (.string ⟨#[]⟩)) = v at *
  have hb1 := (o1.block b hab.symm).trans hb
  have hc1 := (o1.block c hac.symm).trans hc
  have o2 : Only b v (v.setCell ⟨b, 0, none⟩ (.string S)) := (Only.refl _ _).set 0 _
  have hb2 : (v.setCell ⟨b, 0, none⟩ (.string S)).heap[b]? = some (.cells #[.string S] 9 (0, 0)) := by rw [heap_set _ hb1]; rfl
  have h2 := h1.only o2 hab
  have hc2 := (o2.block c hbc.symm).trans hc1
  generalize v.setCell ⟨b, 0, none⟩ (.string S) = u at *
  have o3 : Only c u W := by rw [hW]; exact (Only.refl _ _).set 0 _
  have hc3 : W.heap[c]? = some (.cells #[.int .i64 E] 35 (0, 0)) := by rw [hW, heap_set _ hc2]; rfl
  refine ⟨h2.only o3 hac, (o3.block b hbc).trans hb2, hc3, o3.os.trans (o2.os.trans (o1.os.trans hB.os)), o3.tape.trans (o2.tape.trans (o1.tape.trans hB.tape)), o3.output.trans (o2.output.trans (o1.output.trans hB.output)), ?_, fun k hk ha hb hc => (o3.block k hc).trans ((o2.block k hb).trans ((o1.block k ha).trans (hB.block k hk)))⟩
  rw [o3.size, o2.size, o1.size]
  exact hB.size


set_option maxRecDepth 100000 in
set_option maxHeartbeats 1000000 in
/-- No head of a call. -/
theorem get_short (s : ByteArray) (w : World) (hs : s.size ≤ 65536) (xid : Int) (l1 : List UInt8) (e1 : Int) (h1 : numR 4 s.data.toList 0 = (xid, l1, e1)) (kind : Int) (l2 : List UInt8) (e2 : Int) (h2 : numR 4 l1 e1 = (kind, l2, e2)) (hw : wellR l2 e2 = false) :
    Calls Try.prog 14 #[.string s] w fun r w' => r = .returned (.tuple #[.agg #[.int .i64 0, .int .i64 0, .int .i64 0, .int .i64 0, .bool false, .int .i64 0, .string ⟨#[]⟩, .int .i64 0, .int .i64 0, .slice none 0 0, .string ⟨#[]⟩], .string ⟨#[]⟩, .int .i64 5]) ∧ Below w.heap.size w w' := by
  have hmf : ∀ (fn : Fn) (first cap : Array Value) (w : World), (Instr.makeFunc fn first cap).run Try.prog w = .ok (.func fn first cap) w := fun _ _ _ _ => rfl
  have H1 := Lib.hid h1
  have H2 := Lib.hid h2
  have HW := Lib.hid hw
  clear h1 h2 hw
  go_enter_defers Try.func14, Try.ntmps14
  go_wp2_with fail
  obtain ⟨g0, n0⟩ := G3.start w
  have HG0 := Lib.hid g0
  clear g0
  generalize (((w.alloc (.cells #[.int .i64 0, .int .i64 0, .int .i64 0, .int .i64 0, .bool false, .int .i64 0, .string ⟨#[]⟩, .int .i64 0, .int .i64 0, .slice none 0 0, .string ⟨#[]⟩] 30)).alloc (.cells #[.string ⟨#[]⟩] 9)).alloc (.cells #[.int .i64 0] 35)) = W0 at *
  refine (open_any s W0 (by unfold maxLen; omega)).mono ?_
  rintro r w1 ⟨rfl, hR1, hB1, n1⟩
  have HG1 := Lib.hid (HG0.out.grew hB1)
  obtain ⟨p, hp⟩ : ∃ p, p = W0.heap.size + 1 := ⟨_, rfl⟩
  rw [← hp] at hR1 ⊢
  have hpw : w.heap.size + 3 ≤ p := by omega
  have HR1 := Lib.hid hR1
  have hl : s.data.toList.length ≤ 65536 := by rw [Array.length_toList]; exact hs
  clear HG0 hB1 n1 hp hR1 n0
  go_wp2_with fail
  refine (ruint_n p _ 0 _ HR1.out (by omega) xid l1 e1 H1.out).mono ?_
  rintro r w2 ⟨rfl, hR2, hO2⟩
  have HR2 := Lib.hid hR2
  have HG2 := Lib.hid (HG1.out.only hO2 hpw)
  clear hR2 hO2 HR1 HG1
  go_wp2_with fail
  refine (ruint_n p l1 e1 w2 HR2.out (by have := numR_len H1.out; omega) kind l2 e2 H2.out).mono ?_
  rintro r w3 ⟨rfl, hR3, hO3⟩
  have HR3 := Lib.hid hR3
  have HG3 := Lib.hid (HG2.out.only hO3 hpw)
  clear hR3 hO3 HR2 HG2
  go_wp2_with fail
  refine (well_any p l2 e2 _ (HR3.out.alloc _) false HW.out).mono ?_
  rintro r w' ⟨rfl, rfl⟩
  have hG4 := HG3.out.alloc (.cells #[.int .i64 xid] 3)
  have HG4 := Lib.hid hG4
  obtain ⟨z0, z1, z2, z3, z4, z5, z6, z7, z8, z9, z10⟩ := hG4.a.all
  have y0 := hG4.a.free 0
  have y1 := hG4.a.free 1
  have y2 := hG4.a.free 2
  have y3 := hG4.a.free 3
  have y4 := hG4.a.free 4
  have y5 := hG4.a.free 5
  have y6 := hG4.a.free 6
  have y7 := hG4.a.free 7
  have y8 := hG4.a.free 8
  have y9 := hG4.a.free 9
  have y10 := hG4.a.free 10
  have bz := Lib.frozen_of_heap hG4.b 0
  have cz := Lib.frozen_of_heap hG4.c 0
  have bc : (w3.alloc (.cells #[.int .i64 xid] 3)).cell? ⟨w.heap.size + 1, 0, none⟩ = some (.string ⟨#[]⟩) := by rw [cell_of_row _ _ 0 _ _ _ hG4.b]; rfl
  have cc : (w3.alloc (.cells #[.int .i64 xid] 3)).cell? ⟨w.heap.size + 1 + 1, 0, none⟩ = some (.int .i64 0) := by rw [cell_of_row _ _ 0 _ _ _ hG4.c]; rfl
  clear HR3 HG3 hG4
  generalize w3.alloc (.cells #[.int .i64 xid] 3) = W4 at *
  go_wp2
  have hQ := laidE w.heap.size (w.heap.size + 1) (w.heap.size + 1 + 1) w W4 ⟨#[]⟩ 5 HG4.out.below HG4.out.a HG4.out.b HG4.out.c (by omega) (by omega) (by omega) (((((((((((((W4.setCell ⟨w.heap.size, 0, none⟩ (.int .i64 0)).setCell ⟨w.heap.size, 1, none⟩ (.int .i64 0)).setCell ⟨w.heap.size, 2, none⟩ (.int .i64 0)).setCell ⟨w.heap.size, 3, none⟩ (.int .i64 0)).setCell ⟨w.heap.size, 4, none⟩ (.bool false)).setCell ⟨w.heap.size, 5, none⟩ (.int .i64 0)).setCell ⟨w.heap.size, 6, none⟩ (.string ⟨#[]⟩)).setCell ⟨w.heap.size, 7, none⟩ (.int .i64 0)).setCell ⟨w.heap.size, 8, none⟩ (.int .i64 0)).setCell ⟨w.heap.size, 9, none⟩ (.slice none 0 0)).setCell ⟨w.heap.size, 10, none⟩ (.string ⟨#[]⟩)).setCell ⟨w.heap.size + 1, 0, none⟩ (.string ⟨#[]⟩)).setCell ⟨w.heap.size + 1 + 1, 0, none⟩ (.int .i64 5)) rfl
  generalize (((((((((((((W4.setCell ⟨w.heap.size, 0, none⟩ (.int .i64 0)).setCell ⟨w.heap.size, 1, none⟩ (.int .i64 0)).setCell ⟨w.heap.size, 2, none⟩ (.int .i64 0)).setCell ⟨w.heap.size, 3, none⟩ (.int .i64 0)).setCell ⟨w.heap.size, 4, none⟩ (.bool false)).setCell ⟨w.heap.size, 5, none⟩ (.int .i64 0)).setCell ⟨w.heap.size, 6, none⟩ (.string ⟨#[]⟩)).setCell ⟨w.heap.size, 7, none⟩ (.int .i64 0)).setCell ⟨w.heap.size, 8, none⟩ (.int .i64 0)).setCell ⟨w.heap.size, 9, none⟩ (.slice none 0 0)).setCell ⟨w.heap.size, 10, none⟩ (.string ⟨#[]⟩)).setCell ⟨w.heap.size + 1, 0, none⟩ (.string ⟨#[]⟩)).setCell ⟨w.heap.size + 1 + 1, 0, none⟩ (.int .i64 5)) = w6 at hQ ⊢
  obtain ⟨k1, k2, k3, k4, k5, k6, k7, k8⟩ := hQ
  have hb6 : Below w.heap.size w w6 := ⟨k4, k5, k6, k7, fun k hk => k8 k hk (by omega) (by omega) (by omega)⟩
  have hL := run_loadVar_row (P := Try.prog) w6 w.heap.size 30 30 _ (0, 0) _ k1 Try.underlying30 rfl (by kernel_rfl)
  have c1 : w6.cell? ⟨w.heap.size + 1, 0, none⟩ = some (.string ⟨#[]⟩) := by rw [cell_of_row _ _ 0 _ _ _ k2]; rfl
  have c2 : w6.cell? ⟨w.heap.size + 1 + 1, 0, none⟩ = some (.int .i64 5) := by rw [cell_of_row _ _ 0 _ _ _ k3]; rfl
  clear k1 k2 k3 k4 k5 k6 k7 k8
  simp [bodyPostD, Leaves, results, Try.results14, hL, hb6, asAddr]
  simp [go_sem, c1, c2]
set_option maxRecDepth 100000 in
set_option maxHeartbeats 1000000 in
/-- Not a call. -/
theorem get_form (s : ByteArray) (w : World) (hs : s.size ≤ 65536) (xid : Int) (l1 : List UInt8) (e1 : Int) (h1 : numR 4 s.data.toList 0 = (xid, l1, e1)) (kind : Int) (l2 : List UInt8) (e2 : Int) (h2 : numR 4 l1 e1 = (kind, l2, e2)) (hw : wellR l2 e2 = true) (hk : kind ≠ 0) :
    Calls Try.prog 14 #[.string s] w fun r w' => r = .returned (.tuple #[.agg #[.int .i64 0, .int .i64 0, .int .i64 0, .int .i64 0, .bool false, .int .i64 0, .string ⟨#[]⟩, .int .i64 0, .int .i64 0, .slice none 0 0, .string ⟨#[]⟩], .string ⟨#[]⟩, .int .i64 4]) ∧ Below w.heap.size w w' := by
  have hmf : ∀ (fn : Fn) (first cap : Array Value) (w : World), (Instr.makeFunc fn first cap).run Try.prog w = .ok (.func fn first cap) w := fun _ _ _ _ => rfl
  have H1 := Lib.hid h1
  have H2 := Lib.hid h2
  have HW := Lib.hid hw
  have hk0 : (kind != 0) = true := by simpa using hk
  clear h1 h2 hw hk
  go_enter_defers Try.func14, Try.ntmps14
  go_wp2_with fail
  obtain ⟨g0, n0⟩ := G3.start w
  have HG0 := Lib.hid g0
  clear g0
  generalize (((w.alloc (.cells #[.int .i64 0, .int .i64 0, .int .i64 0, .int .i64 0, .bool false, .int .i64 0, .string ⟨#[]⟩, .int .i64 0, .int .i64 0, .slice none 0 0, .string ⟨#[]⟩] 30)).alloc (.cells #[.string ⟨#[]⟩] 9)).alloc (.cells #[.int .i64 0] 35)) = W0 at *
  refine (open_any s W0 (by unfold maxLen; omega)).mono ?_
  rintro r w1 ⟨rfl, hR1, hB1, n1⟩
  have HG1 := Lib.hid (HG0.out.grew hB1)
  obtain ⟨p, hp⟩ : ∃ p, p = W0.heap.size + 1 := ⟨_, rfl⟩
  rw [← hp] at hR1 ⊢
  have hpw : w.heap.size + 3 ≤ p := by omega
  have HR1 := Lib.hid hR1
  have hl : s.data.toList.length ≤ 65536 := by rw [Array.length_toList]; exact hs
  clear HG0 hB1 n1 hp hR1 n0
  go_wp2_with fail
  refine (ruint_n p _ 0 _ HR1.out (by omega) xid l1 e1 H1.out).mono ?_
  rintro r w2 ⟨rfl, hR2, hO2⟩
  have HR2 := Lib.hid hR2
  have HG2 := Lib.hid (HG1.out.only hO2 hpw)
  clear hR2 hO2 HR1 HG1
  go_wp2_with fail
  refine (ruint_n p l1 e1 w2 HR2.out (by have := numR_len H1.out; omega) kind l2 e2 H2.out).mono ?_
  rintro r w3 ⟨rfl, hR3, hO3⟩
  have HR3 := Lib.hid hR3
  have HG3 := Lib.hid (HG2.out.only hO3 hpw)
  clear hR3 hO3 HR2 HG2
  go_wp2_with fail
  refine (well_any p l2 e2 _ (HR3.out.alloc _) true HW.out).mono ?_
  rintro r w' ⟨rfl, rfl⟩
  have hG4 := HG3.out.alloc (.cells #[.int .i64 xid] 3)
  have HG4 := Lib.hid hG4
  obtain ⟨z0, z1, z2, z3, z4, z5, z6, z7, z8, z9, z10⟩ := hG4.a.all
  have y0 := hG4.a.free 0
  have y1 := hG4.a.free 1
  have y2 := hG4.a.free 2
  have y3 := hG4.a.free 3
  have y4 := hG4.a.free 4
  have y5 := hG4.a.free 5
  have y6 := hG4.a.free 6
  have y7 := hG4.a.free 7
  have y8 := hG4.a.free 8
  have y9 := hG4.a.free 9
  have y10 := hG4.a.free 10
  have bz := Lib.frozen_of_heap hG4.b 0
  have cz := Lib.frozen_of_heap hG4.c 0
  have bc : (w3.alloc (.cells #[.int .i64 xid] 3)).cell? ⟨w.heap.size + 1, 0, none⟩ = some (.string ⟨#[]⟩) := by rw [cell_of_row _ _ 0 _ _ _ hG4.b]; rfl
  have cc : (w3.alloc (.cells #[.int .i64 xid] 3)).cell? ⟨w.heap.size + 1 + 1, 0, none⟩ = some (.int .i64 0) := by rw [cell_of_row _ _ 0 _ _ _ hG4.c]; rfl
  clear HR3 HG3 hG4
  generalize w3.alloc (.cells #[.int .i64 xid] 3) = W4 at *
  go_wp2
  have hQ := laidE w.heap.size (w.heap.size + 1) (w.heap.size + 1 + 1) w W4 ⟨#[]⟩ 4 HG4.out.below HG4.out.a HG4.out.b HG4.out.c (by omega) (by omega) (by omega) (((((((((((((W4.setCell ⟨w.heap.size, 0, none⟩ (.int .i64 0)).setCell ⟨w.heap.size, 1, none⟩ (.int .i64 0)).setCell ⟨w.heap.size, 2, none⟩ (.int .i64 0)).setCell ⟨w.heap.size, 3, none⟩ (.int .i64 0)).setCell ⟨w.heap.size, 4, none⟩ (.bool false)).setCell ⟨w.heap.size, 5, none⟩ (.int .i64 0)).setCell ⟨w.heap.size, 6, none⟩ (.string ⟨#[]⟩)).setCell ⟨w.heap.size, 7, none⟩ (.int .i64 0)).setCell ⟨w.heap.size, 8, none⟩ (.int .i64 0)).setCell ⟨w.heap.size, 9, none⟩ (.slice none 0 0)).setCell ⟨w.heap.size, 10, none⟩ (.string ⟨#[]⟩)).setCell ⟨w.heap.size + 1, 0, none⟩ (.string ⟨#[]⟩)).setCell ⟨w.heap.size + 1 + 1, 0, none⟩ (.int .i64 4)) rfl
  generalize (((((((((((((W4.setCell ⟨w.heap.size, 0, none⟩ (.int .i64 0)).setCell ⟨w.heap.size, 1, none⟩ (.int .i64 0)).setCell ⟨w.heap.size, 2, none⟩ (.int .i64 0)).setCell ⟨w.heap.size, 3, none⟩ (.int .i64 0)).setCell ⟨w.heap.size, 4, none⟩ (.bool false)).setCell ⟨w.heap.size, 5, none⟩ (.int .i64 0)).setCell ⟨w.heap.size, 6, none⟩ (.string ⟨#[]⟩)).setCell ⟨w.heap.size, 7, none⟩ (.int .i64 0)).setCell ⟨w.heap.size, 8, none⟩ (.int .i64 0)).setCell ⟨w.heap.size, 9, none⟩ (.slice none 0 0)).setCell ⟨w.heap.size, 10, none⟩ (.string ⟨#[]⟩)).setCell ⟨w.heap.size + 1, 0, none⟩ (.string ⟨#[]⟩)).setCell ⟨w.heap.size + 1 + 1, 0, none⟩ (.int .i64 4)) = w6 at hQ ⊢
  obtain ⟨k1, k2, k3, k4, k5, k6, k7, k8⟩ := hQ
  have hb6 : Below w.heap.size w w6 := ⟨k4, k5, k6, k7, fun k hk => k8 k hk (by omega) (by omega) (by omega)⟩
  have hL := run_loadVar_row (P := Try.prog) w6 w.heap.size 30 30 _ (0, 0) _ k1 Try.underlying30 rfl (by kernel_rfl)
  have c1 : w6.cell? ⟨w.heap.size + 1, 0, none⟩ = some (.string ⟨#[]⟩) := by rw [cell_of_row _ _ 0 _ _ _ k2]; rfl
  have c2 : w6.cell? ⟨w.heap.size + 1 + 1, 0, none⟩ = some (.int .i64 4) := by rw [cell_of_row _ _ 0 _ _ _ k3]; rfl
  clear k1 k2 k3 k4 k5 k6 k7 k8
  simp [bodyPostD, Leaves, results, Try.results14, hL, hb6, asAddr]
  simp [go_sem, c1, c2]
set_option maxRecDepth 100000 in
set_option maxHeartbeats 1000000 in
/-- Too many bytes. -/
theorem get_long (s : ByteArray) (w : World) (hs : 65536 < s.size) :
    Calls Try.prog 14 #[.string s] w fun r w' => r = .returned (.tuple #[.agg #[.int .i64 0, .int .i64 0, .int .i64 0, .int .i64 0, .bool false, .int .i64 0, .string ⟨#[]⟩, .int .i64 0, .int .i64 0, .slice none 0 0, .string ⟨#[]⟩], .string ⟨#[]⟩, .int .i64 2]) ∧ Below w.heap.size w w' := by
  have hmf : ∀ (fn : Fn) (first cap : Array Value) (w : World), (Instr.makeFunc fn first cap).run Try.prog w = .ok (.func fn first cap) w := fun _ _ _ _ => rfl
  go_enter_defers Try.func14, Try.ntmps14
  go_wp2
  simp [bodyPostD, Leaves, results, Try.results14, asAddr]
  simp [go_sem]
  exact (((Below.refl _ _).alloc (Nat.le_refl _) _).alloc (by simp) _).alloc (by simp; omega) _
end Go.Proofs.Ytkbjimbnbocfpaa
