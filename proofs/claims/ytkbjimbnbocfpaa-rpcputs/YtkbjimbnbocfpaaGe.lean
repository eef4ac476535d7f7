/-
  GetCall of a call that is taken. Its conditions: at most 65536 bytes.
-/
import Derived.Test.YtkbjimbnbocfpaaGd
namespace Go.Proofs.Ytkbjimbnbocfpaa
open Go.RowKit

set_option maxHeartbeats 800000 in
theorem laid14 (a b c : Nat) (w1 : World) (xid prog vers proc : Int) (unix : Bool) (st : Int) (m : ByteArray) (uid gid : Int) (vg : Value) (args : ByteArray) (hA : CAt w1 a 0 0 0 0 false 0 ⟨#[]⟩ 0 0 (.slice none 0 0) ⟨#[]⟩) (hb : w1.heap[b]? = some (.cells #[.string ⟨#[]⟩] 9 (0, 0))) (hc : w1.heap[c]? = some (.cells #[.int .i64 0] 35 (0, 0))) (hab : a ≠ b) (hac : a ≠ c) (hbc : b ≠ c) (W : World)
    (hW : W = (((((((((((((((((((((((((w1.setCell ⟨a, 0, none⟩ (.int .i64 0)).setCell ⟨a, 1, none⟩ (.int .i64 prog)).setCell ⟨a, 2, none⟩ (.int .i64 vers)).setCell ⟨a, 3, none⟩ (.int .i64 proc)).setCell ⟨a, 4, none⟩ (.bool unix)).setCell ⟨a, 5, none⟩ (.int .i64 st)).setCell ⟨a, 6, none⟩ (.string m)).setCell ⟨a, 7, none⟩ (.int .i64 uid)).setCell ⟨a, 8, none⟩ (.int .i64 gid)).setCell ⟨a, 9, none⟩ (vg)).setCell ⟨a, 10, none⟩ (.string args)).setCell ⟨a, 0, none⟩ (.int .i64 xid)).setCell ⟨a, 0, none⟩ (.int .i64 xid)).setCell ⟨a, 1, none⟩ (.int .i64 prog)).setCell ⟨a, 2, none⟩ (.int .i64 vers)).setCell ⟨a, 3, none⟩ (.int .i64 proc)).setCell ⟨a, 4, none⟩ (.bool unix)).setCell ⟨a, 5, none⟩ (.int .i64 st)).setCell ⟨a, 6, none⟩ (.string m)).setCell ⟨a, 7, none⟩ (.int .i64 uid)).setCell ⟨a, 8, none⟩ (.int .i64 gid)).setCell ⟨a, 9, none⟩ (vg)).setCell ⟨a, 10, none⟩ (.string args)).setCell ⟨b, 0, none⟩ (.string ⟨#[]⟩)).setCell ⟨c, 0, none⟩ (.int .i64 0))) :
    CAt W a xid prog vers proc unix st m uid gid vg args ∧ W.heap[b]? = some (.cells #[.string ⟨#[]⟩] 9 (0, 0)) ∧ W.heap[c]? = some (.cells #[.int .i64 0] 35 (0, 0)) ∧ W.os = w1.os ∧ W.tape = w1.tape ∧ W.output = w1.output ∧ w1.heap.size = W.heap.size ∧ ∀ k, k ≠ a → k ≠ b → k ≠ c → W.heap[k]? = w1.heap[k]? := by
  have o1 : Only a w1 (((((((((((((((((((((((w1.setCell ⟨a, 0, none⟩ (.int .i64 0)).setCell ⟨a, 1, none⟩ (.int .i64 prog)).setCell ⟨a, 2, none⟩ (.int .i64 vers)).setCell ⟨a, 3, none⟩ (.int .i64 proc)).setCell ⟨a, 4, none⟩ (.bool unix)).setCell ⟨a, 5, none⟩ (.int .i64 st)).setCell ⟨a, 6, none⟩ (.string m)).setCell ⟨a, 7, none⟩ (.int .i64 uid)).setCell ⟨a, 8, none⟩ (.int .i64 gid)).setCell ⟨a, 9, none⟩ (vg)).setCell ⟨a, 10, none⟩ (.string args)).setCell ⟨a, 0, none⟩ (.int .i64 xid)).setCell ⟨a, 0, none⟩ (.int .i64 xid)).setCell ⟨a, 1, none⟩ (.int .i64 prog)).setCell ⟨a, 2, none⟩ (.int .i64 vers)).setCell ⟨a, 3, none⟩ (.int .i64 proc)).setCell ⟨a, 4, none⟩ (.bool unix)).setCell ⟨a, 5, none⟩ (.int .i64 st)).setCell ⟨a, 6, none⟩ (.string m)).setCell ⟨a, 7, none⟩ (.int .i64 uid)).setCell ⟨a, 8, none⟩ (.int .i64 gid)).setCell ⟨a, 9, none⟩ (vg)).setCell ⟨a, 10, none⟩ (.string args)) := Only.set (Only.set (Only.set (Only.set (Only.set (Only.set (Only.set (Only.set (Only.set (Only.set (Only.set (Only.set ((((((((((((Only.refl _ _).set 0 _).set 1 _).set 2 _).set 3 _).set 4 _).set 5 _).set 6 _).set 7 _).set 8 _).set 9 _).set 10 _) 0 _) 0 _) 1 _) 2 _) 3 _) 4 _) 5 _) 6 _) 7 _) 8 _) 9 _) 10 _
  have h1 : CAt (((((((((((((((((((((((w1.setCell ⟨a, 0, none⟩ (.int .i64 0)).setCell ⟨a, 1, none⟩ (.int .i64 prog)).setCell ⟨a, 2, none⟩ (.int .i64 vers)).setCell ⟨a, 3, none⟩ (.int .i64 proc)).setCell ⟨a, 4, none⟩ (.bool unix)).setCell ⟨a, 5, none⟩ (.int .i64 st)).setCell ⟨a, 6, none⟩ (.string m)).setCell ⟨a, 7, none⟩ (.int .i64 uid)).setCell ⟨a, 8, none⟩ (.int .i64 gid)).setCell ⟨a, 9, none⟩ (vg)).setCell ⟨a, 10, none⟩ (.string args)).setCell ⟨a, 0, none⟩ (.int .i64 xid)).setCell ⟨a, 0, none⟩ (.int .i64 xid)).setCell ⟨a, 1, none⟩ (.int .i64 prog)).setCell ⟨a, 2, none⟩ (.int .i64 vers)).setCell ⟨a, 3, none⟩ (.int .i64 proc)).setCell ⟨a, 4, none⟩ (.bool unix)).setCell ⟨a, 5, none⟩ (.int .i64 st)).setCell ⟨a, 6, none⟩ (.string m)).setCell ⟨a, 7, none⟩ (.int .i64 uid)).setCell ⟨a, 8, none⟩ (.int .i64 gid)).setCell ⟨a, 9, none⟩ (vg)).setCell ⟨a, 10, none⟩ (.string args)) a xid prog vers proc unix st m uid gid vg args := ((((((((((((((((((((((((hA).s0 0).s1 prog).s2 vers).s3 proc).s4 unix).s5 st).s6 m).s7 uid).s8 gid).s9 vg).s10 args).s0 xid).s0 xid).s1 prog).s2 vers).s3 proc).s4 unix).s5 st).s6 m).s7 uid).s8 gid).s9 vg).s10 args)
  generalize (((((((((((((((((((((((w1.setCell ⟨a, 0, none⟩ (.int .i64 0)).setCell ⟨a, 1, none⟩ (.int .i64 prog)).setCell ⟨a, 2, none⟩ (.int .i64 vers)).setCell ⟨a, 3, none⟩ (.int .i64 proc)).setCell ⟨a, 4, none⟩ (.bool unix)).setCell ⟨a, 5, none⟩ (.int .i64 st)).setCell ⟨a, 6, none⟩ (.string m)).setCell ⟨a, 7, none⟩ (.int .i64 uid)).setCell ⟨a, 8, none⟩ (.int .i64 gid)).setCell ⟨a, 9, none⟩ (vg)).setCell ⟨a, 10, none⟩ (.string args)).setCell ⟨a, 0, none⟩ (.int .i64 xid)).setCell ⟨a, 0, none⟩ (.int .i64 xid)).setCell ⟨a, 1, none⟩ (.int .i64 prog)).setCell ⟨a, 2, none⟩ (.int .i64 vers)).setCell ⟨a, 3, none⟩ (.int .i64 proc)).setCell ⟨a, 4, none⟩ (.bool unix)).setCell ⟨a, 5, none⟩ (.int .i64 st)).setCell ⟨a, 6, none⟩ (.string m)).setCell ⟨a, 7, none⟩ (.int .i64 uid)).setCell ⟨a, 8, none⟩ (.int .i64 gid)).setCell ⟨a, 9, none⟩ (vg)).setCell ⟨a, 10, none⟩ (.string args)) = v at *
  have hb1 := (o1.block b hab.symm).trans hb
  have hc1 := (o1.block c hac.symm).trans hc
  have o2 : Only b v (v.setCell ⟨b, 0, none⟩ (.string ⟨#[]⟩)) := (Only.refl _ _).set 0 _
  have hb2 : (v.setCell ⟨b, 0, none⟩ (.string ⟨#[]⟩)).heap[b]? = some (.cells #[.string ⟨#[]⟩] 9 (0, 0)) := by rw [heap_set _ hb1]; rfl
  have h2 := h1.only o2 hab
  have hc2 := (o2.block c hbc.symm).trans hc1
  generalize v.setCell ⟨b, 0, none⟩ (.string ⟨#[]⟩) = u at *
  have o3 : Only c u W := by rw [hW]; exact (Only.refl _ _).set 0 _
  have hc3 : W.heap[c]? = some (.cells #[.int .i64 0] 35 (0, 0)) := by rw [hW, heap_set _ hc2]; rfl
  refine ⟨h2.only o3 hac, (o3.block b hbc).trans hb2, hc3, o3.os.trans (o2.os.trans o1.os), o3.tape.trans (o2.tape.trans o1.tape), o3.output.trans (o2.output.trans o1.output), ?_, fun k ha hb hc => (o3.block k hc).trans ((o2.block k hb).trans (o1.block k ha))⟩
  rw [o3.size, o2.size, o1.size]

set_option maxRecDepth 100000 in
set_option maxHeartbeats 1000000 in
/-- A call that takeCall takes. -/
theorem get_ok (s : ByteArray) (w : World) (hs : s.size ≤ 65536) (xid : Int) (l1 : List UInt8) (e1 : Int) (h1 : numR 4 s.data.toList 0 = (xid, l1, e1)) (l2 : List UInt8) (h2 : numR 4 l1 e1 = (0, l2, 0)) (hw : wellR l2 0 = true) (prog vers proc : Int) (unix : Bool) (st : Int) (m : ByteArray) (uid gid : Int) (G : List Int) (args : ByteArray)
    (ht : ∀ (p x : Nat) (wx : World), Rd wx p l2 0 → wx.cell? ⟨x, 0, none⟩ = some (.int .i64 xid) → x < wx.heap.size → x ≠ p → Calls Try.prog 35 #[.pointer (some ⟨p, 0, none⟩), .func (.func 32) #[] #[.pointer (some ⟨x, 0, none⟩)]] wx fun r w' => TkTo p prog vers proc unix st m uid gid G args wx r w') :
    Calls Try.prog 14 #[.string s] w fun r w' => ∃ vg, r = .returned (.tuple #[.agg #[.int .i64 xid, .int .i64 prog, .int .i64 vers, .int .i64 proc, .bool unix, .int .i64 st, .string m, .int .i64 uid, .int .i64 gid, vg, .string args], .string ⟨#[]⟩, .int .i64 0]) ∧ w'.ownsRow 0 3 1 vg G.length (ints G) ∧ Below w.heap.size w w' := by
  have hmf : ∀ (fn : Fn) (first cap : Array Value) (w : World), (Instr.makeFunc fn first cap).run Try.prog w = .ok (.func fn first cap) w := fun _ _ _ _ => rfl
  have H1 := Lib.hid h1
  have H2 := Lib.hid h2
  have HW := Lib.hid hw
  have HT := Lib.hid ht
  clear h1 h2 hw ht
  go_enter_defers Try.func14, Try.ntmps14
  go_wp2_with fail
  obtain ⟨g0, n0⟩ := G3.start w
  have HG0 := Lib.hid g0
  clear g0
  generalize (((w.alloc (.cells #[.int .i64 0, .int .i64 0, .int .i64 0, .int .i64 0, .bool false, .int .i64 0, .string ⟨#[]⟩, .int .i64 0, .int .i64 0, .slice none 0 0, .string ⟨#[]⟩] 30)).alloc (.cells #[.string ⟨#[]⟩] 9)).alloc (.cells #[.int .i64 0] 35)) = W0 at *
  refine (open_any s W0 (by unfold maxLen; omega)).mono ?_
  rintro r w1 ⟨rfl, hR1, hB1, n1⟩
  have HG1 := Lib.hid (HG0.out.grew hB1)
  obtain ⟨p, hp⟩ : ∃ p, p = W0.heap.size + 1 := ⟨_, rfl⟩
  rw [← hp] at hR1 ⊢
  have hpw : w.heap.size + 3 ≤ p := by omega
  have HR1 := Lib.hid hR1
  have hl : s.data.toList.length ≤ 65536 := by rw [Array.length_toList]; exact hs
  clear HG0 hB1 n1 hp hR1 n0
  go_wp2_with fail
  refine (ruint_n p _ 0 _ HR1.out (by omega) xid l1 e1 H1.out).mono ?_
  rintro r w2 ⟨rfl, hR2, hO2⟩
  have HR2 := Lib.hid hR2
  have HG2 := Lib.hid (HG1.out.only hO2 hpw)
  clear hR2 hO2 HR1 HG1
  go_wp2_with fail
  refine (ruint_n p l1 e1 w2 HR2.out (by have := numR_len H1.out; omega) 0 l2 0 H2.out).mono ?_
  rintro r w3 ⟨rfl, hR3, hO3⟩
  have HR3 := Lib.hid hR3
  have HG3 := Lib.hid (HG2.out.only hO3 hpw)
  clear hR3 hO3 HR2 HG2
  go_wp2_with fail
  refine (well_any p l2 0 _ (HR3.out.alloc _) true HW.out).mono ?_
  rintro r w' ⟨rfl, rfl⟩
  have hxc : (w3.alloc (.cells #[.int .i64 xid] 3)).cell? ⟨w3.heap.size, 0, none⟩ = some (.int .i64 xid) := by rw [cell_of_row _ _ 0 _ _ _ (heap_alloc_new w3 _)]; rfl
  have hxl : w3.heap.size < (w3.alloc (.cells #[.int .i64 xid] 3)).heap.size := by simp
  have hxp : w3.heap.size ≠ p := by have := HR3.out.lt; omega
  have HR4 := Lib.hid (HR3.out.alloc (.cells #[.int .i64 xid] 3))
  have hxg := HG3.out.lt
  have HG4 := Lib.hid (HG3.out.alloc (.cells #[.int .i64 xid] 3))
  clear HR3 HG3
  generalize w3.alloc (.cells #[.int .i64 xid] 3) = W4 at *
  generalize w3.heap.size = x at *
  go_wp2_with fail
  refine (HT.out p x W4 HR4.out hxc hxl hxp).mono ?_
  rintro r w5 ⟨vg, rfl, hO, hg, hF⟩
  obtain ⟨vo, va, vc, rfl⟩ := owned_slice hO
  have hG5 := HG4.out.fq hF hpw
  have hg2 : ∀ g, (Value.slice vo va vc).ownBlock = some g → w.heap.size + 3 ≤ g := fun g e => by have := hg g e; have := HG4.out.lt; omega
  have HG5 := Lib.hid hG5
  have HO := Lib.hid hO
  have HG := Lib.hid hg2
  obtain ⟨z0, z1, z2, z3, z4, z5, z6, z7, z8, z9, z10⟩ := hG5.a.all
  have y0 := hG5.a.free 0
  have y1 := hG5.a.free 1
  have y2 := hG5.a.free 2
  have y3 := hG5.a.free 3
  have y4 := hG5.a.free 4
  have y5 := hG5.a.free 5
  have y6 := hG5.a.free 6
  have y7 := hG5.a.free 7
  have y8 := hG5.a.free 8
  have y9 := hG5.a.free 9
  have y10 := hG5.a.free 10
  have bz := Lib.frozen_of_heap hG5.b 0
  have cz := Lib.frozen_of_heap hG5.c 0
  have bc : w5.cell? ⟨w.heap.size + 1, 0, none⟩ = some (.string ⟨#[]⟩) := by rw [cell_of_row _ _ 0 _ _ _ hG5.b]; rfl
  have cc : w5.cell? ⟨w.heap.size + 1 + 1, 0, none⟩ = some (.int .i64 0) := by rw [cell_of_row _ _ 0 _ _ _ hG5.c]; rfl
  have hx5 := hF.cell hxl hxp hxc
  have hxw : w.heap.size + 3 ≤ x := hxg
  clear hG5 hO hg hF HR4 HG4 hg2
  go_wp2
  have hQ := laid14 w.heap.size (w.heap.size + 1) (w.heap.size + 1 + 1) w5 xid prog vers proc unix st m uid gid (.slice vo va vc) args HG5.out.a HG5.out.b HG5.out.c (by omega) (by omega) (by omega) (((((((((((((((((((((((((w5.setCell ⟨w.heap.size, 0, none⟩ (.int .i64 0)).setCell ⟨w.heap.size, 1, none⟩ (.int .i64 prog)).setCell ⟨w.heap.size, 2, none⟩ (.int .i64 vers)).setCell ⟨w.heap.size, 3, none⟩ (.int .i64 proc)).setCell ⟨w.heap.size, 4, none⟩ (.bool unix)).setCell ⟨w.heap.size, 5, none⟩ (.int .i64 st)).setCell ⟨w.heap.size, 6, none⟩ (.string m)).setCell ⟨w.heap.size, 7, none⟩ (.int .i64 uid)).setCell ⟨w.heap.size, 8, none⟩ (.int .i64 gid)).setCell ⟨w.heap.size, 9, none⟩ (.slice vo va vc)).setCell ⟨w.heap.size, 10, none⟩ (.string args)).setCell ⟨w.heap.size, 0, none⟩ (.int .i64 xid)).setCell ⟨w.heap.size, 0, none⟩ (.int .i64 xid)).setCell ⟨w.heap.size, 1, none⟩ (.int .i64 prog)).setCell ⟨w.heap.size, 2, none⟩ (.int .i64 vers)).setCell ⟨w.heap.size, 3, none⟩ (.int .i64 proc)).setCell ⟨w.heap.size, 4, none⟩ (.bool unix)).setCell ⟨w.heap.size, 5, none⟩ (.int .i64 st)).setCell ⟨w.heap.size, 6, none⟩ (.string m)).setCell ⟨w.heap.size, 7, none⟩ (.int .i64 uid)).setCell ⟨w.heap.size, 8, none⟩ (.int .i64 gid)).setCell ⟨w.heap.size, 9, none⟩ (.slice vo va vc)).setCell ⟨w.heap.size, 10, none⟩ (.string args)).setCell ⟨w.heap.size + 1, 0, none⟩ (.string ⟨#[]⟩)).setCell ⟨w.heap.size + 1 + 1, 0, none⟩ (.int .i64 0)) rfl
  generalize (((((((((((((((((((((((((w5.setCell ⟨w.heap.size, 0, none⟩ (.int .i64 0)).setCell ⟨w.heap.size, 1, none⟩ (.int .i64 prog)).setCell ⟨w.heap.size, 2, none⟩ (.int .i64 vers)).setCell ⟨w.heap.size, 3, none⟩ (.int .i64 proc)).setCell ⟨w.heap.size, 4, none⟩ (.bool unix)).setCell ⟨w.heap.size, 5, none⟩ (.int .i64 st)).setCell ⟨w.heap.size, 6, none⟩ (.string m)).setCell ⟨w.heap.size, 7, none⟩ (.int .i64 uid)).setCell ⟨w.heap.size, 8, none⟩ (.int .i64 gid)).setCell ⟨w.heap.size, 9, none⟩ (.slice vo va vc)).setCell ⟨w.heap.size, 10, none⟩ (.string args)).setCell ⟨w.heap.size, 0, none⟩ (.int .i64 xid)).setCell ⟨w.heap.size, 0, none⟩ (.int .i64 xid)).setCell ⟨w.heap.size, 1, none⟩ (.int .i64 prog)).setCell ⟨w.heap.size, 2, none⟩ (.int .i64 vers)).setCell ⟨w.heap.size, 3, none⟩ (.int .i64 proc)).setCell ⟨w.heap.size, 4, none⟩ (.bool unix)).setCell ⟨w.heap.size, 5, none⟩ (.int .i64 st)).setCell ⟨w.heap.size, 6, none⟩ (.string m)).setCell ⟨w.heap.size, 7, none⟩ (.int .i64 uid)).setCell ⟨w.heap.size, 8, none⟩ (.int .i64 gid)).setCell ⟨w.heap.size, 9, none⟩ (.slice vo va vc)).setCell ⟨w.heap.size, 10, none⟩ (.string args)).setCell ⟨w.heap.size + 1, 0, none⟩ (.string ⟨#[]⟩)).setCell ⟨w.heap.size + 1 + 1, 0, none⟩ (.int .i64 0)) = W at hQ ⊢
  obtain ⟨k1, k2, k3, k4, k5, k6, k7, k8⟩ := hQ
  refine leaves_cons (f := 33) (args := #[.pointer (some ⟨w.heap.size, 0, none⟩), .pointer (some ⟨w.heap.size + 1, 0, none⟩), .pointer (some ⟨w.heap.size + 1 + 1, 0, none⟩)]) (by simp) (by simp [go_sem]) ?_
  refine (idle33 w.heap.size (w.heap.size + 1) (w.heap.size + 1 + 1) W).mono ?_
  rintro e u' w6 ⟨rfl, rfl, rfl⟩
  have hb6 : Below w.heap.size w w6 := ⟨k4.trans HG5.out.below.os, k5.trans HG5.out.below.tape, k6.trans HG5.out.below.output, Nat.le_trans HG5.out.below.size (Nat.le_of_eq k7), fun k hk => (k8 k (by omega) (by omega) (by omega)).trans (HG5.out.below.block k hk)⟩
  have ho6 : w6.ownsRow 0 3 1 (.slice vo va vc) G.length (ints G) := ownsRow_of HO.out fun g e => k8 g (by have := HG.out g e; omega) (by have := HG.out g e; omega) (by have := HG.out g e; omega)
  have hL := run_loadVar_row (P := Try.prog) w6 w.heap.size 30 30 _ (0, 0) _ k1 Try.underlying30 rfl (by kernel_rfl)
  have c1 : w6.cell? ⟨w.heap.size + 1, 0, none⟩ = some (.string ⟨#[]⟩) := by rw [cell_of_row _ _ 0 _ _ _ k2]; rfl
  have c2 : w6.cell? ⟨w.heap.size + 1 + 1, 0, none⟩ = some (.int .i64 0) := by rw [cell_of_row _ _ 0 _ _ _ k3]; rfl
  clear k1 k2 k3 k4 k5 k6 k7 k8
  simp [Leaves, settle, results, Try.results14, hL, asAddr]
  simp [go_sem, c1, c2]
  exact ⟨ho6, hb6⟩
end Go.Proofs.Ytkbjimbnbocfpaa
