/-
  GetCall. Its conditions: at most 65536 bytes.
-/
import Derived.Test.YtkbjimbnbocfpaaGc
namespace Go.Proofs.Ytkbjimbnbocfpaa
open Go.RowKit

/-- The three results, each in its block, and what lay before the call is as it was. -/
structure G3 (w wv : World) : Prop where
  a : CAt wv w.heap.size 0 0 0 0 false 0 ⟨#[]⟩ 0 0 (.slice none 0 0) ⟨#[]⟩
  b : wv.heap[w.heap.size + 1]? = some (.cells #[.string ⟨#[]⟩] 9 (0, 0))
  c : wv.heap[w.heap.size + 1 + 1]? = some (.cells #[.int .i64 0] 35 (0, 0))
  below : Below w.heap.size w wv
theorem G3.start (w : World) : G3 w (((w.alloc (.cells #[.int .i64 0, .int .i64 0, .int .i64 0, .int .i64 0, .bool false, .int .i64 0, .string ⟨#[]⟩, .int .i64 0, .int .i64 0, .slice none 0 0, .string ⟨#[]⟩] 30)).alloc (.cells #[.string ⟨#[]⟩] 9)).alloc (.cells #[.int .i64 0] 35)) ∧ (((w.alloc (.cells #[.int .i64 0, .int .i64 0, .int .i64 0, .int .i64 0, .bool false, .int .i64 0, .string ⟨#[]⟩, .int .i64 0, .int .i64 0, .slice none 0 0, .string ⟨#[]⟩] 30)).alloc (.cells #[.string ⟨#[]⟩] 9)).alloc (.cells #[.int .i64 0] 35)).heap.size = w.heap.size + 3 := by
  refine ⟨⟨?_, ?_, ?_, (((Below.refl _ _).alloc (Nat.le_refl _) _).alloc (by simp) _).alloc (by simp; omega) _⟩, by simp⟩
  · exact (heap_alloc_old _ _ (by simp; omega)).trans ((heap_alloc_old _ _ (by simp)).trans (heap_alloc_new w _))
  · have := heap_alloc_new (w.alloc (.cells #[.int .i64 0, .int .i64 0, .int .i64 0, .int .i64 0, .bool false, .int .i64 0, .string ⟨#[]⟩, .int .i64 0, .int .i64 0, .slice none 0 0, .string ⟨#[]⟩] 30)) (.cells #[.string ⟨#[]⟩] 9)
    rw [show (w.alloc (.cells #[.int .i64 0, .int .i64 0, .int .i64 0, .int .i64 0, .bool false, .int .i64 0, .string ⟨#[]⟩, .int .i64 0, .int .i64 0, .slice none 0 0, .string ⟨#[]⟩] 30)).heap.size = w.heap.size + 1 by simp] at this
    exact (heap_alloc_old _ _ (by simp)).trans this
  · have := heap_alloc_new ((w.alloc (.cells #[.int .i64 0, .int .i64 0, .int .i64 0, .int .i64 0, .bool false, .int .i64 0, .string ⟨#[]⟩, .int .i64 0, .int .i64 0, .slice none 0 0, .string ⟨#[]⟩] 30)).alloc (.cells #[.string ⟨#[]⟩] 9)) (.cells #[.int .i64 0] 35)
    rw [show ((w.alloc (.cells #[.int .i64 0, .int .i64 0, .int .i64 0, .int .i64 0, .bool false, .int .i64 0, .string ⟨#[]⟩, .int .i64 0, .int .i64 0, .slice none 0 0, .string ⟨#[]⟩] 30)).alloc (.cells #[.string ⟨#[]⟩] 9)).heap.size = w.heap.size + 1 + 1 by simp] at this
    exact this
theorem G3.only {w a b : World} {p : Nat} (h : G3 w a) (ho : Only p a b) (hp : w.heap.size + 3 ≤ p) : G3 w b :=
  ⟨h.a.only ho (by omega), (ho.block _ (by omega)).trans h.b, (ho.block _ (by omega)).trans h.c, ⟨ho.os.trans h.below.os, ho.tape.trans h.below.tape, ho.output.trans h.below.output, by rw [ho.size]; exact h.below.size, fun k hk => (ho.block k (by omega)).trans (h.below.block k hk)⟩⟩
theorem G3.lt {w a : World} (h : G3 w a) : w.heap.size + 3 ≤ a.heap.size := (Array.getElem?_eq_some_iff.mp h.c).1
theorem G3.fq {w a b : World} {p : Nat} (h : G3 w a) (ho : Fq p a b) (hp : w.heap.size + 3 ≤ p) : G3 w b := by
  have := h.lt
  exact ⟨(ho.block _ (by omega) (by omega)).trans h.a, (ho.block _ (by omega) (by omega)).trans h.b, (ho.block _ (by omega) (by omega)).trans h.c, ⟨ho.os.trans h.below.os, ho.tape.trans h.below.tape, ho.output.trans h.below.output, Nat.le_trans h.below.size ho.size, fun k hk => (ho.block k (by omega) (by omega)).trans (h.below.block k hk)⟩⟩
theorem G3.alloc {w a : World} (h : G3 w a) (o : Obj) : G3 w (a.alloc o) := h.fq (p := w.heap.size + 3) ((Fq.refl _ _).alloc o) (Nat.le_refl _)
theorem G3.grew {w a b : World} (h : G3 w a) (ho : Below a.heap.size a b) : G3 w b := h.fq (p := w.heap.size + 3) (Fq.ofBelow ho) (Nat.le_refl _)

set_option maxRecDepth 100000 in
set_option maxHeartbeats 1000000 in
/-- A call that takeCall refuses. -/
theorem get_thrown (s : ByteArray) (w : World) (hs : s.size ≤ 65536) (xid : Int) (l1 : List UInt8) (e1 : Int) (h1 : numR 4 s.data.toList 0 = (xid, l1, e1)) (l2 : List UInt8) (h2 : numR 4 l1 e1 = (0, l2, 0)) (hw : wellR l2 0 = true) (v lo hi : Int)
    (ht : ∀ (p x : Nat) (wx : World), Rd wx p l2 0 → wx.cell? ⟨x, 0, none⟩ = some (.int .i64 xid) → x < wx.heap.size → x ≠ p → Calls Try.prog 35 #[.pointer (some ⟨p, 0, none⟩), .func (.func 32) #[] #[.pointer (some ⟨x, 0, none⟩)]] wx fun r w' => r = Thrown xid v lo hi ∧ Fq p wx w') :
    Calls Try.prog 14 #[.string s] w fun r w' => r = .returned (.tuple #[.agg #[.int .i64 0, .int .i64 0, .int .i64 0, .int .i64 0, .bool false, .int .i64 0, .string ⟨#[]⟩, .int .i64 0, .int .i64 0, .slice none 0 0, .string ⟨#[]⟩], .string (Rp.mk xid v lo hi ⟨#[]⟩).bytes, .int .i64 62]) ∧ Below w.heap.size w w' := by
  have hmf : ∀ (fn : Fn) (first cap : Array Value) (w : World), (Instr.makeFunc fn first cap).run Try.prog w = .ok (.func fn first cap) w := fun _ _ _ _ => rfl
  have H1 := Lib.hid h1
  have H2 := Lib.hid h2
  have HW := Lib.hid hw
  have HT := Lib.hid ht
  obtain ⟨S, hS⟩ : ∃ S, (Rp.mk xid v lo hi ⟨#[]⟩).bytes = S := ⟨_, rfl⟩
  rw [hS]
  have HS := Lib.hid hS
  clear h1 h2 hw ht hS
  go_enter_defers Try.func14, Try.ntmps14
  go_wp2_with fail
  obtain ⟨g0, n0⟩ := G3.start w
  have HG0 := Lib.hid g0
  clear g0
  generalize (((w.alloc (.cells #[.int .i64 0, .int .i64 0, .int .i64 0, .int .i64 0, .bool false, .int .i64 0, .string ⟨#[]⟩, .int .i64 0, .int .i64 0, .slice none 0 0, .string ⟨#[]⟩] 30)).alloc (.cells #[.string ⟨#[]⟩] 9)).alloc (.cells #[.int .i64 0] 35)) = W0 at *
  refine (open_any s W0 (by unfold maxLen; omega)).mono ?_
  rintro r w1 ⟨rfl, hR1, hB1, n1⟩
  have HG1 := Lib.hid (HG0.out.grew hB1)
  obtain ⟨p, hp⟩ : ∃ p, p = W0.heap.size + 1 := ⟨_, rfl⟩
  rw [← hp] at hR1 ⊢
  have hpw : w.heap.size + 3 ≤ p := by omega
  have HR1 := Lib.hid hR1
  have hl : s.data.toList.length ≤ 65536 := by rw [Array.length_toList]; exact hs
  clear HG0 hB1 n1 hp hR1 n0
  go_wp2_with fail
  refine (ruint_n p _ 0 _ HR1.out (by omega) xid l1 e1 H1.out).mono ?_
  rintro r w2 ⟨rfl, hR2, hO2⟩
  have HR2 := Lib.hid hR2
  have HG2 := Lib.hid (HG1.out.only hO2 hpw)
  clear hR2 hO2 HR1 HG1
  go_wp2_with fail
  refine (ruint_n p l1 e1 w2 HR2.out (by have := numR_len H1.out; omega) 0 l2 0 H2.out).mono ?_
  rintro r w3 ⟨rfl, hR3, hO3⟩
  have HR3 := Lib.hid hR3
  have HG3 := Lib.hid (HG2.out.only hO3 hpw)
  clear hR3 hO3 HR2 HG2
  go_wp2_with fail
  refine (well_any p l2 0 _ (HR3.out.alloc _) true HW.out).mono ?_
  rintro r w' ⟨rfl, rfl⟩
  have hxc : (w3.alloc (.cells #[.int .i64 xid] 3)).cell? ⟨w3.heap.size, 0, none⟩ = some (.int .i64 xid) := by rw [cell_of_row _ _ 0 _ _ _ (heap_alloc_new w3 _)]; rfl
  have hxl : w3.heap.size < (w3.alloc (.cells #[.int .i64 xid] 3)).heap.size := by simp
  have hxp : w3.heap.size ≠ p := by have := HR3.out.lt; omega
  have HR4 := Lib.hid (HR3.out.alloc (.cells #[.int .i64 xid] 3))
  have HG4 := Lib.hid (HG3.out.alloc (.cells #[.int .i64 xid] 3))
  clear HR3 HG3
  generalize w3.alloc (.cells #[.int .i64 xid] 3) = W4 at *
  generalize w3.heap.size = x at *
  go_wp2_with fail
  refine (HT.out p x W4 HR4.out hxc hxl hxp).mono ?_
  rintro r w5 ⟨rfl, hF⟩
  have HG5 := Lib.hid (HG4.out.fq hF hpw)
  clear hF HR4 HG4 hxc
  go_wp2
  refine leaves_cons (f := 33) (args := #[.pointer (some ⟨w.heap.size, 0, none⟩), .pointer (some ⟨w.heap.size + 1, 0, none⟩), .pointer (some ⟨w.heap.size + 1 + 1, 0, none⟩)]) (by simp) (by simp [go_sem]) ?_
  refine (catch33 w.heap.size (w.heap.size + 1) (w.heap.size + 1 + 1) xid v lo hi w5 HG5.out.a HG5.out.b HG5.out.c).mono ?_
  rintro e u' w6 ⟨rfl, rfl, k1, k2, k3, k4, k5, k6, k7, k8⟩
  rw [HS.out] at k2
  have hb6 : Below w.heap.size w w6 := ⟨k4.trans HG5.out.below.os, k5.trans HG5.out.below.tape, k6.trans HG5.out.below.output, Nat.le_trans HG5.out.below.size k7, fun k hk => (k8 k (by have := HG5.out.lt; omega) (by omega) (by omega) (by omega)).trans (HG5.out.below.block k hk)⟩
  have hL := run_loadVar_row (P := Try.prog) w6 w.heap.size 30 30 _ (0, 0) _ k1 Try.underlying30 rfl (by kernel_rfl)
  have c1 : w6.cell? ⟨w.heap.size + 1, 0, none⟩ = some (.string S) := by rw [cell_of_row _ _ 0 _ _ _ k2]; rfl
  have c2 : w6.cell? ⟨w.heap.size + 1 + 1, 0, none⟩ = some (.int .i64 62) := by rw [cell_of_row _ _ 0 _ _ _ k3]; rfl
  clear k1 k2 k3 k4 k5 k6 k7 k8
  generalize w.heap.size = A at *
  simp [Leaves, settle, results, Try.results14, hL, hb6, asAddr]
  simp [go_sem, c1, c2]
end Go.Proofs.Ytkbjimbnbocfpaa
