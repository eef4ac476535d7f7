/-
  takeCall behind a whole head: the credentials that are refused. Its conditions: a reader of at most 65536 bytes.
-/
import Derived.Test.YtkbjimbnbocfpaaTk
namespace Go.Proofs.Ytkbjimbnbocfpaa
open Go.RowKit

set_option maxRecDepth 100000 in
set_option maxHeartbeats 1000000 in
/-- The credential can't be taken. -/
theorem take_short (p x : Nat) (xid : Int) (l : List UInt8) (w : World) (hR : Rd w p l 0) (hl : l.length ≤ 65536) (hc : w.cell? ⟨x, 0, none⟩ = some (.int .i64 xid)) (hx : x < w.heap.size) (hxp : x ≠ p)
    (l1 : List UInt8) (e1 : Int) (h1 : numR 4 l 0 = (2, l1, e1)) (prog : Int) (l2 : List UInt8) (e2 : Int) (h2 : numR 4 l1 e1 = (prog, l2, e2)) (vers : Int) (l3 : List UInt8) (e3 : Int) (h3 : numR 4 l2 e2 = (vers, l3, e3)) (proc : Int) (l4 : List UInt8) (e4 : Int) (h4 : numR 4 l3 e3 = (proc, l4, e4))
    (hw : wellR l4 e4 = true) (fl : Int) (l5 : List UInt8) (e5 : Int) (h5 : numR 4 l4 e4 = (fl, l5, e5)) (body : ByteArray) (l6 : List UInt8) (e6 : Int) (h6 : opqR 400 l5 e5 = (body, l6, e6))
    (hw6 : wellR l6 e6 = false) :
    Calls Try.prog 35 #[.pointer (some ⟨p, 0, none⟩), .func (.func 32) #[] #[.pointer (some ⟨x, 0, none⟩)]] w fun r w' => r = Thrown xid 7 1 0 ∧ Fq p w w' := by
  have HW6 := Lib.hid hw6
  clear hw6
  have n1 := numR_len h1
  have n2 := numR_len h2
  have n3 := numR_len h3
  have n4 := numR_len h4
  have n5 := numR_len h5
  have n6 := opqR_len h6
  have H1 := Lib.hid h1
  have H2 := Lib.hid h2
  have H3 := Lib.hid h3
  have H4 := Lib.hid h4
  have H5 := Lib.hid h5
  have H6 := Lib.hid h6
  have HW := Lib.hid hw
  have HR := Lib.hid hR
  have HC := Lib.hid hc
  clear h1 h2 h3 h4 h5 h6 hR hc hw
  go_enter Try.func35, Try.ntmps35
  go_wp2_with fail
  refine (ruint_n p l 0 _ (HR.out.alloc _) (by omega) 2 l1 e1 H1.out).mono ?_
  rintro r w1 ⟨rfl, hR1, hO1⟩
  have HF1 := Lib.hid (((Fq.refl p w).alloc (.cells #[.int .i64 0, .int .i64 0, .int .i64 0, .int .i64 0, .bool false, .int .i64 0, .string ⟨#[]⟩, .int .i64 0, .int .i64 0, .slice none 0 0, .string ⟨#[]⟩] 30)).trans (Fq.ofOnly hO1))
  have HR1 := Lib.hid hR1
  clear hR1 hO1
  go_wp2_with fail
  refine (ruint_n p l1 e1 w1 HR1.out (by omega) prog l2 e2 H2.out).mono ?_
  rintro r w2 ⟨rfl, hR2, hO2⟩
  have HF2 := Lib.hid (HF1.out.trans (Fq.ofOnly hO2))
  have HR2 := Lib.hid hR2
  clear hR2 hO2
  go_wp2_with fail
  refine (ruint_n p l2 e2 w2 HR2.out (by omega) vers l3 e3 H3.out).mono ?_
  rintro r w3 ⟨rfl, hR3, hO3⟩
  have HF3 := Lib.hid (HF2.out.trans (Fq.ofOnly hO3))
  have HR3 := Lib.hid hR3
  clear hR3 hO3
  go_wp2_with fail
  refine (ruint_n p l3 e3 w3 HR3.out (by omega) proc l4 e4 H4.out).mono ?_
  rintro r w4 ⟨rfl, hR4, hO4⟩
  have HF4 := Lib.hid (HF3.out.trans (Fq.ofOnly hO4))
  have HR4 := Lib.hid hR4
  clear hR4 hO4
  go_wp2_with fail
  refine (well_any p l4 e4 _ (HR4.out.alloc _) true HW.out).mono ?_
  rintro r w' ⟨rfl, rfl⟩
  have HF5 := Lib.hid (HF4.out.alloc (.cells #[.int .i64 0, .int .i64 prog, .int .i64 vers, .int .i64 proc, .bool false, .int .i64 0, .string ⟨#[]⟩, .int .i64 0, .int .i64 0, .slice none 0 0, .string ⟨#[]⟩] 30))
  have hC5 : CAt (w4.alloc (.cells #[.int .i64 0, .int .i64 prog, .int .i64 vers, .int .i64 proc, .bool false, .int .i64 0, .string ⟨#[]⟩, .int .i64 0, .int .i64 0, .slice none 0 0, .string ⟨#[]⟩] 30)) w4.heap.size 0 prog vers proc false 0 ⟨#[]⟩ 0 0 (.slice none 0 0) ⟨#[]⟩ := heap_alloc_new w4 _
  have HR5 := Lib.hid (HR4.out.alloc (.cells #[.int .i64 0, .int .i64 prog, .int .i64 vers, .int .i64 proc, .bool false, .int .i64 0, .string ⟨#[]⟩, .int .i64 0, .int .i64 0, .slice none 0 0, .string ⟨#[]⟩] 30))
  obtain ⟨B, hB⟩ : ∃ B, B = w4.heap.size := ⟨_, rfl⟩
  rw [← hB] at hC5 ⊢
  have hBp : B ≠ p := by have := HR4.out.lt; omega
  have hBw : w.heap.size ≤ B := by have := HF4.out.size; omega
  have HC5 := Lib.hid hC5
  clear hC5 hB HR4 HF4
  generalize w4.alloc (.cells #[.int .i64 0, .int .i64 prog, .int .i64 vers, .int .i64 proc, .bool false, .int .i64 0, .string ⟨#[]⟩, .int .i64 0, .int .i64 0, .slice none 0 0, .string ⟨#[]⟩] 30) = W5 at *
  go_wp2_with fail
  refine (ruint_n p l4 e4 W5 HR5.out (by omega) fl l5 e5 H5.out).mono ?_
  rintro r w6 ⟨rfl, hR6, hO6⟩
  have HR6 := Lib.hid hR6
  have HC6 := Lib.hid (HC5.out.only hO6 hBp)
  have HF6 := Lib.hid (HF5.out.trans (Fq.ofOnly hO6))
  clear hR6 hO6 HR5 HC5 HF5
  go_wp2_with fail
  refine (ropaque_n p l5 e5 400 w6 HR6.out (by omega) body l6 e6 H6.out).mono ?_
  rintro r w7 ⟨rfl, hR7, hO7⟩
  have HR7 := Lib.hid hR7
  have HC7 := Lib.hid (HC6.out.only hO7 hBp)
  have HF7 := Lib.hid (HF6.out.trans (Fq.ofOnly hO7))
  have hc7 := HF7.out.cell hx hxp HC.out
  clear hR7 hO7 HR6 HC6 HF6
  go_wp2_with fail
  refine (well_any p l6 e6 w7 HR7.out false HW6.out).mono ?_
  rintro r w' ⟨rfl, rfl⟩
  go_wp2_with fail
  refine (refuse32 x xid 7 1 0 w7 hc7).mono ?_
  rintro r w' ⟨rfl, rfl⟩
  go_wp2
  exact ⟨rfl, rfl, HF7.out⟩

set_option maxRecDepth 100000 in
set_option maxHeartbeats 1000000 in
/-- A credential of another kind. -/
theorem take_weak (p x : Nat) (xid : Int) (l : List UInt8) (w : World) (hR : Rd w p l 0) (hl : l.length ≤ 65536) (hc : w.cell? ⟨x, 0, none⟩ = some (.int .i64 xid)) (hx : x < w.heap.size) (hxp : x ≠ p)
    (l1 : List UInt8) (e1 : Int) (h1 : numR 4 l 0 = (2, l1, e1)) (prog : Int) (l2 : List UInt8) (e2 : Int) (h2 : numR 4 l1 e1 = (prog, l2, e2)) (vers : Int) (l3 : List UInt8) (e3 : Int) (h3 : numR 4 l2 e2 = (vers, l3, e3)) (proc : Int) (l4 : List UInt8) (e4 : Int) (h4 : numR 4 l3 e3 = (proc, l4, e4))
    (hw : wellR l4 e4 = true) (fl : Int) (l5 : List UInt8) (e5 : Int) (h5 : numR 4 l4 e4 = (fl, l5, e5)) (body : ByteArray) (l6 : List UInt8) (e6 : Int) (h6 : opqR 400 l5 e5 = (body, l6, e6))
    (hw6 : wellR l6 e6 = true) (hf : 1 < fl) :
    Calls Try.prog 35 #[.pointer (some ⟨p, 0, none⟩), .func (.func 32) #[] #[.pointer (some ⟨x, 0, none⟩)]] w fun r w' => r = Thrown xid 7 5 0 ∧ Fq p w w' := by
  have HW6 := Lib.hid hw6
  clear hw6
  have n1 := numR_len h1
  have n2 := numR_len h2
  have n3 := numR_len h3
  have n4 := numR_len h4
  have n5 := numR_len h5
  have n6 := opqR_len h6
  have H1 := Lib.hid h1
  have H2 := Lib.hid h2
  have H3 := Lib.hid h3
  have H4 := Lib.hid h4
  have H5 := Lib.hid h5
  have H6 := Lib.hid h6
  have HW := Lib.hid hw
  have HR := Lib.hid hR
  have HC := Lib.hid hc
  clear h1 h2 h3 h4 h5 h6 hR hc hw
  go_enter Try.func35, Try.ntmps35
  go_wp2_with fail
  refine (ruint_n p l 0 _ (HR.out.alloc _) (by omega) 2 l1 e1 H1.out).mono ?_
  rintro r w1 ⟨rfl, hR1, hO1⟩
  have HF1 := Lib.hid (((Fq.refl p w).alloc (.cells #[.int .i64 0, .int .i64 0, .int .i64 0, .int .i64 0, .bool false, .int .i64 0, .string ⟨#[]⟩, .int .i64 0, .int .i64 0, .slice none 0 0, .string ⟨#[]⟩] 30)).trans (Fq.ofOnly hO1))
  have HR1 := Lib.hid hR1
  clear hR1 hO1
  go_wp2_with fail
  refine (ruint_n p l1 e1 w1 HR1.out (by omega) prog l2 e2 H2.out).mono ?_
  rintro r w2 ⟨rfl, hR2, hO2⟩
  have HF2 := Lib.hid (HF1.out.trans (Fq.ofOnly hO2))
  have HR2 := Lib.hid hR2
  clear hR2 hO2
  go_wp2_with fail
  refine (ruint_n p l2 e2 w2 HR2.out (by omega) vers l3 e3 H3.out).mono ?_
  rintro r w3 ⟨rfl, hR3, hO3⟩
  have HF3 := Lib.hid (HF2.out.trans (Fq.ofOnly hO3))
  have HR3 := Lib.hid hR3
  clear hR3 hO3
  go_wp2_with fail
  refine (ruint_n p l3 e3 w3 HR3.out (by omega) proc l4 e4 H4.out).mono ?_
  rintro r w4 ⟨rfl, hR4, hO4⟩
  have HF4 := Lib.hid (HF3.out.trans (Fq.ofOnly hO4))
  have HR4 := Lib.hid hR4
  clear hR4 hO4
  go_wp2_with fail
  refine (well_any p l4 e4 _ (HR4.out.alloc _) true HW.out).mono ?_
  rintro r w' ⟨rfl, rfl⟩
  have HF5 := Lib.hid (HF4.out.alloc (.cells #[.int .i64 0, .int .i64 prog, .int .i64 vers, .int .i64 proc, .bool false, .int .i64 0, .string ⟨#[]⟩, .int .i64 0, .int .i64 0, .slice none 0 0, .string ⟨#[]⟩] 30))
  have hC5 : CAt (w4.alloc (.cells #[.int .i64 0, .int .i64 prog, .int .i64 vers, .int .i64 proc, .bool false, .int .i64 0, .string ⟨#[]⟩, .int .i64 0, .int .i64 0, .slice none 0 0, .string ⟨#[]⟩] 30)) w4.heap.size 0 prog vers proc false 0 ⟨#[]⟩ 0 0 (.slice none 0 0) ⟨#[]⟩ := heap_alloc_new w4 _
  have HR5 := Lib.hid (HR4.out.alloc (.cells #[.int .i64 0, .int .i64 prog, .int .i64 vers, .int .i64 proc, .bool false, .int .i64 0, .string ⟨#[]⟩, .int .i64 0, .int .i64 0, .slice none 0 0, .string ⟨#[]⟩] 30))
  obtain ⟨B, hB⟩ : ∃ B, B = w4.heap.size := ⟨_, rfl⟩
  rw [← hB] at hC5 ⊢
  have hBp : B ≠ p := by have := HR4.out.lt; omega
  have hBw : w.heap.size ≤ B := by have := HF4.out.size; omega
  have HC5 := Lib.hid hC5
  clear hC5 hB HR4 HF4
  generalize w4.alloc (.cells #[.int .i64 0, .int .i64 prog, .int .i64 vers, .int .i64 proc, .bool false, .int .i64 0, .string ⟨#[]⟩, .int .i64 0, .int .i64 0, .slice none 0 0, .string ⟨#[]⟩] 30) = W5 at *
  go_wp2_with fail
  refine (ruint_n p l4 e4 W5 HR5.out (by omega) fl l5 e5 H5.out).mono ?_
  rintro r w6 ⟨rfl, hR6, hO6⟩
  have HR6 := Lib.hid hR6
  have HC6 := Lib.hid (HC5.out.only hO6 hBp)
  have HF6 := Lib.hid (HF5.out.trans (Fq.ofOnly hO6))
  clear hR6 hO6 HR5 HC5 HF5
  go_wp2_with fail
  refine (ropaque_n p l5 e5 400 w6 HR6.out (by omega) body l6 e6 H6.out).mono ?_
  rintro r w7 ⟨rfl, hR7, hO7⟩
  have HR7 := Lib.hid hR7
  have HC7 := Lib.hid (HC6.out.only hO7 hBp)
  have HF7 := Lib.hid (HF6.out.trans (Fq.ofOnly hO7))
  have hc7 := HF7.out.cell hx hxp HC.out
  clear hR7 hO7 HR6 HC6 HF6
  go_wp2_with fail
  refine (well_any p l6 e6 w7 HR7.out true HW6.out).mono ?_
  rintro r w' ⟨rfl, rfl⟩
  go_wp2_with fail
  refine (refuse32 x xid 7 5 0 w7 hc7).mono ?_
  rintro r w' ⟨rfl, rfl⟩
  go_wp2
  exact ⟨rfl, rfl, HF7.out⟩

set_option maxRecDepth 100000 in
set_option maxHeartbeats 1000000 in
/-- AUTH_NONE with bytes. -/
theorem take_full (p x : Nat) (xid : Int) (l : List UInt8) (w : World) (hR : Rd w p l 0) (hl : l.length ≤ 65536) (hc : w.cell? ⟨x, 0, none⟩ = some (.int .i64 xid)) (hx : x < w.heap.size) (hxp : x ≠ p)
    (l1 : List UInt8) (e1 : Int) (h1 : numR 4 l 0 = (2, l1, e1)) (prog : Int) (l2 : List UInt8) (e2 : Int) (h2 : numR 4 l1 e1 = (prog, l2, e2)) (vers : Int) (l3 : List UInt8) (e3 : Int) (h3 : numR 4 l2 e2 = (vers, l3, e3)) (proc : Int) (l4 : List UInt8) (e4 : Int) (h4 : numR 4 l3 e3 = (proc, l4, e4))
    (hw : wellR l4 e4 = true) (fl : Int) (l5 : List UInt8) (e5 : Int) (h5 : numR 4 l4 e4 = (fl, l5, e5)) (body : ByteArray) (l6 : List UInt8) (e6 : Int) (h6 : opqR 400 l5 e5 = (body, l6, e6))
    (hw6 : wellR l6 e6 = true) (hf : fl = 0) (hb : (body.toList.isEmpty) = false) :
    Calls Try.prog 35 #[.pointer (some ⟨p, 0, none⟩), .func (.func 32) #[] #[.pointer (some ⟨x, 0, none⟩)]] w fun r w' => r = Thrown xid 7 1 0 ∧ Fq p w w' := by
  have HW6 := Lib.hid hw6
  have f0 : (fl == 0) = true := by simp [hf]
  have f1 : (fl == 1) = false := by simp [hf]
  have f2 : ¬ 1 < fl := by omega
  have hb2 : (!body.toList.isEmpty) = true := by rw [hb]; rfl
  clear hw6 hf
  have n1 := numR_len h1
  have n2 := numR_len h2
  have n3 := numR_len h3
  have n4 := numR_len h4
  have n5 := numR_len h5
  have n6 := opqR_len h6
  have H1 := Lib.hid h1
  have H2 := Lib.hid h2
  have H3 := Lib.hid h3
  have H4 := Lib.hid h4
  have H5 := Lib.hid h5
  have H6 := Lib.hid h6
  have HW := Lib.hid hw
  have HR := Lib.hid hR
  have HC := Lib.hid hc
  clear h1 h2 h3 h4 h5 h6 hR hc hw
  go_enter Try.func35, Try.ntmps35
  go_wp2_with fail
  refine (ruint_n p l 0 _ (HR.out.alloc _) (by omega) 2 l1 e1 H1.out).mono ?_
  rintro r w1 ⟨rfl, hR1, hO1⟩
  have HF1 := Lib.hid (((Fq.refl p w).alloc (.cells #[.int .i64 0, .int .i64 0, .int .i64 0, .int .i64 0, .bool false, .int .i64 0, .string ⟨#[]⟩, .int .i64 0, .int .i64 0, .slice none 0 0, .string ⟨#[]⟩] 30)).trans (Fq.ofOnly hO1))
  have HR1 := Lib.hid hR1
  clear hR1 hO1
  go_wp2_with fail
  refine (ruint_n p l1 e1 w1 HR1.out (by omega) prog l2 e2 H2.out).mono ?_
  rintro r w2 ⟨rfl, hR2, hO2⟩
  have HF2 := Lib.hid (HF1.out.trans (Fq.ofOnly hO2))
  have HR2 := Lib.hid hR2
  clear hR2 hO2
  go_wp2_with fail
  refine (ruint_n p l2 e2 w2 HR2.out (by omega) vers l3 e3 H3.out).mono ?_
  rintro r w3 ⟨rfl, hR3, hO3⟩
  have HF3 := Lib.hid (HF2.out.trans (Fq.ofOnly hO3))
  have HR3 := Lib.hid hR3
  clear hR3 hO3
  go_wp2_with fail
  refine (ruint_n p l3 e3 w3 HR3.out (by omega) proc l4 e4 H4.out).mono ?_
  rintro r w4 ⟨rfl, hR4, hO4⟩
  have HF4 := Lib.hid (HF3.out.trans (Fq.ofOnly hO4))
  have HR4 := Lib.hid hR4
  clear hR4 hO4
  go_wp2_with fail
  refine (well_any p l4 e4 _ (HR4.out.alloc _) true HW.out).mono ?_
  rintro r w' ⟨rfl, rfl⟩
  have HF5 := Lib.hid (HF4.out.alloc (.cells #[.int .i64 0, .int .i64 prog, .int .i64 vers, .int .i64 proc, .bool false, .int .i64 0, .string ⟨#[]⟩, .int .i64 0, .int .i64 0, .slice none 0 0, .string ⟨#[]⟩] 30))
  have hC5 : CAt (w4.alloc (.cells #[.int .i64 0, .int .i64 prog, .int .i64 vers, .int .i64 proc, .bool false, .int .i64 0, .string ⟨#[]⟩, .int .i64 0, .int .i64 0, .slice none 0 0, .string ⟨#[]⟩] 30)) w4.heap.size 0 prog vers proc false 0 ⟨#[]⟩ 0 0 (.slice none 0 0) ⟨#[]⟩ := heap_alloc_new w4 _
  have HR5 := Lib.hid (HR4.out.alloc (.cells #[.int .i64 0, .int .i64 prog, .int .i64 vers, .int .i64 proc, .bool false, .int .i64 0, .string ⟨#[]⟩, .int .i64 0, .int .i64 0, .slice none 0 0, .string ⟨#[]⟩] 30))
  obtain ⟨B, hB⟩ : ∃ B, B = w4.heap.size := ⟨_, rfl⟩
  rw [← hB] at hC5 ⊢
  have hBp : B ≠ p := by have := HR4.out.lt; omega
  have hBw : w.heap.size ≤ B := by have := HF4.out.size; omega
  have HC5 := Lib.hid hC5
  clear hC5 hB HR4 HF4
  generalize w4.alloc (.cells #[.int .i64 0, .int .i64 prog, .int .i64 vers, .int .i64 proc, .bool false, .int .i64 0, .string ⟨#[]⟩, .int .i64 0, .int .i64 0, .slice none 0 0, .string ⟨#[]⟩] 30) = W5 at *
  go_wp2_with fail
  refine (ruint_n p l4 e4 W5 HR5.out (by omega) fl l5 e5 H5.out).mono ?_
  rintro r w6 ⟨rfl, hR6, hO6⟩
  have HR6 := Lib.hid hR6
  have HC6 := Lib.hid (HC5.out.only hO6 hBp)
  have HF6 := Lib.hid (HF5.out.trans (Fq.ofOnly hO6))
  clear hR6 hO6 HR5 HC5 HF5
  go_wp2_with fail
  refine (ropaque_n p l5 e5 400 w6 HR6.out (by omega) body l6 e6 H6.out).mono ?_
  rintro r w7 ⟨rfl, hR7, hO7⟩
  have HR7 := Lib.hid hR7
  have HC7 := Lib.hid (HC6.out.only hO7 hBp)
  have HF7 := Lib.hid (HF6.out.trans (Fq.ofOnly hO7))
  have hc7 := HF7.out.cell hx hxp HC.out
  clear hR7 hO7 HR6 HC6 HF6
  go_wp2_with fail
  refine (well_any p l6 e6 w7 HR7.out true HW6.out).mono ?_
  rintro r w' ⟨rfl, rfl⟩
  go_wp2_with fail
  refine (refuse32 x xid 7 1 0 w7 hc7).mono ?_
  rintro r w' ⟨rfl, rfl⟩
  go_wp2
  exact ⟨rfl, rfl, HF7.out⟩

end Go.Proofs.Ytkbjimbnbocfpaa
