/-
  takeCall behind a plain credential: the verifier and the arguments. Its conditions: a reader of at most 65536 bytes.
-/
import Derived.Test.YtkbjimbnbocfpaaTc
namespace Go.Proofs.Ytkbjimbnbocfpaa
open Go.RowKit

theorem CAt.all {w : World} {q : Nat} {a b c d : Int} {u : Bool} {st : Int} {m : ByteArray} {uid gid : Int} {vg : Value} {args : ByteArray} (h : CAt w q a b c d u st m uid gid vg args) :
    w.cell? ⟨q, 0, none⟩ = some (.int .i64 a) ∧ w.cell? ⟨q, 1, none⟩ = some (.int .i64 b) ∧ w.cell? ⟨q, 2, none⟩ = some (.int .i64 c) ∧ w.cell? ⟨q, 3, none⟩ = some (.int .i64 d) ∧ w.cell? ⟨q, 4, none⟩ = some (.bool u) ∧ w.cell? ⟨q, 5, none⟩ = some (.int .i64 st) ∧ w.cell? ⟨q, 6, none⟩ = some (.string m) ∧ w.cell? ⟨q, 7, none⟩ = some (.int .i64 uid) ∧ w.cell? ⟨q, 8, none⟩ = some (.int .i64 gid) ∧ w.cell? ⟨q, 9, none⟩ = some vg ∧ w.cell? ⟨q, 10, none⟩ = some (.string args) := by
  have hh : w.heap[q]? = _ := h
  refine ⟨?_, ?_, ?_, ?_, ?_, ?_, ?_, ?_, ?_, ?_, ?_⟩ <;> (rw [cell_of_row w q _ _ _ _ hh]; rfl)

theorem CAt.s0 {w : World} {q : Nat} {a b c d : Int} {u : Bool} {st : Int} {m : ByteArray} {uid gid : Int} {vg : Value} {args : ByteArray} (h : CAt w q a b c d u st m uid gid vg args) (x : Int) : CAt (w.setCell ⟨q, 0, none⟩ (.int .i64 x)) q x b c d u st m uid gid vg args := by
  unfold CAt; rw [heap_set _ h]; rfl
theorem CAt.s1 {w : World} {q : Nat} {a b c d : Int} {u : Bool} {st : Int} {m : ByteArray} {uid gid : Int} {vg : Value} {args : ByteArray} (h : CAt w q a b c d u st m uid gid vg args) (x : Int) : CAt (w.setCell ⟨q, 1, none⟩ (.int .i64 x)) q a x c d u st m uid gid vg args := by
  unfold CAt; rw [heap_set _ h]; rfl
theorem CAt.s2 {w : World} {q : Nat} {a b c d : Int} {u : Bool} {st : Int} {m : ByteArray} {uid gid : Int} {vg : Value} {args : ByteArray} (h : CAt w q a b c d u st m uid gid vg args) (x : Int) : CAt (w.setCell ⟨q, 2, none⟩ (.int .i64 x)) q a b x d u st m uid gid vg args := by
  unfold CAt; rw [heap_set _ h]; rfl
theorem CAt.s3 {w : World} {q : Nat} {a b c d : Int} {u : Bool} {st : Int} {m : ByteArray} {uid gid : Int} {vg : Value} {args : ByteArray} (h : CAt w q a b c d u st m uid gid vg args) (x : Int) : CAt (w.setCell ⟨q, 3, none⟩ (.int .i64 x)) q a b c x u st m uid gid vg args := by
  unfold CAt; rw [heap_set _ h]; rfl
theorem CAt.s4 {w : World} {q : Nat} {a b c d : Int} {u : Bool} {st : Int} {m : ByteArray} {uid gid : Int} {vg : Value} {args : ByteArray} (h : CAt w q a b c d u st m uid gid vg args) (x : Bool) : CAt (w.setCell ⟨q, 4, none⟩ (.bool x)) q a b c d x st m uid gid vg args := by
  unfold CAt; rw [heap_set _ h]; rfl
theorem CAt.s5 {w : World} {q : Nat} {a b c d : Int} {u : Bool} {st : Int} {m : ByteArray} {uid gid : Int} {vg : Value} {args : ByteArray} (h : CAt w q a b c d u st m uid gid vg args) (x : Int) : CAt (w.setCell ⟨q, 5, none⟩ (.int .i64 x)) q a b c d u x m uid gid vg args := by
  unfold CAt; rw [heap_set _ h]; rfl
theorem CAt.s6 {w : World} {q : Nat} {a b c d : Int} {u : Bool} {st : Int} {m : ByteArray} {uid gid : Int} {vg : Value} {args : ByteArray} (h : CAt w q a b c d u st m uid gid vg args) (x : ByteArray) : CAt (w.setCell ⟨q, 6, none⟩ (.string x)) q a b c d u st x uid gid vg args := by
  unfold CAt; rw [heap_set _ h]; rfl
theorem CAt.s7 {w : World} {q : Nat} {a b c d : Int} {u : Bool} {st : Int} {m : ByteArray} {uid gid : Int} {vg : Value} {args : ByteArray} (h : CAt w q a b c d u st m uid gid vg args) (x : Int) : CAt (w.setCell ⟨q, 7, none⟩ (.int .i64 x)) q a b c d u st m x gid vg args := by
  unfold CAt; rw [heap_set _ h]; rfl
theorem CAt.s8 {w : World} {q : Nat} {a b c d : Int} {u : Bool} {st : Int} {m : ByteArray} {uid gid : Int} {vg : Value} {args : ByteArray} (h : CAt w q a b c d u st m uid gid vg args) (x : Int) : CAt (w.setCell ⟨q, 8, none⟩ (.int .i64 x)) q a b c d u st m uid x vg args := by
  unfold CAt; rw [heap_set _ h]; rfl
theorem CAt.s9 {w : World} {q : Nat} {a b c d : Int} {u : Bool} {st : Int} {m : ByteArray} {uid gid : Int} {vg : Value} {args : ByteArray} (h : CAt w q a b c d u st m uid gid vg args) (x : Value) : CAt (w.setCell ⟨q, 9, none⟩ x) q a b c d u st m uid gid x args := by
  unfold CAt; rw [heap_set _ h]; rfl
theorem CAt.s10 {w : World} {q : Nat} {a b c d : Int} {u : Bool} {st : Int} {m : ByteArray} {uid gid : Int} {vg : Value} {args : ByteArray} (h : CAt w q a b c d u st m uid gid vg args) (x : ByteArray) : CAt (w.setCell ⟨q, 10, none⟩ (.string x)) q a b c d u st m uid gid vg x := by
  unfold CAt; rw [heap_set _ h]; rfl

/-- The call's end: its arguments laid, and all of it laid over the result. -/
theorem lay11 (p Z B : Nat) (w v : World) (hF : Fq p w v) (hZw : w.heap.size ≤ Z) (hBw : w.heap.size ≤ B) (hZ : CAt v Z 0 0 0 0 false 0 ⟨#[]⟩ 0 0 (.slice none 0 0) ⟨#[]⟩) (hBZ : B ≠ Z)
    (a b c d : Int) (u : Bool) (st : Int) (m : ByteArray) (uid gid : Int) (vg : Value) (args : ByteArray) (W : World)
    (hW : W = (((((((((((v.setCell ⟨B, 10, none⟩ (.string args)).setCell ⟨Z, 0, none⟩ (.int .i64 a)).setCell ⟨Z, 1, none⟩ (.int .i64 b)).setCell ⟨Z, 2, none⟩ (.int .i64 c)).setCell ⟨Z, 3, none⟩ (.int .i64 d)).setCell ⟨Z, 4, none⟩ (.bool u)).setCell ⟨Z, 5, none⟩ (.int .i64 st)).setCell ⟨Z, 6, none⟩ (.string m)).setCell ⟨Z, 7, none⟩ (.int .i64 uid)).setCell ⟨Z, 8, none⟩ (.int .i64 gid)).setCell ⟨Z, 9, none⟩ vg).setCell ⟨Z, 10, none⟩ (.string args)) :
    CAt W Z a b c d u st m uid gid vg args ∧ Fq p w W ∧ ∀ k, k ≠ Z → k ≠ B → W.heap[k]? = v.heap[k]? := by
  have o1 : Only B v (v.setCell ⟨B, 10, none⟩ (.string args)) := (Only.refl _ _).set 10 _
  have h0 := hZ.only o1 (Ne.symm hBZ)
  have o2 : Only Z (v.setCell ⟨B, 10, none⟩ (.string args)) W := by
    rw [hW]
    exact (((((((((((Only.refl _ _).set 0 _).set 1 _).set 2 _).set 3 _).set 4 _).set 5 _).set 6 _).set 7 _).set 8 _).set 9 _).set 10 _
  refine ⟨?_, (hF.only o1 hBw).only o2 hZw, fun k hk hkB => (o2.block k hk).trans (o1.block k hkB)⟩
  rw [hW]
  exact (((((((((((h0.s0 a).s1 b).s2 c).s3 d).s4 u).s5 st).s6 m).s7 uid).s8 gid).s9 vg).s10 args)

set_option maxRecDepth 100000 in
set_option maxHeartbeats 1000000 in
/-- The verifier can't be taken. -/
theorem plain_v1 (p x : Nat) (xid : Int) (l : List UInt8) (w : World) (hR : Rd w p l 0) (hl : l.length ≤ 65536) (hc : w.cell? ⟨x, 0, none⟩ = some (.int .i64 xid)) (hx : x < w.heap.size) (hxp : x ≠ p)
    (l1 : List UInt8) (e1 : Int) (h1 : numR 4 l 0 = (2, l1, e1)) (prog : Int) (l2 : List UInt8) (e2 : Int) (h2 : numR 4 l1 e1 = (prog, l2, e2)) (vers : Int) (l3 : List UInt8) (e3 : Int) (h3 : numR 4 l2 e2 = (vers, l3, e3)) (proc : Int) (l4 : List UInt8) (e4 : Int) (h4 : numR 4 l3 e3 = (proc, l4, e4))
    (hw : wellR l4 e4 = true) (fl : Int) (l5 : List UInt8) (e5 : Int) (h5 : numR 4 l4 e4 = (fl, l5, e5)) (body : ByteArray) (l6 : List UInt8) (e6 : Int) (h6 : opqR 400 l5 e5 = (body, l6, e6))
    (hw6 : wellR l6 e6 = true) (hf : fl = 0) (hb : (body.toList.isEmpty) = true) (fl2 : Int) (l7 : List UInt8) (e7 : Int) (h7 : numR 4 l6 e6 = (fl2, l7, e7)) (b8 : ByteArray) (l8 : List UInt8) (e8 : Int) (h8 : opqR 0 l7 e7 = (b8, l8, e8))
    (hw8 : wellR l8 e8 = false) :
    Calls Try.prog 35 #[.pointer (some ⟨p, 0, none⟩), .func (.func 32) #[] #[.pointer (some ⟨x, 0, none⟩)]] w fun r w' => r = Thrown xid 7 3 0 ∧ Fq p w w' := by
  have HW6 := Lib.hid hw6
  have f0 : (fl == 0) = true := by simp [hf]
  have f1 : (fl == 1) = false := by simp [hf]
  have f2 : ¬ 1 < fl := by omega
  have hb2 : (!body.toList.isEmpty) = false := by rw [hb]; rfl
  have n7 := numR_len h7
  have n8 := opqR_len h8
  have H7 := Lib.hid h7
  have H8 := Lib.hid h8
  have HW8 := Lib.hid hw8
  clear hw8
  clear hw6 hf h7 h8
  have n1 := numR_len h1
  have n2 := numR_len h2
  have n3 := numR_len h3
  have n4 := numR_len h4
  have n5 := numR_len h5
  have n6 := opqR_len h6
  have H1 := Lib.hid h1
  have H2 := Lib.hid h2
  have H3 := Lib.hid h3
  have H4 := Lib.hid h4
  have H5 := Lib.hid h5
  have H6 := Lib.hid h6
  have HW := Lib.hid hw
  have HR := Lib.hid hR
  have HC := Lib.hid hc
  clear h1 h2 h3 h4 h5 h6 hR hc hw
  go_enter Try.func35, Try.ntmps35
  go_wp2_with fail
  refine (ruint_n p l 0 _ (HR.out.alloc _) (by omega) 2 l1 e1 H1.out).mono ?_
  rintro r w1 ⟨rfl, hR1, hO1⟩
  have HF1 := Lib.hid (Fq.ofOnly hO1)
  have HR1 := Lib.hid hR1
  clear hR1 hO1
  go_wp2_with fail
  refine (ruint_n p l1 e1 w1 HR1.out (by omega) prog l2 e2 H2.out).mono ?_
  rintro r w2 ⟨rfl, hR2, hO2⟩
  have HF2 := Lib.hid (HF1.out.trans (Fq.ofOnly hO2))
  have HR2 := Lib.hid hR2
  clear hR2 hO2
  go_wp2_with fail
  refine (ruint_n p l2 e2 w2 HR2.out (by omega) vers l3 e3 H3.out).mono ?_
  rintro r w3 ⟨rfl, hR3, hO3⟩
  have HF3 := Lib.hid (HF2.out.trans (Fq.ofOnly hO3))
  have HR3 := Lib.hid hR3
  clear hR3 hO3
  go_wp2_with fail
  refine (ruint_n p l3 e3 w3 HR3.out (by omega) proc l4 e4 H4.out).mono ?_
  rintro r w4 ⟨rfl, hR4, hO4⟩
  have HF4 := Lib.hid (HF3.out.trans (Fq.ofOnly hO4))
  have HR4 := Lib.hid hR4
  clear hR4 hO4
  go_wp2_with fail
  refine (well_any p l4 e4 _ (HR4.out.alloc _) true HW.out).mono ?_
  rintro r w' ⟨rfl, rfl⟩
  have HF5 := Lib.hid (HF4.out.alloc (.cells #[.int .i64 0, .int .i64 prog, .int .i64 vers, .int .i64 proc, .bool false, .int .i64 0, .string ⟨#[]⟩, .int .i64 0, .int .i64 0, .slice none 0 0, .string ⟨#[]⟩] 30))
  have hC5 : CAt (w4.alloc (.cells #[.int .i64 0, .int .i64 prog, .int .i64 vers, .int .i64 proc, .bool false, .int .i64 0, .string ⟨#[]⟩, .int .i64 0, .int .i64 0, .slice none 0 0, .string ⟨#[]⟩] 30)) w4.heap.size 0 prog vers proc false 0 ⟨#[]⟩ 0 0 (.slice none 0 0) ⟨#[]⟩ := heap_alloc_new w4 _
  have HR5 := Lib.hid (HR4.out.alloc (.cells #[.int .i64 0, .int .i64 prog, .int .i64 vers, .int .i64 proc, .bool false, .int .i64 0, .string ⟨#[]⟩, .int .i64 0, .int .i64 0, .slice none 0 0, .string ⟨#[]⟩] 30))
  obtain ⟨B, hB⟩ : ∃ B, B = w4.heap.size := ⟨_, rfl⟩
  rw [← hB] at hC5 ⊢
  have hBp : B ≠ p := by have := HR4.out.lt; omega
  have hBs : w.heap.size < B := by have h1 : w.heap.size < (w.alloc (.cells #[.int .i64 0, .int .i64 0, .int .i64 0, .int .i64 0, .bool false, .int .i64 0, .string ⟨#[]⟩, .int .i64 0, .int .i64 0, .slice none 0 0, .string ⟨#[]⟩] 30)).heap.size := (by show w.heap.size < (w.heap.push _).size; rw [Array.size_push]; exact Nat.lt_succ_self _); have := HF4.out.size; omega
  have hBw : w.heap.size ≤ B := by have h0 := ((Fq.refl p w).alloc (.cells #[.int .i64 0, .int .i64 0, .int .i64 0, .int .i64 0, .bool false, .int .i64 0, .string ⟨#[]⟩, .int .i64 0, .int .i64 0, .slice none 0 0, .string ⟨#[]⟩] 30)).size; have := HF4.out.size; omega
  have HC5 := Lib.hid hC5
  clear hC5 hB HR4 HF4
  generalize w4.alloc (.cells #[.int .i64 0, .int .i64 prog, .int .i64 vers, .int .i64 proc, .bool false, .int .i64 0, .string ⟨#[]⟩, .int .i64 0, .int .i64 0, .slice none 0 0, .string ⟨#[]⟩] 30) = W5 at *
  go_wp2_with fail
  refine (ruint_n p l4 e4 W5 HR5.out (by omega) fl l5 e5 H5.out).mono ?_
  rintro r w6 ⟨rfl, hR6, hO6⟩
  have HR6 := Lib.hid hR6
  have HC6 := Lib.hid (HC5.out.only hO6 hBp)
  have HF6 := Lib.hid (HF5.out.trans (Fq.ofOnly hO6))
  clear hR6 hO6 HR5 HC5 HF5
  go_wp2_with fail
  refine (ropaque_n p l5 e5 400 w6 HR6.out (by omega) body l6 e6 H6.out).mono ?_
  rintro r w7 ⟨rfl, hR7, hO7⟩
  have HR7 := Lib.hid hR7
  have HC7 := Lib.hid (HC6.out.only hO7 hBp)
  have HF7 := Lib.hid (HF6.out.trans (Fq.ofOnly hO7))
  clear hR7 hO7 HR6 HC6 HF6
  go_wp2_with fail
  refine (well_any p l6 e6 w7 HR7.out true HW6.out).mono ?_
  rintro r w' ⟨rfl, rfl⟩
  go_wp2_with fail
  refine (ruint_n p l6 e6 w7 HR7.out (by omega) fl2 l7 e7 H7.out).mono ?_
  rintro r w8 ⟨rfl, hR8, hO8⟩
  have HR8 := Lib.hid hR8
  have HC8 := Lib.hid (HC7.out.only hO8 hBp)
  have HF8 := Lib.hid (HF7.out.trans (Fq.ofOnly hO8))
  clear hR8 hO8 HR7 HC7 HF7
  go_wp2_with fail
  refine (ropaque_n p l7 e7 0 w8 HR8.out (by omega) b8 l8 e8 H8.out).mono ?_
  rintro r w9 ⟨rfl, hR9, hO9⟩
  have HR9 := Lib.hid hR9
  have HC9 := Lib.hid (HC8.out.only hO9 hBp)
  have HF9 := Lib.hid (HF8.out.trans (Fq.ofOnly hO9))
  have HFw := Lib.hid (((Fq.refl p w).alloc (.cells #[.int .i64 0, .int .i64 0, .int .i64 0, .int .i64 0, .bool false, .int .i64 0, .string ⟨#[]⟩, .int .i64 0, .int .i64 0, .slice none 0 0, .string ⟨#[]⟩] 30)).trans HF9.out)
  have hc9 := HFw.out.cell hx hxp HC.out
  clear hR9 hO9 HR8 HC8 HF8
  go_wp2_with fail
  refine (well_any p l8 e8 w9 HR9.out false HW8.out).mono ?_
  rintro r w' ⟨rfl, rfl⟩
  go_wp2_with fail
  refine (refuse32 x xid 7 3 0 w9 hc9).mono ?_
  rintro r w' ⟨rfl, rfl⟩
  go_wp2
  exact ⟨rfl, rfl, HFw.out⟩

set_option maxRecDepth 100000 in
set_option maxHeartbeats 1000000 in
/-- A verifier of another kind. -/
theorem plain_v2 (p x : Nat) (xid : Int) (l : List UInt8) (w : World) (hR : Rd w p l 0) (hl : l.length ≤ 65536) (hc : w.cell? ⟨x, 0, none⟩ = some (.int .i64 xid)) (hx : x < w.heap.size) (hxp : x ≠ p)
    (l1 : List UInt8) (e1 : Int) (h1 : numR 4 l 0 = (2, l1, e1)) (prog : Int) (l2 : List UInt8) (e2 : Int) (h2 : numR 4 l1 e1 = (prog, l2, e2)) (vers : Int) (l3 : List UInt8) (e3 : Int) (h3 : numR 4 l2 e2 = (vers, l3, e3)) (proc : Int) (l4 : List UInt8) (e4 : Int) (h4 : numR 4 l3 e3 = (proc, l4, e4))
    (hw : wellR l4 e4 = true) (fl : Int) (l5 : List UInt8) (e5 : Int) (h5 : numR 4 l4 e4 = (fl, l5, e5)) (body : ByteArray) (l6 : List UInt8) (e6 : Int) (h6 : opqR 400 l5 e5 = (body, l6, e6))
    (hw6 : wellR l6 e6 = true) (hf : fl = 0) (hb : (body.toList.isEmpty) = true) (fl2 : Int) (l7 : List UInt8) (e7 : Int) (h7 : numR 4 l6 e6 = (fl2, l7, e7)) (b8 : ByteArray) (l8 : List UInt8) (e8 : Int) (h8 : opqR 0 l7 e7 = (b8, l8, e8))
    (hw8 : wellR l8 e8 = true) (hv : fl2 ≠ 0) :
    Calls Try.prog 35 #[.pointer (some ⟨p, 0, none⟩), .func (.func 32) #[] #[.pointer (some ⟨x, 0, none⟩)]] w fun r w' => r = Thrown xid 7 3 0 ∧ Fq p w w' := by
  have HW6 := Lib.hid hw6
  have f0 : (fl == 0) = true := by simp [hf]
  have f1 : (fl == 1) = false := by simp [hf]
  have f2 : ¬ 1 < fl := by omega
  have hb2 : (!body.toList.isEmpty) = false := by rw [hb]; rfl
  have n7 := numR_len h7
  have n8 := opqR_len h8
  have H7 := Lib.hid h7
  have H8 := Lib.hid h8
  have HW8 := Lib.hid hw8
  have v0 : (fl2 != 0) = true := by simpa using hv
  clear hw8 hv
  clear hw6 hf h7 h8
  have n1 := numR_len h1
  have n2 := numR_len h2
  have n3 := numR_len h3
  have n4 := numR_len h4
  have n5 := numR_len h5
  have n6 := opqR_len h6
  have H1 := Lib.hid h1
  have H2 := Lib.hid h2
  have H3 := Lib.hid h3
  have H4 := Lib.hid h4
  have H5 := Lib.hid h5
  have H6 := Lib.hid h6
  have HW := Lib.hid hw
  have HR := Lib.hid hR
  have HC := Lib.hid hc
  clear h1 h2 h3 h4 h5 h6 hR hc hw
  go_enter Try.func35, Try.ntmps35
  go_wp2_with fail
  refine (ruint_n p l 0 _ (HR.out.alloc _) (by omega) 2 l1 e1 H1.out).mono ?_
  rintro r w1 ⟨rfl, hR1, hO1⟩
  have HF1 := Lib.hid (Fq.ofOnly hO1)
  have HR1 := Lib.hid hR1
  clear hR1 hO1
  go_wp2_with fail
  refine (ruint_n p l1 e1 w1 HR1.out (by omega) prog l2 e2 H2.out).mono ?_
  rintro r w2 ⟨rfl, hR2, hO2⟩
  have HF2 := Lib.hid (HF1.out.trans (Fq.ofOnly hO2))
  have HR2 := Lib.hid hR2
  clear hR2 hO2
  go_wp2_with fail
  refine (ruint_n p l2 e2 w2 HR2.out (by omega) vers l3 e3 H3.out).mono ?_
  rintro r w3 ⟨rfl, hR3, hO3⟩
  have HF3 := Lib.hid (HF2.out.trans (Fq.ofOnly hO3))
  have HR3 := Lib.hid hR3
  clear hR3 hO3
  go_wp2_with fail
  refine (ruint_n p l3 e3 w3 HR3.out (by omega) proc l4 e4 H4.out).mono ?_
  rintro r w4 ⟨rfl, hR4, hO4⟩
  have HF4 := Lib.hid (HF3.out.trans (Fq.ofOnly hO4))
  have HR4 := Lib.hid hR4
  clear hR4 hO4
  go_wp2_with fail
  refine (well_any p l4 e4 _ (HR4.out.alloc _) true HW.out).mono ?_
  rintro r w' ⟨rfl, rfl⟩
  have HF5 := Lib.hid (HF4.out.alloc (.cells #[.int .i64 0, .int .i64 prog, .int .i64 vers, .int .i64 proc, .bool false, .int .i64 0, .string ⟨#[]⟩, .int .i64 0, .int .i64 0, .slice none 0 0, .string ⟨#[]⟩] 30))
  have hC5 : CAt (w4.alloc (.cells #[.int .i64 0, .int .i64 prog, .int .i64 vers, .int .i64 proc, .bool false, .int .i64 0, .string ⟨#[]⟩, .int .i64 0, .int .i64 0, .slice none 0 0, .string ⟨#[]⟩] 30)) w4.heap.size 0 prog vers proc false 0 ⟨#[]⟩ 0 0 (.slice none 0 0) ⟨#[]⟩ := heap_alloc_new w4 _
  have HR5 := Lib.hid (HR4.out.alloc (.cells #[.int .i64 0, .int .i64 prog, .int .i64 vers, .int .i64 proc, .bool false, .int .i64 0, .string ⟨#[]⟩, .int .i64 0, .int .i64 0, .slice none 0 0, .string ⟨#[]⟩] 30))
  obtain ⟨B, hB⟩ : ∃ B, B = w4.heap.size := ⟨_, rfl⟩
  rw [← hB] at hC5 ⊢
  have hBp : B ≠ p := by have := HR4.out.lt; omega
  have hBs : w.heap.size < B := by have h1 : w.heap.size < (w.alloc (.cells #[.int .i64 0, .int .i64 0, .int .i64 0, .int .i64 0, .bool false, .int .i64 0, .string ⟨#[]⟩, .int .i64 0, .int .i64 0, .slice none 0 0, .string ⟨#[]⟩] 30)).heap.size := (by show w.heap.size < (w.heap.push _).size; rw [Array.size_push]; exact Nat.lt_succ_self _); have := HF4.out.size; omega
  have hBw : w.heap.size ≤ B := by have h0 := ((Fq.refl p w).alloc (.cells #[.int .i64 0, .int .i64 0, .int .i64 0, .int .i64 0, .bool false, .int .i64 0, .string ⟨#[]⟩, .int .i64 0, .int .i64 0, .slice none 0 0, .string ⟨#[]⟩] 30)).size; have := HF4.out.size; omega
  have HC5 := Lib.hid hC5
  clear hC5 hB HR4 HF4
  generalize w4.alloc (.cells #[.int .i64 0, .int .i64 prog, .int .i64 vers, .int .i64 proc, .bool false, .int .i64 0, .string ⟨#[]⟩, .int .i64 0, .int .i64 0, .slice none 0 0, .string ⟨#[]⟩] 30) = W5 at *
  go_wp2_with fail
  refine (ruint_n p l4 e4 W5 HR5.out (by omega) fl l5 e5 H5.out).mono ?_
  rintro r w6 ⟨rfl, hR6, hO6⟩
  have HR6 := Lib.hid hR6
  have HC6 := Lib.hid (HC5.out.only hO6 hBp)
  have HF6 := Lib.hid (HF5.out.trans (Fq.ofOnly hO6))
  clear hR6 hO6 HR5 HC5 HF5
  go_wp2_with fail
  refine (ropaque_n p l5 e5 400 w6 HR6.out (by omega) body l6 e6 H6.out).mono ?_
  rintro r w7 ⟨rfl, hR7, hO7⟩
  have HR7 := Lib.hid hR7
  have HC7 := Lib.hid (HC6.out.only hO7 hBp)
  have HF7 := Lib.hid (HF6.out.trans (Fq.ofOnly hO7))
  clear hR7 hO7 HR6 HC6 HF6
  go_wp2_with fail
  refine (well_any p l6 e6 w7 HR7.out true HW6.out).mono ?_
  rintro r w' ⟨rfl, rfl⟩
  go_wp2_with fail
  refine (ruint_n p l6 e6 w7 HR7.out (by omega) fl2 l7 e7 H7.out).mono ?_
  rintro r w8 ⟨rfl, hR8, hO8⟩
  have HR8 := Lib.hid hR8
  have HC8 := Lib.hid (HC7.out.only hO8 hBp)
  have HF8 := Lib.hid (HF7.out.trans (Fq.ofOnly hO8))
  clear hR8 hO8 HR7 HC7 HF7
  go_wp2_with fail
  refine (ropaque_n p l7 e7 0 w8 HR8.out (by omega) b8 l8 e8 H8.out).mono ?_
  rintro r w9 ⟨rfl, hR9, hO9⟩
  have HR9 := Lib.hid hR9
  have HC9 := Lib.hid (HC8.out.only hO9 hBp)
  have HF9 := Lib.hid (HF8.out.trans (Fq.ofOnly hO9))
  have HFw := Lib.hid (((Fq.refl p w).alloc (.cells #[.int .i64 0, .int .i64 0, .int .i64 0, .int .i64 0, .bool false, .int .i64 0, .string ⟨#[]⟩, .int .i64 0, .int .i64 0, .slice none 0 0, .string ⟨#[]⟩] 30)).trans HF9.out)
  have hc9 := HFw.out.cell hx hxp HC.out
  clear hR9 hO9 HR8 HC8 HF8
  go_wp2_with fail
  refine (well_any p l8 e8 w9 HR9.out true HW8.out).mono ?_
  rintro r w' ⟨rfl, rfl⟩
  go_wp2_with fail
  refine (refuse32 x xid 7 3 0 w9 hc9).mono ?_
  rintro r w' ⟨rfl, rfl⟩
  go_wp2
  exact ⟨rfl, rfl, HFw.out⟩

set_option maxRecDepth 100000 in
set_option maxHeartbeats 1000000 in
/-- Arguments that aren't whole. -/
theorem plain_v3 (p x : Nat) (xid : Int) (l : List UInt8) (w : World) (hR : Rd w p l 0) (hl : l.length ≤ 65536) (hc : w.cell? ⟨x, 0, none⟩ = some (.int .i64 xid)) (hx : x < w.heap.size) (hxp : x ≠ p)
    (l1 : List UInt8) (e1 : Int) (h1 : numR 4 l 0 = (2, l1, e1)) (prog : Int) (l2 : List UInt8) (e2 : Int) (h2 : numR 4 l1 e1 = (prog, l2, e2)) (vers : Int) (l3 : List UInt8) (e3 : Int) (h3 : numR 4 l2 e2 = (vers, l3, e3)) (proc : Int) (l4 : List UInt8) (e4 : Int) (h4 : numR 4 l3 e3 = (proc, l4, e4))
    (hw : wellR l4 e4 = true) (fl : Int) (l5 : List UInt8) (e5 : Int) (h5 : numR 4 l4 e4 = (fl, l5, e5)) (body : ByteArray) (l6 : List UInt8) (e6 : Int) (h6 : opqR 400 l5 e5 = (body, l6, e6))
    (hw6 : wellR l6 e6 = true) (hf : fl = 0) (hb : (body.toList.isEmpty) = true) (fl2 : Int) (l7 : List UInt8) (e7 : Int) (h7 : numR 4 l6 e6 = (fl2, l7, e7)) (b8 : ByteArray) (l8 : List UInt8) (e8 : Int) (h8 : opqR 0 l7 e7 = (b8, l8, e8))
    (hw8 : wellR l8 e8 = true) (hv : fl2 = 0) (hm : l8.length % 4 ≠ 0) :
    Calls Try.prog 35 #[.pointer (some ⟨p, 0, none⟩), .func (.func 32) #[] #[.pointer (some ⟨x, 0, none⟩)]] w fun r w' => r = Thrown xid 7 3 0 ∧ Fq p w w' := by
  have HW6 := Lib.hid hw6
  have f0 : (fl == 0) = true := by simp [hf]
  have f1 : (fl == 1) = false := by simp [hf]
  have f2 : ¬ 1 < fl := by omega
  have hb2 : (!body.toList.isEmpty) = false := by rw [hb]; rfl
  have n7 := numR_len h7
  have n8 := opqR_len h8
  have H7 := Lib.hid h7
  have H8 := Lib.hid h8
  have HW8 := Lib.hid hw8
  have v0 : (fl2 != 0) = false := by simp [hv]
  have hm0 : (l8.length : Int).tmod 4 = ((l8.length % 4 : Nat) : Int) := by rw [Int.tmod_eq_emod_of_nonneg (by omega)]; omega
  have hm2 : (((l8.length : Int).tmod 4) != 0) = true := by rw [hm0]; simp; omega
  clear hw8 hv hm0
  clear hw6 hf h7 h8
  have n1 := numR_len h1
  have n2 := numR_len h2
  have n3 := numR_len h3
  have n4 := numR_len h4
  have n5 := numR_len h5
  have n6 := opqR_len h6
  have H1 := Lib.hid h1
  have H2 := Lib.hid h2
  have H3 := Lib.hid h3
  have H4 := Lib.hid h4
  have H5 := Lib.hid h5
  have H6 := Lib.hid h6
  have HW := Lib.hid hw
  have HR := Lib.hid hR
  have HC := Lib.hid hc
  clear h1 h2 h3 h4 h5 h6 hR hc hw
  go_enter Try.func35, Try.ntmps35
  go_wp2_with fail
  refine (ruint_n p l 0 _ (HR.out.alloc _) (by omega) 2 l1 e1 H1.out).mono ?_
  rintro r w1 ⟨rfl, hR1, hO1⟩
  have HF1 := Lib.hid (Fq.ofOnly hO1)
  have HR1 := Lib.hid hR1
  clear hR1 hO1
  go_wp2_with fail
  refine (ruint_n p l1 e1 w1 HR1.out (by omega) prog l2 e2 H2.out).mono ?_
  rintro r w2 ⟨rfl, hR2, hO2⟩
  have HF2 := Lib.hid (HF1.out.trans (Fq.ofOnly hO2))
  have HR2 := Lib.hid hR2
  clear hR2 hO2
  go_wp2_with fail
  refine (ruint_n p l2 e2 w2 HR2.out (by omega) vers l3 e3 H3.out).mono ?_
  rintro r w3 ⟨rfl, hR3, hO3⟩
  have HF3 := Lib.hid (HF2.out.trans (Fq.ofOnly hO3))
  have HR3 := Lib.hid hR3
  clear hR3 hO3
  go_wp2_with fail
  refine (ruint_n p l3 e3 w3 HR3.out (by omega) proc l4 e4 H4.out).mono ?_
  rintro r w4 ⟨rfl, hR4, hO4⟩
  have HF4 := Lib.hid (HF3.out.trans (Fq.ofOnly hO4))
  have HR4 := Lib.hid hR4
  clear hR4 hO4
  go_wp2_with fail
  refine (well_any p l4 e4 _ (HR4.out.alloc _) true HW.out).mono ?_
  rintro r w' ⟨rfl, rfl⟩
  have HF5 := Lib.hid (HF4.out.alloc (.cells #[.int .i64 0, .int .i64 prog, .int .i64 vers, .int .i64 proc, .bool false, .int .i64 0, .string ⟨#[]⟩, .int .i64 0, .int .i64 0, .slice none 0 0, .string ⟨#[]⟩] 30))
  have hC5 : CAt (w4.alloc (.cells #[.int .i64 0, .int .i64 prog, .int .i64 vers, .int .i64 proc, .bool false, .int .i64 0, .string ⟨#[]⟩, .int .i64 0, .int .i64 0, .slice none 0 0, .string ⟨#[]⟩] 30)) w4.heap.size 0 prog vers proc false 0 ⟨#[]⟩ 0 0 (.slice none 0 0) ⟨#[]⟩ := heap_alloc_new w4 _
  have HR5 := Lib.hid (HR4.out.alloc (.cells #[.int .i64 0, .int .i64 prog, .int .i64 vers, .int .i64 proc, .bool false, .int .i64 0, .string ⟨#[]⟩, .int .i64 0, .int .i64 0, .slice none 0 0, .string ⟨#[]⟩] 30))
  obtain ⟨B, hB⟩ : ∃ B, B = w4.heap.size := ⟨_, rfl⟩
  rw [← hB] at hC5 ⊢
  have hBp : B ≠ p := by have := HR4.out.lt; omega
  have hBs : w.heap.size < B := by have h1 : w.heap.size < (w.alloc (.cells #[.int .i64 0, .int .i64 0, .int .i64 0, .int .i64 0, .bool false, .int .i64 0, .string ⟨#[]⟩, .int .i64 0, .int .i64 0, .slice none 0 0, .string ⟨#[]⟩] 30)).heap.size := (by show w.heap.size < (w.heap.push _).size; rw [Array.size_push]; exact Nat.lt_succ_self _); have := HF4.out.size; omega
  have hBw : w.heap.size ≤ B := by have h0 := ((Fq.refl p w).alloc (.cells #[.int .i64 0, .int .i64 0, .int .i64 0, .int .i64 0, .bool false, .int .i64 0, .string ⟨#[]⟩, .int .i64 0, .int .i64 0, .slice none 0 0, .string ⟨#[]⟩] 30)).size; have := HF4.out.size; omega
  have HC5 := Lib.hid hC5
  clear hC5 hB HR4 HF4
  generalize w4.alloc (.cells #[.int .i64 0, .int .i64 prog, .int .i64 vers, .int .i64 proc, .bool false, .int .i64 0, .string ⟨#[]⟩, .int .i64 0, .int .i64 0, .slice none 0 0, .string ⟨#[]⟩] 30) = W5 at *
  go_wp2_with fail
  refine (ruint_n p l4 e4 W5 HR5.out (by omega) fl l5 e5 H5.out).mono ?_
  rintro r w6 ⟨rfl, hR6, hO6⟩
  have HR6 := Lib.hid hR6
  have HC6 := Lib.hid (HC5.out.only hO6 hBp)
  have HF6 := Lib.hid (HF5.out.trans (Fq.ofOnly hO6))
  clear hR6 hO6 HR5 HC5 HF5
  go_wp2_with fail
  refine (ropaque_n p l5 e5 400 w6 HR6.out (by omega) body l6 e6 H6.out).mono ?_
  rintro r w7 ⟨rfl, hR7, hO7⟩
  have HR7 := Lib.hid hR7
  have HC7 := Lib.hid (HC6.out.only hO7 hBp)
  have HF7 := Lib.hid (HF6.out.trans (Fq.ofOnly hO7))
  clear hR7 hO7 HR6 HC6 HF6
  go_wp2_with fail
  refine (well_any p l6 e6 w7 HR7.out true HW6.out).mono ?_
  rintro r w' ⟨rfl, rfl⟩
  go_wp2_with fail
  refine (ruint_n p l6 e6 w7 HR7.out (by omega) fl2 l7 e7 H7.out).mono ?_
  rintro r w8 ⟨rfl, hR8, hO8⟩
  have HR8 := Lib.hid hR8
  have HC8 := Lib.hid (HC7.out.only hO8 hBp)
  have HF8 := Lib.hid (HF7.out.trans (Fq.ofOnly hO8))
  clear hR8 hO8 HR7 HC7 HF7
  go_wp2_with fail
  refine (ropaque_n p l7 e7 0 w8 HR8.out (by omega) b8 l8 e8 H8.out).mono ?_
  rintro r w9 ⟨rfl, hR9, hO9⟩
  have HR9 := Lib.hid hR9
  have HC9 := Lib.hid (HC8.out.only hO9 hBp)
  have HF9 := Lib.hid (HF8.out.trans (Fq.ofOnly hO9))
  have HFw := Lib.hid (((Fq.refl p w).alloc (.cells #[.int .i64 0, .int .i64 0, .int .i64 0, .int .i64 0, .bool false, .int .i64 0, .string ⟨#[]⟩, .int .i64 0, .int .i64 0, .slice none 0 0, .string ⟨#[]⟩] 30)).trans HF9.out)
  have hc9 := HFw.out.cell hx hxp HC.out
  clear hR9 hO9 HR8 HC8 HF8
  go_wp2_with fail
  refine (well_any p l8 e8 w9 HR9.out true HW8.out).mono ?_
  rintro r w' ⟨rfl, rfl⟩
  go_wp2_with fail
  refine (left_same' p l8 e8 w9 HR9.out).mono ?_
  rintro r w' ⟨rfl, rfl⟩
  go_wp2_with fail
  refine (refuse32 x xid 7 3 0 w9 hc9).mono ?_
  rintro r w' ⟨rfl, rfl⟩
  go_wp2
  exact ⟨rfl, rfl, HFw.out⟩

set_option maxRecDepth 100000 in
set_option maxHeartbeats 1000000 in
/-- A plain call. -/
theorem plain_ok (p x : Nat) (xid : Int) (l : List UInt8) (w : World) (hR : Rd w p l 0) (hl : l.length ≤ 65536) (hc : w.cell? ⟨x, 0, none⟩ = some (.int .i64 xid)) (hx : x < w.heap.size) (hxp : x ≠ p)
    (l1 : List UInt8) (e1 : Int) (h1 : numR 4 l 0 = (2, l1, e1)) (prog : Int) (l2 : List UInt8) (e2 : Int) (h2 : numR 4 l1 e1 = (prog, l2, e2)) (vers : Int) (l3 : List UInt8) (e3 : Int) (h3 : numR 4 l2 e2 = (vers, l3, e3)) (proc : Int) (l4 : List UInt8) (e4 : Int) (h4 : numR 4 l3 e3 = (proc, l4, e4))
    (hw : wellR l4 e4 = true) (fl : Int) (l5 : List UInt8) (e5 : Int) (h5 : numR 4 l4 e4 = (fl, l5, e5)) (body : ByteArray) (l6 : List UInt8) (e6 : Int) (h6 : opqR 400 l5 e5 = (body, l6, e6))
    (hw6 : wellR l6 e6 = true) (hf : fl = 0) (hb : (body.toList.isEmpty) = true) (fl2 : Int) (l7 : List UInt8) (e7 : Int) (h7 : numR 4 l6 e6 = (fl2, l7, e7)) (b8 : ByteArray) (l8 : List UInt8) (e8 : Int) (h8 : opqR 0 l7 e7 = (b8, l8, e8))
    (hw8 : wellR l8 e8 = true) (hv : fl2 = 0) (hm : l8.length % 4 = 0) (args : ByteArray) (l9 : List UInt8) (e9 : Int) (h9 : fixR l8.length l8 e8 = (args, l9, e9)) :
    Calls Try.prog 35 #[.pointer (some ⟨p, 0, none⟩), .func (.func 32) #[] #[.pointer (some ⟨x, 0, none⟩)]] w fun r w' => TkTo p prog vers proc false 0 ⟨#[]⟩ 0 0 [] args w r w' := by
  have HW6 := Lib.hid hw6
  have f0 : (fl == 0) = true := by simp [hf]
  have f1 : (fl == 1) = false := by simp [hf]
  have f2 : ¬ 1 < fl := by omega
  have hb2 : (!body.toList.isEmpty) = false := by rw [hb]; rfl
  have n7 := numR_len h7
  have n8 := opqR_len h8
  have H7 := Lib.hid h7
  have H8 := Lib.hid h8
  have HW8 := Lib.hid hw8
  have H9 := Lib.hid h9
  have v0 : (fl2 != 0) = false := by simp [hv]
  have hm0 : (l8.length : Int).tmod 4 = ((l8.length % 4 : Nat) : Int) := by rw [Int.tmod_eq_emod_of_nonneg (by omega)]; omega
  have hm2 : (((l8.length : Int).tmod 4) != 0) = false := by rw [hm0, hm]; rfl
  clear hw8 hv h9 hm0
  clear hw6 hf h7 h8
  have n1 := numR_len h1
  have n2 := numR_len h2
  have n3 := numR_len h3
  have n4 := numR_len h4
  have n5 := numR_len h5
  have n6 := opqR_len h6
  have H1 := Lib.hid h1
  have H2 := Lib.hid h2
  have H3 := Lib.hid h3
  have H4 := Lib.hid h4
  have H5 := Lib.hid h5
  have H6 := Lib.hid h6
  have HW := Lib.hid hw
  have HR := Lib.hid hR
  have HC := Lib.hid hc
  clear h1 h2 h3 h4 h5 h6 hR hc hw
  go_enter Try.func35, Try.ntmps35
  go_wp2_with fail
  refine (ruint_n p l 0 _ (HR.out.alloc _) (by omega) 2 l1 e1 H1.out).mono ?_
  rintro r w1 ⟨rfl, hR1, hO1⟩
  have HF1 := Lib.hid (Fq.ofOnly hO1)
  have HR1 := Lib.hid hR1
  clear hR1 hO1
  go_wp2_with fail
  refine (ruint_n p l1 e1 w1 HR1.out (by omega) prog l2 e2 H2.out).mono ?_
  rintro r w2 ⟨rfl, hR2, hO2⟩
  have HF2 := Lib.hid (HF1.out.trans (Fq.ofOnly hO2))
  have HR2 := Lib.hid hR2
  clear hR2 hO2
  go_wp2_with fail
  refine (ruint_n p l2 e2 w2 HR2.out (by omega) vers l3 e3 H3.out).mono ?_
  rintro r w3 ⟨rfl, hR3, hO3⟩
  have HF3 := Lib.hid (HF2.out.trans (Fq.ofOnly hO3))
  have HR3 := Lib.hid hR3
  clear hR3 hO3
  go_wp2_with fail
  refine (ruint_n p l3 e3 w3 HR3.out (by omega) proc l4 e4 H4.out).mono ?_
  rintro r w4 ⟨rfl, hR4, hO4⟩
  have HF4 := Lib.hid (HF3.out.trans (Fq.ofOnly hO4))
  have HR4 := Lib.hid hR4
  clear hR4 hO4
  go_wp2_with fail
  refine (well_any p l4 e4 _ (HR4.out.alloc _) true HW.out).mono ?_
  rintro r w' ⟨rfl, rfl⟩
  have HF5 := Lib.hid (HF4.out.alloc (.cells #[.int .i64 0, .int .i64 prog, .int .i64 vers, .int .i64 proc, .bool false, .int .i64 0, .string ⟨#[]⟩, .int .i64 0, .int .i64 0, .slice none 0 0, .string ⟨#[]⟩] 30))
  have hC5 : CAt (w4.alloc (.cells #[.int .i64 0, .int .i64 prog, .int .i64 vers, .int .i64 proc, .bool false, .int .i64 0, .string ⟨#[]⟩, .int .i64 0, .int .i64 0, .slice none 0 0, .string ⟨#[]⟩] 30)) w4.heap.size 0 prog vers proc false 0 ⟨#[]⟩ 0 0 (.slice none 0 0) ⟨#[]⟩ := heap_alloc_new w4 _
  have HR5 := Lib.hid (HR4.out.alloc (.cells #[.int .i64 0, .int .i64 prog, .int .i64 vers, .int .i64 proc, .bool false, .int .i64 0, .string ⟨#[]⟩, .int .i64 0, .int .i64 0, .slice none 0 0, .string ⟨#[]⟩] 30))
  obtain ⟨B, hB⟩ : ∃ B, B = w4.heap.size := ⟨_, rfl⟩
  rw [← hB] at hC5 ⊢
  have hBp : B ≠ p := by have := HR4.out.lt; omega
  have hBs : w.heap.size < B := by have h1 : w.heap.size < (w.alloc (.cells #[.int .i64 0, .int .i64 0, .int .i64 0, .int .i64 0, .bool false, .int .i64 0, .string ⟨#[]⟩, .int .i64 0, .int .i64 0, .slice none 0 0, .string ⟨#[]⟩] 30)).heap.size := (by show w.heap.size < (w.heap.push _).size; rw [Array.size_push]; exact Nat.lt_succ_self _); have := HF4.out.size; omega
  have hBw : w.heap.size ≤ B := by have h0 := ((Fq.refl p w).alloc (.cells #[.int .i64 0, .int .i64 0, .int .i64 0, .int .i64 0, .bool false, .int .i64 0, .string ⟨#[]⟩, .int .i64 0, .int .i64 0, .slice none 0 0, .string ⟨#[]⟩] 30)).size; have := HF4.out.size; omega
  have HC5 := Lib.hid hC5
  clear hC5 hB HR4 HF4
  generalize w4.alloc (.cells #[.int .i64 0, .int .i64 prog, .int .i64 vers, .int .i64 proc, .bool false, .int .i64 0, .string ⟨#[]⟩, .int .i64 0, .int .i64 0, .slice none 0 0, .string ⟨#[]⟩] 30) = W5 at *
  go_wp2_with fail
  refine (ruint_n p l4 e4 W5 HR5.out (by omega) fl l5 e5 H5.out).mono ?_
  rintro r w6 ⟨rfl, hR6, hO6⟩
  have HR6 := Lib.hid hR6
  have HC6 := Lib.hid (HC5.out.only hO6 hBp)
  have HF6 := Lib.hid (HF5.out.trans (Fq.ofOnly hO6))
  clear hR6 hO6 HR5 HC5 HF5
  go_wp2_with fail
  refine (ropaque_n p l5 e5 400 w6 HR6.out (by omega) body l6 e6 H6.out).mono ?_
  rintro r w7 ⟨rfl, hR7, hO7⟩
  have HR7 := Lib.hid hR7
  have HC7 := Lib.hid (HC6.out.only hO7 hBp)
  have HF7 := Lib.hid (HF6.out.trans (Fq.ofOnly hO7))
  clear hR7 hO7 HR6 HC6 HF6
  go_wp2_with fail
  refine (well_any p l6 e6 w7 HR7.out true HW6.out).mono ?_
  rintro r w' ⟨rfl, rfl⟩
  go_wp2_with fail
  refine (ruint_n p l6 e6 w7 HR7.out (by omega) fl2 l7 e7 H7.out).mono ?_
  rintro r w8 ⟨rfl, hR8, hO8⟩
  have HR8 := Lib.hid hR8
  have HC8 := Lib.hid (HC7.out.only hO8 hBp)
  have HF8 := Lib.hid (HF7.out.trans (Fq.ofOnly hO8))
  clear hR8 hO8 HR7 HC7 HF7
  go_wp2_with fail
  refine (ropaque_n p l7 e7 0 w8 HR8.out (by omega) b8 l8 e8 H8.out).mono ?_
  rintro r w9 ⟨rfl, hR9, hO9⟩
  have HR9 := Lib.hid hR9
  have HC9 := Lib.hid (HC8.out.only hO9 hBp)
  have HF9 := Lib.hid (HF8.out.trans (Fq.ofOnly hO9))
  have HFw := Lib.hid (((Fq.refl p w).alloc (.cells #[.int .i64 0, .int .i64 0, .int .i64 0, .int .i64 0, .bool false, .int .i64 0, .string ⟨#[]⟩, .int .i64 0, .int .i64 0, .slice none 0 0, .string ⟨#[]⟩] 30)).trans HF9.out)
  have hc9 := HFw.out.cell hx hxp HC.out
  clear hR9 hO9 HR8 HC8 HF8
  go_wp2_with fail
  refine (well_any p l8 e8 w9 HR9.out true HW8.out).mono ?_
  rintro r w' ⟨rfl, rfl⟩
  go_wp2_with fail
  refine (left_same' p l8 e8 w9 HR9.out).mono ?_
  rintro r w' ⟨rfl, rfl⟩
  go_wp2_with fail
  refine (left_same' p l8 e8 w9 HR9.out).mono ?_
  rintro r w' ⟨rfl, rfl⟩
  go_wp2_with fail
  refine (rfixed_n p l8 e8 l8.length w9 HR9.out (by omega) (by omega) args l9 e9 H9.out).mono ?_
  rintro r w10 ⟨rfl, hR10, hO10⟩
  have HC10 := Lib.hid (HC9.out.only hO10 hBp)
  have HF10 := Lib.hid (HF9.out.trans (Fq.ofOnly hO10))
  have hZp : w.heap.size ≠ p := by have := HR.out.lt; omega
  have hZ : CAt w10 w.heap.size 0 0 0 0 false 0 ⟨#[]⟩ 0 0 (.slice none 0 0) ⟨#[]⟩ := (HF10.out.block _ (by show w.heap.size < (w.heap.push _).size; rw [Array.size_push]; exact Nat.lt_succ_self _) hZp).trans (heap_alloc_new w _)
  have HZ := Lib.hid hZ
  clear hR10 hO10
  have hBZ : B ≠ w.heap.size := by omega
  have hZB : w.heap.size ≠ B := by omega
  have hBf := HC10.out.free 10
  obtain ⟨b0, b1, b2, b3, b4, b5, b6, b7, b8', b9, b10⟩ := HC10.out.all
  obtain ⟨z0, z1, z2, z3, z4, z5, z6, z7, z8, z9, z10⟩ := hZ.all
  have y0 := hZ.free 0
  have y1 := hZ.free 1
  have y2 := hZ.free 2
  have y3 := hZ.free 3
  have y4 := hZ.free 4
  have y5 := hZ.free 5
  have y6 := hZ.free 6
  have y7 := hZ.free 7
  have y8 := hZ.free 8
  have y9 := hZ.free 9
  have y10 := hZ.free 10
  clear hZ
  go_wp2
  obtain ⟨q1, q2, q3⟩ := lay11 p w.heap.size B w w10 (((Fq.refl p w).alloc (.cells #[.int .i64 0, .int .i64 0, .int .i64 0, .int .i64 0, .bool false, .int .i64 0, .string ⟨#[]⟩, .int .i64 0, .int .i64 0, .slice none 0 0, .string ⟨#[]⟩] 30)).trans HF10.out) (Nat.le_refl _) hBw HZ.out hBZ 0 prog vers proc false 0 ⟨#[]⟩ 0 0 (.slice none 0 0) args _ rfl
  refine bodyPost_ret (results_cell_row rfl _ _ w.heap.size 30 _ (0, 0) _ rfl q1 Try.underlying30 rfl (by kernel_rfl)) rfl ?_
  exact ⟨_, rfl, World.ownsRow_nil _ _ _ _, by intro g hg; simp [Value.ownBlock] at hg, q2⟩

end Go.Proofs.Ytkbjimbnbocfpaa
