/-
  Several texts in one (RTd, RTe, RGc, RGd, RGe, RGf): contracts of package rpc and what they stand on. Their conditions: as each says.
-/
import Derived.Test.YtihkjgfghjgblaaGreatDoorRM1
namespace Go.Proofs.YtihkjgfghjgblaaGreatDoor.R
open Go.RowKit

theorem CAt.all {w : World} {q : Nat} {a b c d : Int} {u : Bool} {st : Int} {m : ByteArray} {uid gid : Int} {vg : Value} {args : ByteArray} (h : CAt w q a b c d u st m uid gid vg args) :
    w.cell? ⟨q, 0, none⟩ = some (.int .i64 a) ∧ w.cell? ⟨q, 1, none⟩ = some (.int .i64 b) ∧ w.cell? ⟨q, 2, none⟩ = some (.int .i64 c) ∧ w.cell? ⟨q, 3, none⟩ = some (.int .i64 d) ∧ w.cell? ⟨q, 4, none⟩ = some (.bool u) ∧ w.cell? ⟨q, 5, none⟩ = some (.int .i64 st) ∧ w.cell? ⟨q, 6, none⟩ = some (.string m) ∧ w.cell? ⟨q, 7, none⟩ = some (.int .i64 uid) ∧ w.cell? ⟨q, 8, none⟩ = some (.int .i64 gid) ∧ w.cell? ⟨q, 9, none⟩ = some vg ∧ w.cell? ⟨q, 10, none⟩ = some (.string args) := by
  have hh : w.heap[q]? = _ := h
  refine ⟨?_, ?_, ?_, ?_, ?_, ?_, ?_, ?_, ?_, ?_, ?_⟩ <;> (rw [cell_of_row w q _ _ _ _ hh]; rfl)

theorem CAt.s0 {w : World} {q : Nat} {a b c d : Int} {u : Bool} {st : Int} {m : ByteArray} {uid gid : Int} {vg : Value} {args : ByteArray} (h : CAt w q a b c d u st m uid gid vg args) (x : Int) : CAt (w.setCell ⟨q, 0, none⟩ (.int .i64 x)) q x b c d u st m uid gid vg args := by
  unfold CAt; rw [heap_set _ h]; rfl
theorem CAt.s1 {w : World} {q : Nat} {a b c d : Int} {u : Bool} {st : Int} {m : ByteArray} {uid gid : Int} {vg : Value} {args : ByteArray} (h : CAt w q a b c d u st m uid gid vg args) (x : Int) : CAt (w.setCell ⟨q, 1, none⟩ (.int .i64 x)) q a x c d u st m uid gid vg args := by
  unfold CAt; rw [heap_set _ h]; rfl
theorem CAt.s2 {w : World} {q : Nat} {a b c d : Int} {u : Bool} {st : Int} {m : ByteArray} {uid gid : Int} {vg : Value} {args : ByteArray} (h : CAt w q a b c d u st m uid gid vg args) (x : Int) : CAt (w.setCell ⟨q, 2, none⟩ (.int .i64 x)) q a b x d u st m uid gid vg args := by
  unfold CAt; rw [heap_set _ h]; rfl
theorem CAt.s3 {w : World} {q : Nat} {a b c d : Int} {u : Bool} {st : Int} {m : ByteArray} {uid gid : Int} {vg : Value} {args : ByteArray} (h : CAt w q a b c d u st m uid gid vg args) (x : Int) : CAt (w.setCell ⟨q, 3, none⟩ (.int .i64 x)) q a b c x u st m uid gid vg args := by
  unfold CAt; rw [heap_set _ h]; rfl
theorem CAt.s4 {w : World} {q : Nat} {a b c d : Int} {u : Bool} {st : Int} {m : ByteArray} {uid gid : Int} {vg : Value} {args : ByteArray} (h : CAt w q a b c d u st m uid gid vg args) (x : Bool) : CAt (w.setCell ⟨q, 4, none⟩ (.bool x)) q a b c d x st m uid gid vg args := by
  unfold CAt; rw [heap_set _ h]; rfl
theorem CAt.s5 {w : World} {q : Nat} {a b c d : Int} {u : Bool} {st : Int} {m : ByteArray} {uid gid : Int} {vg : Value} {args : ByteArray} (h : CAt w q a b c d u st m uid gid vg args) (x : Int) : CAt (w.setCell ⟨q, 5, none⟩ (.int .i64 x)) q a b c d u x m uid gid vg args := by
  unfold CAt; rw [heap_set _ h]; rfl
theorem CAt.s6 {w : World} {q : Nat} {a b c d : Int} {u : Bool} {st : Int} {m : ByteArray} {uid gid : Int} {vg : Value} {args : ByteArray} (h : CAt w q a b c d u st m uid gid vg args) (x : ByteArray) : CAt (w.setCell ⟨q, 6, none⟩ (.string x)) q a b c d u st x uid gid vg args := by
  unfold CAt; rw [heap_set _ h]; rfl
theorem CAt.s7 {w : World} {q : Nat} {a b c d : Int} {u : Bool} {st : Int} {m : ByteArray} {uid gid : Int} {vg : Value} {args : ByteArray} (h : CAt w q a b c d u st m uid gid vg args) (x : Int) : CAt (w.setCell ⟨q, 7, none⟩ (.int .i64 x)) q a b c d u st m x gid vg args := by
  unfold CAt; rw [heap_set _ h]; rfl
theorem CAt.s8 {w : World} {q : Nat} {a b c d : Int} {u : Bool} {st : Int} {m : ByteArray} {uid gid : Int} {vg : Value} {args : ByteArray} (h : CAt w q a b c d u st m uid gid vg args) (x : Int) : CAt (w.setCell ⟨q, 8, none⟩ (.int .i64 x)) q a b c d u st m uid x vg args := by
  unfold CAt; rw [heap_set _ h]; rfl
theorem CAt.s9 {w : World} {q : Nat} {a b c d : Int} {u : Bool} {st : Int} {m : ByteArray} {uid gid : Int} {vg : Value} {args : ByteArray} (h : CAt w q a b c d u st m uid gid vg args) (x : Value) : CAt (w.setCell ⟨q, 9, none⟩ x) q a b c d u st m uid gid x args := by
  unfold CAt; rw [heap_set _ h]; rfl
theorem CAt.s10 {w : World} {q : Nat} {a b c d : Int} {u : Bool} {st : Int} {m : ByteArray} {uid gid : Int} {vg : Value} {args : ByteArray} (h : CAt w q a b c d u st m uid gid vg args) (x : ByteArray) : CAt (w.setCell ⟨q, 10, none⟩ (.string x)) q a b c d u st m uid gid vg x := by
  unfold CAt; rw [heap_set _ h]; rfl

/-- The call's end: its arguments laid, and all of it laid over the result. -/
theorem lay11 (p Z B : Nat) (w v : World) (hF : Fq p w v) (hZw : w.heap.size ≤ Z) (hBw : w.heap.size ≤ B) (hZ : CAt v Z 0 0 0 0 false 0 ⟨#[]⟩ 0 0 (.slice none 0 0) ⟨#[]⟩) (hBZ : B ≠ Z)
    (a b c d : Int) (u : Bool) (st : Int) (m : ByteArray) (uid gid : Int) (vg : Value) (args : ByteArray) (W : World)
    (hW : W = (((((((((((v.setCell ⟨B, 10, none⟩ (.string args)).setCell ⟨Z, 0, none⟩ (.int .i64 a)).setCell ⟨Z, 1, none⟩ (.int .i64 b)).setCell ⟨Z, 2, none⟩ (.int .i64 c)).setCell ⟨Z, 3, none⟩ (.int .i64 d)).setCell ⟨Z, 4, none⟩ (.bool u)).setCell ⟨Z, 5, none⟩ (.int .i64 st)).setCell ⟨Z, 6, none⟩ (.string m)).setCell ⟨Z, 7, none⟩ (.int .i64 uid)).setCell ⟨Z, 8, none⟩ (.int .i64 gid)).setCell ⟨Z, 9, none⟩ vg).setCell ⟨Z, 10, none⟩ (.string args)) :
    CAt W Z a b c d u st m uid gid vg args ∧ Fq p w W ∧ ∀ k, k ≠ Z → k ≠ B → W.heap[k]? = v.heap[k]? := by
  have o1 : Only B v (v.setCell ⟨B, 10, none⟩ (.string args)) := (Only.refl _ _).set 10 _
  have h0 := hZ.only o1 (Ne.symm hBZ)
  have o2 : Only Z (v.setCell ⟨B, 10, none⟩ (.string args)) W := by
    rw [hW]
    exact (((((((((((Only.refl _ _).set 0 _).set 1 _).set 2 _).set 3 _).set 4 _).set 5 _).set 6 _).set 7 _).set 8 _).set 9 _).set 10 _
  refine ⟨?_, (hF.only o1 hBw).only o2 hZw, fun k hk hkB => (o2.block k hk).trans (o1.block k hkB)⟩
  rw [hW]
  exact (((((((((((h0.s0 a).s1 b).s2 c).s3 d).s4 u).s5 st).s6 m).s7 uid).s8 gid).s9 vg).s10 args)

set_option maxRecDepth 100000 in
set_option maxHeartbeats 1000000 in
/-- The verifier can't be taken. -/
theorem plain_v1 (p x : Nat) (xid : Int) (l : List UInt8) (w : World) (hR : Rd w p l 0) (hl : l.length ≤ 65536) (hc : w.cell? ⟨x, 0, none⟩ = some (.int .i64 xid)) (hx : x < w.heap.size) (hxp : x ≠ p)
    (l1 : List UInt8) (e1 : Int) (h1 : numR 4 l 0 = (2, l1, e1)) (prog : Int) (l2 : List UInt8) (e2 : Int) (h2 : numR 4 l1 e1 = (prog, l2, e2)) (vers : Int) (l3 : List UInt8) (e3 : Int) (h3 : numR 4 l2 e2 = (vers, l3, e3)) (proc : Int) (l4 : List UInt8) (e4 : Int) (h4 : numR 4 l3 e3 = (proc, l4, e4))
    (hw : wellR l4 e4 = true) (fl : Int) (l5 : List UInt8) (e5 : Int) (h5 : numR 4 l4 e4 = (fl, l5, e5)) (body : ByteArray) (l6 : List UInt8) (e6 : Int) (h6 : opqR 400 l5 e5 = (body, l6, e6))
    (hw6 : wellR l6 e6 = true) (hf : fl = 0) (hb : (body.toList.isEmpty) = true) (fl2 : Int) (l7 : List UInt8) (e7 : Int) (h7 : numR 4 l6 e6 = (fl2, l7, e7)) (b8 : ByteArray) (l8 : List UInt8) (e8 : Int) (h8 : opqR 0 l7 e7 = (b8, l8, e8))
    (hw8 : wellR l8 e8 = false) :
    Calls Tryz.prog 15 #[.pointer (some ⟨p, 0, none⟩), .func (.func 12) #[] #[.pointer (some ⟨x, 0, none⟩)]] w fun r w' => r = Thrown xid 7 3 0 ∧ Fq p w w' := by
  have HW6 := Lib.hid hw6
  have f0 : (fl == 0) = true := by simp [hf]
  have f1 : (fl == 1) = false := by simp [hf]
  have f2 : ¬ 1 < fl := by omega
  have hb2 : (!body.toList.isEmpty) = false := by rw [hb]; rfl
  have n7 := numR_len h7
  have n8 := opqR_len h8
  have H7 := Lib.hid h7
  have H8 := Lib.hid h8
  have HW8 := Lib.hid hw8
  clear hw8
  clear hw6 hf h7 h8
  have n1 := numR_len h1
  have n2 := numR_len h2
  have n3 := numR_len h3
  have n4 := numR_len h4
  have n5 := numR_len h5
  have n6 := opqR_len h6
  have H1 := Lib.hid h1
  have H2 := Lib.hid h2
  have H3 := Lib.hid h3
  have H4 := Lib.hid h4
  have H5 := Lib.hid h5
  have H6 := Lib.hid h6
  have HW := Lib.hid hw
  have HR := Lib.hid hR
  have HC := Lib.hid hc
  clear h1 h2 h3 h4 h5 h6 hR hc hw
  go_enter Tryz.func15, Tryz.ntmps15
  go_wp2_with fail
  refine (ruint_n p l 0 _ (HR.out.alloc _) (by omega) 2 l1 e1 H1.out).mono ?_
  rintro r w1 ⟨rfl, hR1, hO1⟩
  have HF1 := Lib.hid (Fq.ofOnly hO1)
  have HR1 := Lib.hid hR1
  clear hR1 hO1
  go_wp2_with fail
  refine (ruint_n p l1 e1 w1 HR1.out (by omega) prog l2 e2 H2.out).mono ?_
  rintro r w2 ⟨rfl, hR2, hO2⟩
  have HF2 := Lib.hid (HF1.out.trans (Fq.ofOnly hO2))
  have HR2 := Lib.hid hR2
  clear hR2 hO2
  go_wp2_with fail
  refine (ruint_n p l2 e2 w2 HR2.out (by omega) vers l3 e3 H3.out).mono ?_
  rintro r w3 ⟨rfl, hR3, hO3⟩
  have HF3 := Lib.hid (HF2.out.trans (Fq.ofOnly hO3))
  have HR3 := Lib.hid hR3
  clear hR3 hO3
  go_wp2_with fail
  refine (ruint_n p l3 e3 w3 HR3.out (by omega) proc l4 e4 H4.out).mono ?_
  rintro r w4 ⟨rfl, hR4, hO4⟩
  have HF4 := Lib.hid (HF3.out.trans (Fq.ofOnly hO4))
  have HR4 := Lib.hid hR4
  clear hR4 hO4
  go_wp2_with fail
  refine (well_any p l4 e4 _ (HR4.out.alloc _) true HW.out).mono ?_
  rintro r w' ⟨rfl, rfl⟩
  have HF5 := Lib.hid (HF4.out.alloc (.cells #[.int .i64 0, .int .i64 prog, .int .i64 vers, .int .i64 proc, .bool false, .int .i64 0, .string ⟨#[]⟩, .int .i64 0, .int .i64 0, .slice none 0 0, .string ⟨#[]⟩] 26))
  have hC5 : CAt (w4.alloc (.cells #[.int .i64 0, .int .i64 prog, .int .i64 vers, .int .i64 proc, .bool false, .int .i64 0, .string ⟨#[]⟩, .int .i64 0, .int .i64 0, .slice none 0 0, .string ⟨#[]⟩] 26)) w4.heap.size 0 prog vers proc false 0 ⟨#[]⟩ 0 0 (.slice none 0 0) ⟨#[]⟩ := heap_alloc_new w4 _
  have HR5 := Lib.hid (HR4.out.alloc (.cells #[.int .i64 0, .int .i64 prog, .int .i64 vers, .int .i64 proc, .bool false, .int .i64 0, .string ⟨#[]⟩, .int .i64 0, .int .i64 0, .slice none 0 0, .string ⟨#[]⟩] 26))
  obtain ⟨B, hB⟩ : ∃ B, B = w4.heap.size := ⟨_, rfl⟩
  rw [← hB] at hC5 ⊢
  have hBp : B ≠ p := by have := HR4.out.lt; omega
  have hBs : w.heap.size < B := by have h1 : w.heap.size < (w.alloc (.cells #[.int .i64 0, .int .i64 0, .int .i64 0, .int .i64 0, .bool false, .int .i64 0, .string ⟨#[]⟩, .int .i64 0, .int .i64 0, .slice none 0 0, .string ⟨#[]⟩] 26)).heap.size := (by show w.heap.size < (w.heap.push _).size; rw [Array.size_push]; exact Nat.lt_succ_self _); have := HF4.out.size; omega
  have hBw : w.heap.size ≤ B := by have h0 := ((Fq.refl p w).alloc (.cells #[.int .i64 0, .int .i64 0, .int .i64 0, .int .i64 0, .bool false, .int .i64 0, .string ⟨#[]⟩, .int .i64 0, .int .i64 0, .slice none 0 0, .string ⟨#[]⟩] 26)).size; have := HF4.out.size; omega
  have HC5 := Lib.hid hC5
  clear hC5 hB HR4 HF4
  generalize w4.alloc (.cells #[.int .i64 0, .int .i64 prog, .int .i64 vers, .int .i64 proc, .bool false, .int .i64 0, .string ⟨#[]⟩, .int .i64 0, .int .i64 0, .slice none 0 0, .string ⟨#[]⟩] 26) = W5 at *
  go_wp2_with fail
  refine (ruint_n p l4 e4 W5 HR5.out (by omega) fl l5 e5 H5.out).mono ?_
  rintro r w6 ⟨rfl, hR6, hO6⟩
  have HR6 := Lib.hid hR6
  have HC6 := Lib.hid (HC5.out.only hO6 hBp)
  have HF6 := Lib.hid (HF5.out.trans (Fq.ofOnly hO6))
  clear hR6 hO6 HR5 HC5 HF5
  go_wp2_with fail
  refine (ropaque_n p l5 e5 400 w6 HR6.out (by omega) body l6 e6 H6.out).mono ?_
  rintro r w7 ⟨rfl, hR7, hO7⟩
  have HR7 := Lib.hid hR7
  have HC7 := Lib.hid (HC6.out.only hO7 hBp)
  have HF7 := Lib.hid (HF6.out.trans (Fq.ofOnly hO7))
  clear hR7 hO7 HR6 HC6 HF6
  go_wp2_with fail
  refine (well_any p l6 e6 w7 HR7.out true HW6.out).mono ?_
  rintro r w' ⟨rfl, rfl⟩
  go_wp2_with fail
  refine (ruint_n p l6 e6 w7 HR7.out (by omega) fl2 l7 e7 H7.out).mono ?_
  rintro r w8 ⟨rfl, hR8, hO8⟩
  have HR8 := Lib.hid hR8
  have HC8 := Lib.hid (HC7.out.only hO8 hBp)
  have HF8 := Lib.hid (HF7.out.trans (Fq.ofOnly hO8))
  clear hR8 hO8 HR7 HC7 HF7
  go_wp2_with fail
  refine (ropaque_n p l7 e7 0 w8 HR8.out (by omega) b8 l8 e8 H8.out).mono ?_
  rintro r w9 ⟨rfl, hR9, hO9⟩
  have HR9 := Lib.hid hR9
  have HC9 := Lib.hid (HC8.out.only hO9 hBp)
  have HF9 := Lib.hid (HF8.out.trans (Fq.ofOnly hO9))
  have HFw := Lib.hid (((Fq.refl p w).alloc (.cells #[.int .i64 0, .int .i64 0, .int .i64 0, .int .i64 0, .bool false, .int .i64 0, .string ⟨#[]⟩, .int .i64 0, .int .i64 0, .slice none 0 0, .string ⟨#[]⟩] 26)).trans HF9.out)
  have hc9 := HFw.out.cell hx hxp HC.out
  clear hR9 hO9 HR8 HC8 HF8
  go_wp2_with fail
  refine (well_any p l8 e8 w9 HR9.out false HW8.out).mono ?_
  rintro r w' ⟨rfl, rfl⟩
  go_wp2_with fail
  refine (refuse32 x xid 7 3 0 w9 hc9).mono ?_
  rintro r w' ⟨rfl, rfl⟩
  go_wp2
  exact ⟨rfl, rfl, HFw.out⟩

set_option maxRecDepth 100000 in
set_option maxHeartbeats 1000000 in
/-- A verifier of another kind. -/
theorem plain_v2 (p x : Nat) (xid : Int) (l : List UInt8) (w : World) (hR : Rd w p l 0) (hl : l.length ≤ 65536) (hc : w.cell? ⟨x, 0, none⟩ = some (.int .i64 xid)) (hx : x < w.heap.size) (hxp : x ≠ p)
    (l1 : List UInt8) (e1 : Int) (h1 : numR 4 l 0 = (2, l1, e1)) (prog : Int) (l2 : List UInt8) (e2 : Int) (h2 : numR 4 l1 e1 = (prog, l2, e2)) (vers : Int) (l3 : List UInt8) (e3 : Int) (h3 : numR 4 l2 e2 = (vers, l3, e3)) (proc : Int) (l4 : List UInt8) (e4 : Int) (h4 : numR 4 l3 e3 = (proc, l4, e4))
    (hw : wellR l4 e4 = true) (fl : Int) (l5 : List UInt8) (e5 : Int) (h5 : numR 4 l4 e4 = (fl, l5, e5)) (body : ByteArray) (l6 : List UInt8) (e6 : Int) (h6 : opqR 400 l5 e5 = (body, l6, e6))
    (hw6 : wellR l6 e6 = true) (hf : fl = 0) (hb : (body.toList.isEmpty) = true) (fl2 : Int) (l7 : List UInt8) (e7 : Int) (h7 : numR 4 l6 e6 = (fl2, l7, e7)) (b8 : ByteArray) (l8 : List UInt8) (e8 : Int) (h8 : opqR 0 l7 e7 = (b8, l8, e8))
    (hw8 : wellR l8 e8 = true) (hv : fl2 ≠ 0) :
    Calls Tryz.prog 15 #[.pointer (some ⟨p, 0, none⟩), .func (.func 12) #[] #[.pointer (some ⟨x, 0, none⟩)]] w fun r w' => r = Thrown xid 7 3 0 ∧ Fq p w w' := by
  have HW6 := Lib.hid hw6
  have f0 : (fl == 0) = true := by simp [hf]
  have f1 : (fl == 1) = false := by simp [hf]
  have f2 : ¬ 1 < fl := by omega
  have hb2 : (!body.toList.isEmpty) = false := by rw [hb]; rfl
  have n7 := numR_len h7
  have n8 := opqR_len h8
  have H7 := Lib.hid h7
  have H8 := Lib.hid h8
  have HW8 := Lib.hid hw8
  have v0 : (fl2 != 0) = true := by simpa using hv
  clear hw8 hv
  clear hw6 hf h7 h8
  have n1 := numR_len h1
  have n2 := numR_len h2
  have n3 := numR_len h3
  have n4 := numR_len h4
  have n5 := numR_len h5
  have n6 := opqR_len h6
  have H1 := Lib.hid h1
  have H2 := Lib.hid h2
  have H3 := Lib.hid h3
  have H4 := Lib.hid h4
  have H5 := Lib.hid h5
  have H6 := Lib.hid h6
  have HW := Lib.hid hw
  have HR := Lib.hid hR
  have HC := Lib.hid hc
  clear h1 h2 h3 h4 h5 h6 hR hc hw
  go_enter Tryz.func15, Tryz.ntmps15
  go_wp2_with fail
  refine (ruint_n p l 0 _ (HR.out.alloc _) (by omega) 2 l1 e1 H1.out).mono ?_
  rintro r w1 ⟨rfl, hR1, hO1⟩
  have HF1 := Lib.hid (Fq.ofOnly hO1)
  have HR1 := Lib.hid hR1
  clear hR1 hO1
  go_wp2_with fail
  refine (ruint_n p l1 e1 w1 HR1.out (by omega) prog l2 e2 H2.out).mono ?_
  rintro r w2 ⟨rfl, hR2, hO2⟩
  have HF2 := Lib.hid (HF1.out.trans (Fq.ofOnly hO2))
  have HR2 := Lib.hid hR2
  clear hR2 hO2
  go_wp2_with fail
  refine (ruint_n p l2 e2 w2 HR2.out (by omega) vers l3 e3 H3.out).mono ?_
  rintro r w3 ⟨rfl, hR3, hO3⟩
  have HF3 := Lib.hid (HF2.out.trans (Fq.ofOnly hO3))
  have HR3 := Lib.hid hR3
  clear hR3 hO3
  go_wp2_with fail
  refine (ruint_n p l3 e3 w3 HR3.out (by omega) proc l4 e4 H4.out).mono ?_
  rintro r w4 ⟨rfl, hR4, hO4⟩
  have HF4 := Lib.hid (HF3.out.trans (Fq.ofOnly hO4))
  have HR4 := Lib.hid hR4
  clear hR4 hO4
  go_wp2_with fail
  refine (well_any p l4 e4 _ (HR4.out.alloc _) true HW.out).mono ?_
  rintro r w' ⟨rfl, rfl⟩
  have HF5 := Lib.hid (HF4.out.alloc (.cells #[.int .i64 0, .int .i64 prog, .int .i64 vers, .int .i64 proc, .bool false, .int .i64 0, .string ⟨#[]⟩, .int .i64 0, .int .i64 0, .slice none 0 0, .string ⟨#[]⟩] 26))
  have hC5 : CAt (w4.alloc (.cells #[.int .i64 0, .int .i64 prog, .int .i64 vers, .int .i64 proc, .bool false, .int .i64 0, .string ⟨#[]⟩, .int .i64 0, .int .i64 0, .slice none 0 0, .string ⟨#[]⟩] 26)) w4.heap.size 0 prog vers proc false 0 ⟨#[]⟩ 0 0 (.slice none 0 0) ⟨#[]⟩ := heap_alloc_new w4 _
  have HR5 := Lib.hid (HR4.out.alloc (.cells #[.int .i64 0, .int .i64 prog, .int .i64 vers, .int .i64 proc, .bool false, .int .i64 0, .string ⟨#[]⟩, .int .i64 0, .int .i64 0, .slice none 0 0, .string ⟨#[]⟩] 26))
  obtain ⟨B, hB⟩ : ∃ B, B = w4.heap.size := ⟨_, rfl⟩
  rw [← hB] at hC5 ⊢
  have hBp : B ≠ p := by have := HR4.out.lt; omega
  have hBs : w.heap.size < B := by have h1 : w.heap.size < (w.alloc (.cells #[.int .i64 0, .int .i64 0, .int .i64 0, .int .i64 0, .bool false, .int .i64 0, .string ⟨#[]⟩, .int .i64 0, .int .i64 0, .slice none 0 0, .string ⟨#[]⟩] 26)).heap.size := (by show w.heap.size < (w.heap.push _).size; rw [Array.size_push]; exact Nat.lt_succ_self _); have := HF4.out.size; omega
  have hBw : w.heap.size ≤ B := by have h0 := ((Fq.refl p w).alloc (.cells #[.int .i64 0, .int .i64 0, .int .i64 0, .int .i64 0, .bool false, .int .i64 0, .string ⟨#[]⟩, .int .i64 0, .int .i64 0, .slice none 0 0, .string ⟨#[]⟩] 26)).size; have := HF4.out.size; omega
  have HC5 := Lib.hid hC5
  clear hC5 hB HR4 HF4
  generalize w4.alloc (.cells #[.int .i64 0, .int .i64 prog, .int .i64 vers, .int .i64 proc, .bool false, .int .i64 0, .string ⟨#[]⟩, .int .i64 0, .int .i64 0, .slice none 0 0, .string ⟨#[]⟩] 26) = W5 at *
  go_wp2_with fail
  refine (ruint_n p l4 e4 W5 HR5.out (by omega) fl l5 e5 H5.out).mono ?_
  rintro r w6 ⟨rfl, hR6, hO6⟩
  have HR6 := Lib.hid hR6
  have HC6 := Lib.hid (HC5.out.only hO6 hBp)
  have HF6 := Lib.hid (HF5.out.trans (Fq.ofOnly hO6))
  clear hR6 hO6 HR5 HC5 HF5
  go_wp2_with fail
  refine (ropaque_n p l5 e5 400 w6 HR6.out (by omega) body l6 e6 H6.out).mono ?_
  rintro r w7 ⟨rfl, hR7, hO7⟩
  have HR7 := Lib.hid hR7
  have HC7 := Lib.hid (HC6.out.only hO7 hBp)
  have HF7 := Lib.hid (HF6.out.trans (Fq.ofOnly hO7))
  clear hR7 hO7 HR6 HC6 HF6
  go_wp2_with fail
  refine (well_any p l6 e6 w7 HR7.out true HW6.out).mono ?_
  rintro r w' ⟨rfl, rfl⟩
  go_wp2_with fail
  refine (ruint_n p l6 e6 w7 HR7.out (by omega) fl2 l7 e7 H7.out).mono ?_
  rintro r w8 ⟨rfl, hR8, hO8⟩
  have HR8 := Lib.hid hR8
  have HC8 := Lib.hid (HC7.out.only hO8 hBp)
  have HF8 := Lib.hid (HF7.out.trans (Fq.ofOnly hO8))
  clear hR8 hO8 HR7 HC7 HF7
  go_wp2_with fail
  refine (ropaque_n p l7 e7 0 w8 HR8.out (by omega) b8 l8 e8 H8.out).mono ?_
  rintro r w9 ⟨rfl, hR9, hO9⟩
  have HR9 := Lib.hid hR9
  have HC9 := Lib.hid (HC8.out.only hO9 hBp)
  have HF9 := Lib.hid (HF8.out.trans (Fq.ofOnly hO9))
  have HFw := Lib.hid (((Fq.refl p w).alloc (.cells #[.int .i64 0, .int .i64 0, .int .i64 0, .int .i64 0, .bool false, .int .i64 0, .string ⟨#[]⟩, .int .i64 0, .int .i64 0, .slice none 0 0, .string ⟨#[]⟩] 26)).trans HF9.out)
  have hc9 := HFw.out.cell hx hxp HC.out
  clear hR9 hO9 HR8 HC8 HF8
  go_wp2_with fail
  refine (well_any p l8 e8 w9 HR9.out true HW8.out).mono ?_
  rintro r w' ⟨rfl, rfl⟩
  go_wp2_with fail
  refine (refuse32 x xid 7 3 0 w9 hc9).mono ?_
  rintro r w' ⟨rfl, rfl⟩
  go_wp2
  exact ⟨rfl, rfl, HFw.out⟩

set_option maxRecDepth 100000 in
set_option maxHeartbeats 1000000 in
/-- Arguments that aren't whole. -/
theorem plain_v3 (p x : Nat) (xid : Int) (l : List UInt8) (w : World) (hR : Rd w p l 0) (hl : l.length ≤ 65536) (hc : w.cell? ⟨x, 0, none⟩ = some (.int .i64 xid)) (hx : x < w.heap.size) (hxp : x ≠ p)
    (l1 : List UInt8) (e1 : Int) (h1 : numR 4 l 0 = (2, l1, e1)) (prog : Int) (l2 : List UInt8) (e2 : Int) (h2 : numR 4 l1 e1 = (prog, l2, e2)) (vers : Int) (l3 : List UInt8) (e3 : Int) (h3 : numR 4 l2 e2 = (vers, l3, e3)) (proc : Int) (l4 : List UInt8) (e4 : Int) (h4 : numR 4 l3 e3 = (proc, l4, e4))
    (hw : wellR l4 e4 = true) (fl : Int) (l5 : List UInt8) (e5 : Int) (h5 : numR 4 l4 e4 = (fl, l5, e5)) (body : ByteArray) (l6 : List UInt8) (e6 : Int) (h6 : opqR 400 l5 e5 = (body, l6, e6))
    (hw6 : wellR l6 e6 = true) (hf : fl = 0) (hb : (body.toList.isEmpty) = true) (fl2 : Int) (l7 : List UInt8) (e7 : Int) (h7 : numR 4 l6 e6 = (fl2, l7, e7)) (b8 : ByteArray) (l8 : List UInt8) (e8 : Int) (h8 : opqR 0 l7 e7 = (b8, l8, e8))
    (hw8 : wellR l8 e8 = true) (hv : fl2 = 0) (hm : l8.length % 4 ≠ 0) :
    Calls Tryz.prog 15 #[.pointer (some ⟨p, 0, none⟩), .func (.func 12) #[] #[.pointer (some ⟨x, 0, none⟩)]] w fun r w' => r = Thrown xid 7 3 0 ∧ Fq p w w' := by
  have HW6 := Lib.hid hw6
  have f0 : (fl == 0) = true := by simp [hf]
  have f1 : (fl == 1) = false := by simp [hf]
  have f2 : ¬ 1 < fl := by omega
  have hb2 : (!body.toList.isEmpty) = false := by rw [hb]; rfl
  have n7 := numR_len h7
  have n8 := opqR_len h8
  have H7 := Lib.hid h7
  have H8 := Lib.hid h8
  have HW8 := Lib.hid hw8
  have v0 : (fl2 != 0) = false := by simp [hv]
  have hm0 : (l8.length : Int).tmod 4 = ((l8.length % 4 : Nat) : Int) := by rw [Int.tmod_eq_emod_of_nonneg (by omega)]; omega
  have hm2 : (((l8.length : Int).tmod 4) != 0) = true := by rw [hm0]; simp; omega
  clear hw8 hv hm0
  clear hw6 hf h7 h8
  have n1 := numR_len h1
  have n2 := numR_len h2
  have n3 := numR_len h3
  have n4 := numR_len h4
  have n5 := numR_len h5
  have n6 := opqR_len h6
  have H1 := Lib.hid h1
  have H2 := Lib.hid h2
  have H3 := Lib.hid h3
  have H4 := Lib.hid h4
  have H5 := Lib.hid h5
  have H6 := Lib.hid h6
  have HW := Lib.hid hw
  have HR := Lib.hid hR
  have HC := Lib.hid hc
  clear h1 h2 h3 h4 h5 h6 hR hc hw
  go_enter Tryz.func15, Tryz.ntmps15
  go_wp2_with fail
  refine (ruint_n p l 0 _ (HR.out.alloc _) (by omega) 2 l1 e1 H1.out).mono ?_
  rintro r w1 ⟨rfl, hR1, hO1⟩
  have HF1 := Lib.hid (Fq.ofOnly hO1)
  have HR1 := Lib.hid hR1
  clear hR1 hO1
  go_wp2_with fail
  refine (ruint_n p l1 e1 w1 HR1.out (by omega) prog l2 e2 H2.out).mono ?_
  rintro r w2 ⟨rfl, hR2, hO2⟩
  have HF2 := Lib.hid (HF1.out.trans (Fq.ofOnly hO2))
  have HR2 := Lib.hid hR2
  clear hR2 hO2
  go_wp2_with fail
  refine (ruint_n p l2 e2 w2 HR2.out (by omega) vers l3 e3 H3.out).mono ?_
  rintro r w3 ⟨rfl, hR3, hO3⟩
  have HF3 := Lib.hid (HF2.out.trans (Fq.ofOnly hO3))
  have HR3 := Lib.hid hR3
  clear hR3 hO3
  go_wp2_with fail
  refine (ruint_n p l3 e3 w3 HR3.out (by omega) proc l4 e4 H4.out).mono ?_
  rintro r w4 ⟨rfl, hR4, hO4⟩
  have HF4 := Lib.hid (HF3.out.trans (Fq.ofOnly hO4))
  have HR4 := Lib.hid hR4
  clear hR4 hO4
  go_wp2_with fail
  refine (well_any p l4 e4 _ (HR4.out.alloc _) true HW.out).mono ?_
  rintro r w' ⟨rfl, rfl⟩
  have HF5 := Lib.hid (HF4.out.alloc (.cells #[.int .i64 0, .int .i64 prog, .int .i64 vers, .int .i64 proc, .bool false, .int .i64 0, .string ⟨#[]⟩, .int .i64 0, .int .i64 0, .slice none 0 0, .string ⟨#[]⟩] 26))
  have hC5 : CAt (w4.alloc (.cells #[.int .i64 0, .int .i64 prog, .int .i64 vers, .int .i64 proc, .bool false, .int .i64 0, .string ⟨#[]⟩, .int .i64 0, .int .i64 0, .slice none 0 0, .string ⟨#[]⟩] 26)) w4.heap.size 0 prog vers proc false 0 ⟨#[]⟩ 0 0 (.slice none 0 0) ⟨#[]⟩ := heap_alloc_new w4 _
  have HR5 := Lib.hid (HR4.out.alloc (.cells #[.int .i64 0, .int .i64 prog, .int .i64 vers, .int .i64 proc, .bool false, .int .i64 0, .string ⟨#[]⟩, .int .i64 0, .int .i64 0, .slice none 0 0, .string ⟨#[]⟩] 26))
  obtain ⟨B, hB⟩ : ∃ B, B = w4.heap.size := ⟨_, rfl⟩
  rw [← hB] at hC5 ⊢
  have hBp : B ≠ p := by have := HR4.out.lt; omega
  have hBs : w.heap.size < B := by have h1 : w.heap.size < (w.alloc (.cells #[.int .i64 0, .int .i64 0, .int .i64 0, .int .i64 0, .bool false, .int .i64 0, .string ⟨#[]⟩, .int .i64 0, .int .i64 0, .slice none 0 0, .string ⟨#[]⟩] 26)).heap.size := (by show w.heap.size < (w.heap.push _).size; rw [Array.size_push]; exact Nat.lt_succ_self _); have := HF4.out.size; omega
  have hBw : w.heap.size ≤ B := by have h0 := ((Fq.refl p w).alloc (.cells #[.int .i64 0, .int .i64 0, .int .i64 0, .int .i64 0, .bool false, .int .i64 0, .string ⟨#[]⟩, .int .i64 0, .int .i64 0, .slice none 0 0, .string ⟨#[]⟩] 26)).size; have := HF4.out.size; omega
  have HC5 := Lib.hid hC5
  clear hC5 hB HR4 HF4
  generalize w4.alloc (.cells #[.int .i64 0, .int .i64 prog, .int .i64 vers, .int .i64 proc, .bool false, .int .i64 0, .string ⟨#[]⟩, .int .i64 0, .int .i64 0, .slice none 0 0, .string ⟨#[]⟩] 26) = W5 at *
  go_wp2_with fail
  refine (ruint_n p l4 e4 W5 HR5.out (by omega) fl l5 e5 H5.out).mono ?_
  rintro r w6 ⟨rfl, hR6, hO6⟩
  have HR6 := Lib.hid hR6
  have HC6 := Lib.hid (HC5.out.only hO6 hBp)
  have HF6 := Lib.hid (HF5.out.trans (Fq.ofOnly hO6))
  clear hR6 hO6 HR5 HC5 HF5
  go_wp2_with fail
  refine (ropaque_n p l5 e5 400 w6 HR6.out (by omega) body l6 e6 H6.out).mono ?_
  rintro r w7 ⟨rfl, hR7, hO7⟩
  have HR7 := Lib.hid hR7
  have HC7 := Lib.hid (HC6.out.only hO7 hBp)
  have HF7 := Lib.hid (HF6.out.trans (Fq.ofOnly hO7))
  clear hR7 hO7 HR6 HC6 HF6
  go_wp2_with fail
  refine (well_any p l6 e6 w7 HR7.out true HW6.out).mono ?_
  rintro r w' ⟨rfl, rfl⟩
  go_wp2_with fail
  refine (ruint_n p l6 e6 w7 HR7.out (by omega) fl2 l7 e7 H7.out).mono ?_
  rintro r w8 ⟨rfl, hR8, hO8⟩
  have HR8 := Lib.hid hR8
  have HC8 := Lib.hid (HC7.out.only hO8 hBp)
  have HF8 := Lib.hid (HF7.out.trans (Fq.ofOnly hO8))
  clear hR8 hO8 HR7 HC7 HF7
  go_wp2_with fail
  refine (ropaque_n p l7 e7 0 w8 HR8.out (by omega) b8 l8 e8 H8.out).mono ?_
  rintro r w9 ⟨rfl, hR9, hO9⟩
  have HR9 := Lib.hid hR9
  have HC9 := Lib.hid (HC8.out.only hO9 hBp)
  have HF9 := Lib.hid (HF8.out.trans (Fq.ofOnly hO9))
  have HFw := Lib.hid (((Fq.refl p w).alloc (.cells #[.int .i64 0, .int .i64 0, .int .i64 0, .int .i64 0, .bool false, .int .i64 0, .string ⟨#[]⟩, .int .i64 0, .int .i64 0, .slice none 0 0, .string ⟨#[]⟩] 26)).trans HF9.out)
  have hc9 := HFw.out.cell hx hxp HC.out
  clear hR9 hO9 HR8 HC8 HF8
  go_wp2_with fail
  refine (well_any p l8 e8 w9 HR9.out true HW8.out).mono ?_
  rintro r w' ⟨rfl, rfl⟩
  go_wp2_with fail
  refine (left_same' p l8 e8 w9 HR9.out).mono ?_
  rintro r w' ⟨rfl, rfl⟩
  go_wp2_with fail
  refine (refuse32 x xid 7 3 0 w9 hc9).mono ?_
  rintro r w' ⟨rfl, rfl⟩
  go_wp2
  exact ⟨rfl, rfl, HFw.out⟩

set_option maxRecDepth 100000 in
set_option maxHeartbeats 1000000 in
/-- A plain call. -/
theorem plain_ok (p x : Nat) (xid : Int) (l : List UInt8) (w : World) (hR : Rd w p l 0) (hl : l.length ≤ 65536) (hc : w.cell? ⟨x, 0, none⟩ = some (.int .i64 xid)) (hx : x < w.heap.size) (hxp : x ≠ p)
    (l1 : List UInt8) (e1 : Int) (h1 : numR 4 l 0 = (2, l1, e1)) (prog : Int) (l2 : List UInt8) (e2 : Int) (h2 : numR 4 l1 e1 = (prog, l2, e2)) (vers : Int) (l3 : List UInt8) (e3 : Int) (h3 : numR 4 l2 e2 = (vers, l3, e3)) (proc : Int) (l4 : List UInt8) (e4 : Int) (h4 : numR 4 l3 e3 = (proc, l4, e4))
    (hw : wellR l4 e4 = true) (fl : Int) (l5 : List UInt8) (e5 : Int) (h5 : numR 4 l4 e4 = (fl, l5, e5)) (body : ByteArray) (l6 : List UInt8) (e6 : Int) (h6 : opqR 400 l5 e5 = (body, l6, e6))
    (hw6 : wellR l6 e6 = true) (hf : fl = 0) (hb : (body.toList.isEmpty) = true) (fl2 : Int) (l7 : List UInt8) (e7 : Int) (h7 : numR 4 l6 e6 = (fl2, l7, e7)) (b8 : ByteArray) (l8 : List UInt8) (e8 : Int) (h8 : opqR 0 l7 e7 = (b8, l8, e8))
    (hw8 : wellR l8 e8 = true) (hv : fl2 = 0) (hm : l8.length % 4 = 0) (args : ByteArray) (l9 : List UInt8) (e9 : Int) (h9 : fixR l8.length l8 e8 = (args, l9, e9)) :
    Calls Tryz.prog 15 #[.pointer (some ⟨p, 0, none⟩), .func (.func 12) #[] #[.pointer (some ⟨x, 0, none⟩)]] w fun r w' => TkTo p prog vers proc false 0 ⟨#[]⟩ 0 0 [] args w r w' := by
  have HW6 := Lib.hid hw6
  have f0 : (fl == 0) = true := by simp [hf]
  have f1 : (fl == 1) = false := by simp [hf]
  have f2 : ¬ 1 < fl := by omega
  have hb2 : (!body.toList.isEmpty) = false := by rw [hb]; rfl
  have n7 := numR_len h7
  have n8 := opqR_len h8
  have H7 := Lib.hid h7
  have H8 := Lib.hid h8
  have HW8 := Lib.hid hw8
  have H9 := Lib.hid h9
  have v0 : (fl2 != 0) = false := by simp [hv]
  have hm0 : (l8.length : Int).tmod 4 = ((l8.length % 4 : Nat) : Int) := by rw [Int.tmod_eq_emod_of_nonneg (by omega)]; omega
  have hm2 : (((l8.length : Int).tmod 4) != 0) = false := by rw [hm0, hm]; rfl
  clear hw8 hv h9 hm0
  clear hw6 hf h7 h8
  have n1 := numR_len h1
  have n2 := numR_len h2
  have n3 := numR_len h3
  have n4 := numR_len h4
  have n5 := numR_len h5
  have n6 := opqR_len h6
  have H1 := Lib.hid h1
  have H2 := Lib.hid h2
  have H3 := Lib.hid h3
  have H4 := Lib.hid h4
  have H5 := Lib.hid h5
  have H6 := Lib.hid h6
  have HW := Lib.hid hw
  have HR := Lib.hid hR
  have HC := Lib.hid hc
  clear h1 h2 h3 h4 h5 h6 hR hc hw
  go_enter Tryz.func15, Tryz.ntmps15
  go_wp2_with fail
  refine (ruint_n p l 0 _ (HR.out.alloc _) (by omega) 2 l1 e1 H1.out).mono ?_
  rintro r w1 ⟨rfl, hR1, hO1⟩
  have HF1 := Lib.hid (Fq.ofOnly hO1)
  have HR1 := Lib.hid hR1
  clear hR1 hO1
  go_wp2_with fail
  refine (ruint_n p l1 e1 w1 HR1.out (by omega) prog l2 e2 H2.out).mono ?_
  rintro r w2 ⟨rfl, hR2, hO2⟩
  have HF2 := Lib.hid (HF1.out.trans (Fq.ofOnly hO2))
  have HR2 := Lib.hid hR2
  clear hR2 hO2
  go_wp2_with fail
  refine (ruint_n p l2 e2 w2 HR2.out (by omega) vers l3 e3 H3.out).mono ?_
  rintro r w3 ⟨rfl, hR3, hO3⟩
  have HF3 := Lib.hid (HF2.out.trans (Fq.ofOnly hO3))
  have HR3 := Lib.hid hR3
  clear hR3 hO3
  go_wp2_with fail
  refine (ruint_n p l3 e3 w3 HR3.out (by omega) proc l4 e4 H4.out).mono ?_
  rintro r w4 ⟨rfl, hR4, hO4⟩
  have HF4 := Lib.hid (HF3.out.trans (Fq.ofOnly hO4))
  have HR4 := Lib.hid hR4
  clear hR4 hO4
  go_wp2_with fail
  refine (well_any p l4 e4 _ (HR4.out.alloc _) true HW.out).mono ?_
  rintro r w' ⟨rfl, rfl⟩
  have HF5 := Lib.hid (HF4.out.alloc (.cells #[.int .i64 0, .int .i64 prog, .int .i64 vers, .int .i64 proc, .bool false, .int .i64 0, .string ⟨#[]⟩, .int .i64 0, .int .i64 0, .slice none 0 0, .string ⟨#[]⟩] 26))
  have hC5 : CAt (w4.alloc (.cells #[.int .i64 0, .int .i64 prog, .int .i64 vers, .int .i64 proc, .bool false, .int .i64 0, .string ⟨#[]⟩, .int .i64 0, .int .i64 0, .slice none 0 0, .string ⟨#[]⟩] 26)) w4.heap.size 0 prog vers proc false 0 ⟨#[]⟩ 0 0 (.slice none 0 0) ⟨#[]⟩ := heap_alloc_new w4 _
  have HR5 := Lib.hid (HR4.out.alloc (.cells #[.int .i64 0, .int .i64 prog, .int .i64 vers, .int .i64 proc, .bool false, .int .i64 0, .string ⟨#[]⟩, .int .i64 0, .int .i64 0, .slice none 0 0, .string ⟨#[]⟩] 26))
  obtain ⟨B, hB⟩ : ∃ B, B = w4.heap.size := ⟨_, rfl⟩
  rw [← hB] at hC5 ⊢
  have hBp : B ≠ p := by have := HR4.out.lt; omega
  have hBs : w.heap.size < B := by have h1 : w.heap.size < (w.alloc (.cells #[.int .i64 0, .int .i64 0, .int .i64 0, .int .i64 0, .bool false, .int .i64 0, .string ⟨#[]⟩, .int .i64 0, .int .i64 0, .slice none 0 0, .string ⟨#[]⟩] 26)).heap.size := (by show w.heap.size < (w.heap.push _).size; rw [Array.size_push]; exact Nat.lt_succ_self _); have := HF4.out.size; omega
  have hBw : w.heap.size ≤ B := by have h0 := ((Fq.refl p w).alloc (.cells #[.int .i64 0, .int .i64 0, .int .i64 0, .int .i64 0, .bool false, .int .i64 0, .string ⟨#[]⟩, .int .i64 0, .int .i64 0, .slice none 0 0, .string ⟨#[]⟩] 26)).size; have := HF4.out.size; omega
  have HC5 := Lib.hid hC5
  clear hC5 hB HR4 HF4
  generalize w4.alloc (.cells #[.int .i64 0, .int .i64 prog, .int .i64 vers, .int .i64 proc, .bool false, .int .i64 0, .string ⟨#[]⟩, .int .i64 0, .int .i64 0, .slice none 0 0, .string ⟨#[]⟩] 26) = W5 at *
  go_wp2_with fail
  refine (ruint_n p l4 e4 W5 HR5.out (by omega) fl l5 e5 H5.out).mono ?_
  rintro r w6 ⟨rfl, hR6, hO6⟩
  have HR6 := Lib.hid hR6
  have HC6 := Lib.hid (HC5.out.only hO6 hBp)
  have HF6 := Lib.hid (HF5.out.trans (Fq.ofOnly hO6))
  clear hR6 hO6 HR5 HC5 HF5
  go_wp2_with fail
  refine (ropaque_n p l5 e5 400 w6 HR6.out (by omega) body l6 e6 H6.out).mono ?_
  rintro r w7 ⟨rfl, hR7, hO7⟩
  have HR7 := Lib.hid hR7
  have HC7 := Lib.hid (HC6.out.only hO7 hBp)
  have HF7 := Lib.hid (HF6.out.trans (Fq.ofOnly hO7))
  clear hR7 hO7 HR6 HC6 HF6
  go_wp2_with fail
  refine (well_any p l6 e6 w7 HR7.out true HW6.out).mono ?_
  rintro r w' ⟨rfl, rfl⟩
  go_wp2_with fail
  refine (ruint_n p l6 e6 w7 HR7.out (by omega) fl2 l7 e7 H7.out).mono ?_
  rintro r w8 ⟨rfl, hR8, hO8⟩
  have HR8 := Lib.hid hR8
  have HC8 := Lib.hid (HC7.out.only hO8 hBp)
  have HF8 := Lib.hid (HF7.out.trans (Fq.ofOnly hO8))
  clear hR8 hO8 HR7 HC7 HF7
  go_wp2_with fail
  refine (ropaque_n p l7 e7 0 w8 HR8.out (by omega) b8 l8 e8 H8.out).mono ?_
  rintro r w9 ⟨rfl, hR9, hO9⟩
  have HR9 := Lib.hid hR9
  have HC9 := Lib.hid (HC8.out.only hO9 hBp)
  have HF9 := Lib.hid (HF8.out.trans (Fq.ofOnly hO9))
  have HFw := Lib.hid (((Fq.refl p w).alloc (.cells #[.int .i64 0, .int .i64 0, .int .i64 0, .int .i64 0, .bool false, .int .i64 0, .string ⟨#[]⟩, .int .i64 0, .int .i64 0, .slice none 0 0, .string ⟨#[]⟩] 26)).trans HF9.out)
  have hc9 := HFw.out.cell hx hxp HC.out
  clear hR9 hO9 HR8 HC8 HF8
  go_wp2_with fail
  refine (well_any p l8 e8 w9 HR9.out true HW8.out).mono ?_
  rintro r w' ⟨rfl, rfl⟩
  go_wp2_with fail
  refine (left_same' p l8 e8 w9 HR9.out).mono ?_
  rintro r w' ⟨rfl, rfl⟩
  go_wp2_with fail
  refine (left_same' p l8 e8 w9 HR9.out).mono ?_
  rintro r w' ⟨rfl, rfl⟩
  go_wp2_with fail
  refine (rfixed_n p l8 e8 l8.length w9 HR9.out (by omega) (by omega) args l9 e9 H9.out).mono ?_
  rintro r w10 ⟨rfl, hR10, hO10⟩
  have HC10 := Lib.hid (HC9.out.only hO10 hBp)
  have HF10 := Lib.hid (HF9.out.trans (Fq.ofOnly hO10))
  have hZp : w.heap.size ≠ p := by have := HR.out.lt; omega
  have hZ : CAt w10 w.heap.size 0 0 0 0 false 0 ⟨#[]⟩ 0 0 (.slice none 0 0) ⟨#[]⟩ := (HF10.out.block _ (by show w.heap.size < (w.heap.push _).size; rw [Array.size_push]; exact Nat.lt_succ_self _) hZp).trans (heap_alloc_new w _)
  have HZ := Lib.hid hZ
  clear hR10 hO10
  have hBZ : B ≠ w.heap.size := by omega
  have hZB : w.heap.size ≠ B := by omega
  have hBf := HC10.out.free 10
  obtain ⟨b0, b1, b2, b3, b4, b5, b6, b7, b8', b9, b10⟩ := HC10.out.all
  obtain ⟨z0, z1, z2, z3, z4, z5, z6, z7, z8, z9, z10⟩ := hZ.all
  have y0 := hZ.free 0
  have y1 := hZ.free 1
  have y2 := hZ.free 2
  have y3 := hZ.free 3
  have y4 := hZ.free 4
  have y5 := hZ.free 5
  have y6 := hZ.free 6
  have y7 := hZ.free 7
  have y8 := hZ.free 8
  have y9 := hZ.free 9
  have y10 := hZ.free 10
  clear hZ
  go_wp2
  obtain ⟨q1, q2, q3⟩ := lay11 p w.heap.size B w w10 (((Fq.refl p w).alloc (.cells #[.int .i64 0, .int .i64 0, .int .i64 0, .int .i64 0, .bool false, .int .i64 0, .string ⟨#[]⟩, .int .i64 0, .int .i64 0, .slice none 0 0, .string ⟨#[]⟩] 26)).trans HF10.out) (Nat.le_refl _) hBw HZ.out hBZ 0 prog vers proc false 0 ⟨#[]⟩ 0 0 (.slice none 0 0) args _ rfl
  refine bodyPost_ret (results_cell_row rfl _ _ w.heap.size 26 _ (0, 0) _ rfl q1 Tryz.underlying26 rfl (by kernel_rfl)) rfl ?_
  exact ⟨_, rfl, World.ownsRow_nil _ _ _ _, by intro g hg; simp [Value.ownBlock] at hg, q2⟩

end Go.Proofs.YtihkjgfghjgblaaGreatDoor.R
namespace Go.Proofs.YtihkjgfghjgblaaGreatDoor.R
open Go.RowKit

theorem owned_slice {w : World} {B e size n : Nat} {v : Value} {xs : List Value} (h : w.ownsRow B e size v n xs) : ∃ o a c, v = .slice o a c := by
  rcases h.2 with ⟨e, _⟩ | ⟨g, cap, cur, e, _⟩
  · exact ⟨_, _, _, e⟩
  · exact ⟨_, _, _, e⟩
theorem CAt.lt {w : World} {q : Nat} {a b c d : Int} {u : Bool} {st : Int} {m : ByteArray} {uid gid : Int} {vg : Value} {args : ByteArray} (h : CAt w q a b c d u st m uid gid vg args) : q < w.heap.size := by
  have hh : w.heap[q]? = _ := h
  exact (Array.getElem?_eq_some_iff.mp hh).1
theorem Rd.fq {w w' : World} {p q : Nat} {l : List UInt8} {e : Int} {a b c d : Int} {u : Bool} {st : Int} {m : ByteArray} {uid gid : Int} {vg : Value} {args : ByteArray} (h : Rd w p l e) (hc : CAt w q a b c d u st m uid gid vg args) (hf : Fq q w w') : Rd w' p l e := by
  refine h.keep fun k cs t fr hk ht => hf.block k (Array.getElem?_eq_some_iff.mp hk).1 ?_
  rintro rfl
  have hh : w.heap[k]? = _ := hc
  rw [hh] at hk
  injection hk with hk
  injection hk with _ h2 _
  subst h2
  rcases ht with h | h <;> exact absurd h (by decide)
theorem Fq.far {p q : Nat} {w a b : World} (h : Fq p w a) (k : Fq q a b) (hq : w.heap.size ≤ q) : Fq p w b :=
  ⟨k.os.trans h.os, k.tape.trans h.tape, k.output.trans h.output, Nat.le_trans h.size k.size, fun i hi hp => (k.block i (Nat.lt_of_lt_of_le hi h.size) (by omega)).trans (h.block i hi hp)⟩
theorem fixR_size {n : Int} {l : List UInt8} {e : Int} {s : ByteArray} {l' : List UInt8} {e' : Int} (h : fixR n l e = (s, l', e')) (hn : n ≤ 400) : s.size ≤ 400 := by
  unfold fixR at h
  split at h
  · injection h with h _; subst h; show (#[] : Array UInt8).size ≤ 400; simp
  · split at h
    · injection h with h _; subst h; show (#[] : Array UInt8).size ≤ 400; simp
    · split at h
      · injection h with h _; subst h; show (l.take n.toNat).toArray.size ≤ 400; simp; omega
      · injection h with h _; subst h; show (#[] : Array UInt8).size ≤ 400; simp
theorem opqR_size {l : List UInt8} {e : Int} {s : ByteArray} {l' : List UInt8} {e' : Int} (h : opqR 400 l e = (s, l', e')) : s.size ≤ 400 := by
  unfold opqR at h
  have h4 : (if (400 : Int) < 0 then (0 : Int) else 400) = 400 := by decide
  rw [h4] at h
  split at h
  · injection h with h _; subst h; show (#[] : Array UInt8).size ≤ 400; simp
  · rename_i hn; exact fixR_size h (by omega)

set_option maxRecDepth 100000 in
set_option maxHeartbeats 1000000 in
/-- AUTH_SYS that is not as it should be. -/
theorem unix_bad (p x : Nat) (xid : Int) (l : List UInt8) (w : World) (hR : Rd w p l 0) (hl : l.length ≤ 65536) (hc : w.cell? ⟨x, 0, none⟩ = some (.int .i64 xid)) (hx : x < w.heap.size) (hxp : x ≠ p)
    (l1 : List UInt8) (e1 : Int) (h1 : numR 4 l 0 = (2, l1, e1)) (prog : Int) (l2 : List UInt8) (e2 : Int) (h2 : numR 4 l1 e1 = (prog, l2, e2)) (vers : Int) (l3 : List UInt8) (e3 : Int) (h3 : numR 4 l2 e2 = (vers, l3, e3)) (proc : Int) (l4 : List UInt8) (e4 : Int) (h4 : numR 4 l3 e3 = (proc, l4, e4))
    (hw : wellR l4 e4 = true) (fl : Int) (l5 : List UInt8) (e5 : Int) (h5 : numR 4 l4 e4 = (fl, l5, e5)) (body : ByteArray) (l6 : List UInt8) (e6 : Int) (h6 : opqR 400 l5 e5 = (body, l6, e6))
    (hw6 : wellR l6 e6 = true) (hf : fl = 1) (st : Int) (u1 : List UInt8) (g1 : Int) (hu1 : numR 4 body.data.toList 0 = (st, u1, g1)) (m : ByteArray) (u2 : List UInt8) (g2 : Int) (hu2 : opqR 255 u1 g1 = (m, u2, g2))
    (uid : Int) (u3 : List UInt8) (g3 : Int) (hu3 : numR 4 u2 g2 = (uid, u3, g3)) (gid : Int) (u4 : List UInt8) (g4 : Int) (hu4 : numR 4 u3 g3 = (gid, u4, g4)) (k : Nat) (u5 : List UInt8) (g5 : Int) (hu5 : numR 4 u4 g4 = ((k : Int), u5, g5))
    (hB : (decide (k ≤ 16) && (endR (grpR u5 g5 k).2.1 (grpR u5 g5 k).2.2 == 0)) = false)
    :
    Calls Tryz.prog 15 #[.pointer (some ⟨p, 0, none⟩), .func (.func 12) #[] #[.pointer (some ⟨x, 0, none⟩)]] w fun r w' => r = Thrown xid 7 1 0 ∧ Fq p w w' := by
  have HW6 := Lib.hid hw6
  have f0 : (fl == 0) = false := by simp [hf]
  have f1 : (fl == 1) = true := by simp [hf]
  have f2 : ¬ 1 < fl := by omega
  have hsz := opqR_size h6
  have HU1 := Lib.hid hu1
  have HU2 := Lib.hid hu2
  have HU3 := Lib.hid hu3
  have HU4 := Lib.hid hu4
  have HU5 := Lib.hid hu5
  have HUB := Lib.hid hB
  clear hw6 hf hu1 hu2 hu3 hu4 hu5 hB
  have n1 := numR_len h1
  have n2 := numR_len h2
  have n3 := numR_len h3
  have n4 := numR_len h4
  have n5 := numR_len h5
  have n6 := opqR_len h6
  have H1 := Lib.hid h1
  have H2 := Lib.hid h2
  have H3 := Lib.hid h3
  have H4 := Lib.hid h4
  have H5 := Lib.hid h5
  have H6 := Lib.hid h6
  have HW := Lib.hid hw
  have HR := Lib.hid hR
  have HC := Lib.hid hc
  clear h1 h2 h3 h4 h5 h6 hR hc hw
  go_enter Tryz.func15, Tryz.ntmps15
  go_wp2_with fail
  refine (ruint_n p l 0 _ (HR.out.alloc _) (by omega) 2 l1 e1 H1.out).mono ?_
  rintro r w1 ⟨rfl, hR1, hO1⟩
  have HF1 := Lib.hid (Fq.ofOnly hO1)
  have HR1 := Lib.hid hR1
  clear hR1 hO1
  go_wp2_with fail
  refine (ruint_n p l1 e1 w1 HR1.out (by omega) prog l2 e2 H2.out).mono ?_
  rintro r w2 ⟨rfl, hR2, hO2⟩
  have HF2 := Lib.hid (HF1.out.trans (Fq.ofOnly hO2))
  have HR2 := Lib.hid hR2
  clear hR2 hO2
  go_wp2_with fail
  refine (ruint_n p l2 e2 w2 HR2.out (by omega) vers l3 e3 H3.out).mono ?_
  rintro r w3 ⟨rfl, hR3, hO3⟩
  have HF3 := Lib.hid (HF2.out.trans (Fq.ofOnly hO3))
  have HR3 := Lib.hid hR3
  clear hR3 hO3
  go_wp2_with fail
  refine (ruint_n p l3 e3 w3 HR3.out (by omega) proc l4 e4 H4.out).mono ?_
  rintro r w4 ⟨rfl, hR4, hO4⟩
  have HF4 := Lib.hid (HF3.out.trans (Fq.ofOnly hO4))
  have HR4 := Lib.hid hR4
  clear hR4 hO4
  go_wp2_with fail
  refine (well_any p l4 e4 _ (HR4.out.alloc _) true HW.out).mono ?_
  rintro r w' ⟨rfl, rfl⟩
  have HF5 := Lib.hid (HF4.out.alloc (.cells #[.int .i64 0, .int .i64 prog, .int .i64 vers, .int .i64 proc, .bool false, .int .i64 0, .string ⟨#[]⟩, .int .i64 0, .int .i64 0, .slice none 0 0, .string ⟨#[]⟩] 26))
  have hC5 : CAt (w4.alloc (.cells #[.int .i64 0, .int .i64 prog, .int .i64 vers, .int .i64 proc, .bool false, .int .i64 0, .string ⟨#[]⟩, .int .i64 0, .int .i64 0, .slice none 0 0, .string ⟨#[]⟩] 26)) w4.heap.size 0 prog vers proc false 0 ⟨#[]⟩ 0 0 (.slice none 0 0) ⟨#[]⟩ := heap_alloc_new w4 _
  have HR5 := Lib.hid (HR4.out.alloc (.cells #[.int .i64 0, .int .i64 prog, .int .i64 vers, .int .i64 proc, .bool false, .int .i64 0, .string ⟨#[]⟩, .int .i64 0, .int .i64 0, .slice none 0 0, .string ⟨#[]⟩] 26))
  obtain ⟨B, hB⟩ : ∃ B, B = w4.heap.size := ⟨_, rfl⟩
  rw [← hB] at hC5 ⊢
  have hBp : B ≠ p := by have := HR4.out.lt; omega
  have hB0 : (w.alloc (.cells #[.int .i64 0, .int .i64 0, .int .i64 0, .int .i64 0, .bool false, .int .i64 0, .string ⟨#[]⟩, .int .i64 0, .int .i64 0, .slice none 0 0, .string ⟨#[]⟩] 26)).heap.size ≤ B := by have := HF4.out.size; omega
  have hBs : w.heap.size < B := by have h1 : w.heap.size < (w.alloc (.cells #[.int .i64 0, .int .i64 0, .int .i64 0, .int .i64 0, .bool false, .int .i64 0, .string ⟨#[]⟩, .int .i64 0, .int .i64 0, .slice none 0 0, .string ⟨#[]⟩] 26)).heap.size := (by show w.heap.size < (w.heap.push _).size; rw [Array.size_push]; exact Nat.lt_succ_self _); have := HF4.out.size; omega
  have hBw : w.heap.size ≤ B := by have h0 := ((Fq.refl p w).alloc (.cells #[.int .i64 0, .int .i64 0, .int .i64 0, .int .i64 0, .bool false, .int .i64 0, .string ⟨#[]⟩, .int .i64 0, .int .i64 0, .slice none 0 0, .string ⟨#[]⟩] 26)).size; have := HF4.out.size; omega
  have HC5 := Lib.hid hC5
  clear hC5 hB HR4 HF4
  generalize w4.alloc (.cells #[.int .i64 0, .int .i64 prog, .int .i64 vers, .int .i64 proc, .bool false, .int .i64 0, .string ⟨#[]⟩, .int .i64 0, .int .i64 0, .slice none 0 0, .string ⟨#[]⟩] 26) = W5 at *
  go_wp2_with fail
  refine (ruint_n p l4 e4 W5 HR5.out (by omega) fl l5 e5 H5.out).mono ?_
  rintro r w6 ⟨rfl, hR6, hO6⟩
  have HR6 := Lib.hid hR6
  have HC6 := Lib.hid (HC5.out.only hO6 hBp)
  have HF6 := Lib.hid (HF5.out.trans (Fq.ofOnly hO6))
  clear hR6 hO6 HR5 HC5 HF5
  go_wp2_with fail
  refine (ropaque_n p l5 e5 400 w6 HR6.out (by omega) body l6 e6 H6.out).mono ?_
  rintro r w7 ⟨rfl, hR7, hO7⟩
  have HR7 := Lib.hid hR7
  have HC7 := Lib.hid (HC6.out.only hO7 hBp)
  have HF7 := Lib.hid (HF6.out.trans (Fq.ofOnly hO7))
  clear hR7 hO7 HR6 HC6 HF6
  go_wp2_with fail
  refine (well_any p l6 e6 w7 HR7.out true HW6.out).mono ?_
  rintro r w' ⟨rfl, rfl⟩
  go_wp2_with fail
  refine (unix_read B 0 prog vers proc body w7 HC7.out hsz st u1 g1 HU1.out m u2 g2 HU2.out uid u3 g3 HU3.out gid u4 g4 HU4.out k u5 g5 HU5.out false HUB.out).mono ?_
  rintro r v7 ⟨rfl, hq7, hv7⟩
  have HFw := Lib.hid (((Fq.refl p w).alloc (.cells #[.int .i64 0, .int .i64 0, .int .i64 0, .int .i64 0, .bool false, .int .i64 0, .string ⟨#[]⟩, .int .i64 0, .int .i64 0, .slice none 0 0, .string ⟨#[]⟩] 26)).trans (HF7.out.far hq7 hB0))
  have hc9 := HFw.out.cell hx hxp HC.out
  clear hv7
  go_wp2_with fail
  refine (refuse32 x xid 7 1 0 v7 hc9).mono ?_
  rintro r w' ⟨rfl, rfl⟩
  go_wp2
  exact ⟨rfl, rfl, HFw.out⟩

set_option maxRecDepth 100000 in
set_option maxHeartbeats 1000000 in
/-- The verifier can't be taken. -/
theorem unix_v1 (p x : Nat) (xid : Int) (l : List UInt8) (w : World) (hR : Rd w p l 0) (hl : l.length ≤ 65536) (hc : w.cell? ⟨x, 0, none⟩ = some (.int .i64 xid)) (hx : x < w.heap.size) (hxp : x ≠ p)
    (l1 : List UInt8) (e1 : Int) (h1 : numR 4 l 0 = (2, l1, e1)) (prog : Int) (l2 : List UInt8) (e2 : Int) (h2 : numR 4 l1 e1 = (prog, l2, e2)) (vers : Int) (l3 : List UInt8) (e3 : Int) (h3 : numR 4 l2 e2 = (vers, l3, e3)) (proc : Int) (l4 : List UInt8) (e4 : Int) (h4 : numR 4 l3 e3 = (proc, l4, e4))
    (hw : wellR l4 e4 = true) (fl : Int) (l5 : List UInt8) (e5 : Int) (h5 : numR 4 l4 e4 = (fl, l5, e5)) (body : ByteArray) (l6 : List UInt8) (e6 : Int) (h6 : opqR 400 l5 e5 = (body, l6, e6))
    (hw6 : wellR l6 e6 = true) (hf : fl = 1) (st : Int) (u1 : List UInt8) (g1 : Int) (hu1 : numR 4 body.data.toList 0 = (st, u1, g1)) (m : ByteArray) (u2 : List UInt8) (g2 : Int) (hu2 : opqR 255 u1 g1 = (m, u2, g2))
    (uid : Int) (u3 : List UInt8) (g3 : Int) (hu3 : numR 4 u2 g2 = (uid, u3, g3)) (gid : Int) (u4 : List UInt8) (g4 : Int) (hu4 : numR 4 u3 g3 = (gid, u4, g4)) (k : Nat) (u5 : List UInt8) (g5 : Int) (hu5 : numR 4 u4 g4 = ((k : Int), u5, g5))
    (hB : (decide (k ≤ 16) && (endR (grpR u5 g5 k).2.1 (grpR u5 g5 k).2.2 == 0)) = true)
    (fl2 : Int) (l7 : List UInt8) (e7 : Int) (h7 : numR 4 l6 e6 = (fl2, l7, e7)) (b8 : ByteArray) (l8 : List UInt8) (e8 : Int) (h8 : opqR 0 l7 e7 = (b8, l8, e8))
    (hw8 : wellR l8 e8 = false) :
    Calls Tryz.prog 15 #[.pointer (some ⟨p, 0, none⟩), .func (.func 12) #[] #[.pointer (some ⟨x, 0, none⟩)]] w fun r w' => r = Thrown xid 7 3 0 ∧ Fq p w w' := by
  have HW6 := Lib.hid hw6
  have f0 : (fl == 0) = false := by simp [hf]
  have f1 : (fl == 1) = true := by simp [hf]
  have f2 : ¬ 1 < fl := by omega
  have hsz := opqR_size h6
  have HU1 := Lib.hid hu1
  have HU2 := Lib.hid hu2
  have HU3 := Lib.hid hu3
  have HU4 := Lib.hid hu4
  have HU5 := Lib.hid hu5
  have HUB := Lib.hid hB
  have n7 := numR_len h7
  have n8 := opqR_len h8
  have H7 := Lib.hid h7
  have H8 := Lib.hid h8
  have HW8 := Lib.hid hw8
  clear hw8
  clear hw6 hf h7 h8 hu1 hu2 hu3 hu4 hu5 hB
  have n1 := numR_len h1
  have n2 := numR_len h2
  have n3 := numR_len h3
  have n4 := numR_len h4
  have n5 := numR_len h5
  have n6 := opqR_len h6
  have H1 := Lib.hid h1
  have H2 := Lib.hid h2
  have H3 := Lib.hid h3
  have H4 := Lib.hid h4
  have H5 := Lib.hid h5
  have H6 := Lib.hid h6
  have HW := Lib.hid hw
  have HR := Lib.hid hR
  have HC := Lib.hid hc
  clear h1 h2 h3 h4 h5 h6 hR hc hw
  go_enter Tryz.func15, Tryz.ntmps15
  go_wp2_with fail
  refine (ruint_n p l 0 _ (HR.out.alloc _) (by omega) 2 l1 e1 H1.out).mono ?_
  rintro r w1 ⟨rfl, hR1, hO1⟩
  have HF1 := Lib.hid (Fq.ofOnly hO1)
  have HR1 := Lib.hid hR1
  clear hR1 hO1
  go_wp2_with fail
  refine (ruint_n p l1 e1 w1 HR1.out (by omega) prog l2 e2 H2.out).mono ?_
  rintro r w2 ⟨rfl, hR2, hO2⟩
  have HF2 := Lib.hid (HF1.out.trans (Fq.ofOnly hO2))
  have HR2 := Lib.hid hR2
  clear hR2 hO2
  go_wp2_with fail
  refine (ruint_n p l2 e2 w2 HR2.out (by omega) vers l3 e3 H3.out).mono ?_
  rintro r w3 ⟨rfl, hR3, hO3⟩
  have HF3 := Lib.hid (HF2.out.trans (Fq.ofOnly hO3))
  have HR3 := Lib.hid hR3
  clear hR3 hO3
  go_wp2_with fail
  refine (ruint_n p l3 e3 w3 HR3.out (by omega) proc l4 e4 H4.out).mono ?_
  rintro r w4 ⟨rfl, hR4, hO4⟩
  have HF4 := Lib.hid (HF3.out.trans (Fq.ofOnly hO4))
  have HR4 := Lib.hid hR4
  clear hR4 hO4
  go_wp2_with fail
  refine (well_any p l4 e4 _ (HR4.out.alloc _) true HW.out).mono ?_
  rintro r w' ⟨rfl, rfl⟩
  have HF5 := Lib.hid (HF4.out.alloc (.cells #[.int .i64 0, .int .i64 prog, .int .i64 vers, .int .i64 proc, .bool false, .int .i64 0, .string ⟨#[]⟩, .int .i64 0, .int .i64 0, .slice none 0 0, .string ⟨#[]⟩] 26))
  have hC5 : CAt (w4.alloc (.cells #[.int .i64 0, .int .i64 prog, .int .i64 vers, .int .i64 proc, .bool false, .int .i64 0, .string ⟨#[]⟩, .int .i64 0, .int .i64 0, .slice none 0 0, .string ⟨#[]⟩] 26)) w4.heap.size 0 prog vers proc false 0 ⟨#[]⟩ 0 0 (.slice none 0 0) ⟨#[]⟩ := heap_alloc_new w4 _
  have HR5 := Lib.hid (HR4.out.alloc (.cells #[.int .i64 0, .int .i64 prog, .int .i64 vers, .int .i64 proc, .bool false, .int .i64 0, .string ⟨#[]⟩, .int .i64 0, .int .i64 0, .slice none 0 0, .string ⟨#[]⟩] 26))
  obtain ⟨B, hB⟩ : ∃ B, B = w4.heap.size := ⟨_, rfl⟩
  rw [← hB] at hC5 ⊢
  have hBp : B ≠ p := by have := HR4.out.lt; omega
  have hB0 : (w.alloc (.cells #[.int .i64 0, .int .i64 0, .int .i64 0, .int .i64 0, .bool false, .int .i64 0, .string ⟨#[]⟩, .int .i64 0, .int .i64 0, .slice none 0 0, .string ⟨#[]⟩] 26)).heap.size ≤ B := by have := HF4.out.size; omega
  have hBs : w.heap.size < B := by have h1 : w.heap.size < (w.alloc (.cells #[.int .i64 0, .int .i64 0, .int .i64 0, .int .i64 0, .bool false, .int .i64 0, .string ⟨#[]⟩, .int .i64 0, .int .i64 0, .slice none 0 0, .string ⟨#[]⟩] 26)).heap.size := (by show w.heap.size < (w.heap.push _).size; rw [Array.size_push]; exact Nat.lt_succ_self _); have := HF4.out.size; omega
  have hBw : w.heap.size ≤ B := by have h0 := ((Fq.refl p w).alloc (.cells #[.int .i64 0, .int .i64 0, .int .i64 0, .int .i64 0, .bool false, .int .i64 0, .string ⟨#[]⟩, .int .i64 0, .int .i64 0, .slice none 0 0, .string ⟨#[]⟩] 26)).size; have := HF4.out.size; omega
  have HC5 := Lib.hid hC5
  clear hC5 hB HR4 HF4
  generalize w4.alloc (.cells #[.int .i64 0, .int .i64 prog, .int .i64 vers, .int .i64 proc, .bool false, .int .i64 0, .string ⟨#[]⟩, .int .i64 0, .int .i64 0, .slice none 0 0, .string ⟨#[]⟩] 26) = W5 at *
  go_wp2_with fail
  refine (ruint_n p l4 e4 W5 HR5.out (by omega) fl l5 e5 H5.out).mono ?_
  rintro r w6 ⟨rfl, hR6, hO6⟩
  have HR6 := Lib.hid hR6
  have HC6 := Lib.hid (HC5.out.only hO6 hBp)
  have HF6 := Lib.hid (HF5.out.trans (Fq.ofOnly hO6))
  clear hR6 hO6 HR5 HC5 HF5
  go_wp2_with fail
  refine (ropaque_n p l5 e5 400 w6 HR6.out (by omega) body l6 e6 H6.out).mono ?_
  rintro r w7 ⟨rfl, hR7, hO7⟩
  have HR7 := Lib.hid hR7
  have HC7 := Lib.hid (HC6.out.only hO7 hBp)
  have HF7 := Lib.hid (HF6.out.trans (Fq.ofOnly hO7))
  clear hR7 hO7 HR6 HC6 HF6
  go_wp2_with fail
  refine (well_any p l6 e6 w7 HR7.out true HW6.out).mono ?_
  rintro r w' ⟨rfl, rfl⟩
  go_wp2_with fail
  refine (unix_read B 0 prog vers proc body w7 HC7.out hsz st u1 g1 HU1.out m u2 g2 HU2.out uid u3 g3 HU3.out gid u4 g4 HU4.out k u5 g5 HU5.out true HUB.out).mono ?_
  rintro r v7 ⟨rfl, hq7, hv7⟩
  obtain ⟨vg, hC7, hO7, hG7⟩ := hv7 rfl
  have hg : ∀ g, vg.ownBlock = some g → g ≠ p ∧ g ≠ B ∧ g ≠ w.heap.size ∧ w.heap.size ≤ g := fun g e => by
    have := hG7 g e
    have h1 := HR7.out.lt
    have h2 := HC7.out.lt
    omega
  have HR7v := Lib.hid (HR7.out.fq HC7.out hq7)
  have HF7v := Lib.hid (HF7.out.far hq7 hB0)
  have HC7v := Lib.hid hC7
  have HO7v := Lib.hid hO7
  have HG := Lib.hid hg
  clear HR7 HF7 HC7 hC7 hO7 hG7 hq7 hv7 hg
  go_wp2_with fail
  refine (ruint_n p l6 e6 v7 HR7v.out (by omega) fl2 l7 e7 H7.out).mono ?_
  rintro r w8 ⟨rfl, hR8, hO8⟩
  have HR8 := Lib.hid hR8
  have HC8 := Lib.hid (HC7v.out.only hO8 hBp)
  have HF8 := Lib.hid (HF7v.out.trans (Fq.ofOnly hO8))
  have HO8v := Lib.hid (ownsRow_of HO7v.out fun g e => hO8.block g (HG.out g e).1)
  clear hR8 hO8 HR7v HC7v HF7v HO7v
  go_wp2_with fail
  refine (ropaque_n p l7 e7 0 w8 HR8.out (by omega) b8 l8 e8 H8.out).mono ?_
  rintro r w9 ⟨rfl, hR9, hO9⟩
  have HR9 := Lib.hid hR9
  have HC9 := Lib.hid (HC8.out.only hO9 hBp)
  have HF9 := Lib.hid (HF8.out.trans (Fq.ofOnly hO9))
  have HO9v := Lib.hid (ownsRow_of HO8v.out fun g e => hO9.block g (HG.out g e).1)
  have HFw := Lib.hid (((Fq.refl p w).alloc (.cells #[.int .i64 0, .int .i64 0, .int .i64 0, .int .i64 0, .bool false, .int .i64 0, .string ⟨#[]⟩, .int .i64 0, .int .i64 0, .slice none 0 0, .string ⟨#[]⟩] 26)).trans HF9.out)
  have hc9 := HFw.out.cell hx hxp HC.out
  clear hR9 hO9 HR8 HC8 HF8 HO8v
  go_wp2_with fail
  refine (well_any p l8 e8 w9 HR9.out false HW8.out).mono ?_
  rintro r w' ⟨rfl, rfl⟩
  go_wp2_with fail
  refine (refuse32 x xid 7 3 0 w9 hc9).mono ?_
  rintro r w' ⟨rfl, rfl⟩
  go_wp2
  exact ⟨rfl, rfl, HFw.out⟩

set_option maxRecDepth 100000 in
set_option maxHeartbeats 1000000 in
/-- A verifier of another kind. -/
theorem unix_v2 (p x : Nat) (xid : Int) (l : List UInt8) (w : World) (hR : Rd w p l 0) (hl : l.length ≤ 65536) (hc : w.cell? ⟨x, 0, none⟩ = some (.int .i64 xid)) (hx : x < w.heap.size) (hxp : x ≠ p)
    (l1 : List UInt8) (e1 : Int) (h1 : numR 4 l 0 = (2, l1, e1)) (prog : Int) (l2 : List UInt8) (e2 : Int) (h2 : numR 4 l1 e1 = (prog, l2, e2)) (vers : Int) (l3 : List UInt8) (e3 : Int) (h3 : numR 4 l2 e2 = (vers, l3, e3)) (proc : Int) (l4 : List UInt8) (e4 : Int) (h4 : numR 4 l3 e3 = (proc, l4, e4))
    (hw : wellR l4 e4 = true) (fl : Int) (l5 : List UInt8) (e5 : Int) (h5 : numR 4 l4 e4 = (fl, l5, e5)) (body : ByteArray) (l6 : List UInt8) (e6 : Int) (h6 : opqR 400 l5 e5 = (body, l6, e6))
    (hw6 : wellR l6 e6 = true) (hf : fl = 1) (st : Int) (u1 : List UInt8) (g1 : Int) (hu1 : numR 4 body.data.toList 0 = (st, u1, g1)) (m : ByteArray) (u2 : List UInt8) (g2 : Int) (hu2 : opqR 255 u1 g1 = (m, u2, g2))
    (uid : Int) (u3 : List UInt8) (g3 : Int) (hu3 : numR 4 u2 g2 = (uid, u3, g3)) (gid : Int) (u4 : List UInt8) (g4 : Int) (hu4 : numR 4 u3 g3 = (gid, u4, g4)) (k : Nat) (u5 : List UInt8) (g5 : Int) (hu5 : numR 4 u4 g4 = ((k : Int), u5, g5))
    (hB : (decide (k ≤ 16) && (endR (grpR u5 g5 k).2.1 (grpR u5 g5 k).2.2 == 0)) = true)
    (fl2 : Int) (l7 : List UInt8) (e7 : Int) (h7 : numR 4 l6 e6 = (fl2, l7, e7)) (b8 : ByteArray) (l8 : List UInt8) (e8 : Int) (h8 : opqR 0 l7 e7 = (b8, l8, e8))
    (hw8 : wellR l8 e8 = true) (hv : fl2 ≠ 0) :
    Calls Tryz.prog 15 #[.pointer (some ⟨p, 0, none⟩), .func (.func 12) #[] #[.pointer (some ⟨x, 0, none⟩)]] w fun r w' => r = Thrown xid 7 3 0 ∧ Fq p w w' := by
  have HW6 := Lib.hid hw6
  have f0 : (fl == 0) = false := by simp [hf]
  have f1 : (fl == 1) = true := by simp [hf]
  have f2 : ¬ 1 < fl := by omega
  have hsz := opqR_size h6
  have HU1 := Lib.hid hu1
  have HU2 := Lib.hid hu2
  have HU3 := Lib.hid hu3
  have HU4 := Lib.hid hu4
  have HU5 := Lib.hid hu5
  have HUB := Lib.hid hB
  have n7 := numR_len h7
  have n8 := opqR_len h8
  have H7 := Lib.hid h7
  have H8 := Lib.hid h8
  have HW8 := Lib.hid hw8
  have v0 : (fl2 != 0) = true := by simpa using hv
  clear hw8 hv
  clear hw6 hf h7 h8 hu1 hu2 hu3 hu4 hu5 hB
  have n1 := numR_len h1
  have n2 := numR_len h2
  have n3 := numR_len h3
  have n4 := numR_len h4
  have n5 := numR_len h5
  have n6 := opqR_len h6
  have H1 := Lib.hid h1
  have H2 := Lib.hid h2
  have H3 := Lib.hid h3
  have H4 := Lib.hid h4
  have H5 := Lib.hid h5
  have H6 := Lib.hid h6
  have HW := Lib.hid hw
  have HR := Lib.hid hR
  have HC := Lib.hid hc
  clear h1 h2 h3 h4 h5 h6 hR hc hw
  go_enter Tryz.func15, Tryz.ntmps15
  go_wp2_with fail
  refine (ruint_n p l 0 _ (HR.out.alloc _) (by omega) 2 l1 e1 H1.out).mono ?_
  rintro r w1 ⟨rfl, hR1, hO1⟩
  have HF1 := Lib.hid (Fq.ofOnly hO1)
  have HR1 := Lib.hid hR1
  clear hR1 hO1
  go_wp2_with fail
  refine (ruint_n p l1 e1 w1 HR1.out (by omega) prog l2 e2 H2.out).mono ?_
  rintro r w2 ⟨rfl, hR2, hO2⟩
  have HF2 := Lib.hid (HF1.out.trans (Fq.ofOnly hO2))
  have HR2 := Lib.hid hR2
  clear hR2 hO2
  go_wp2_with fail
  refine (ruint_n p l2 e2 w2 HR2.out (by omega) vers l3 e3 H3.out).mono ?_
  rintro r w3 ⟨rfl, hR3, hO3⟩
  have HF3 := Lib.hid (HF2.out.trans (Fq.ofOnly hO3))
  have HR3 := Lib.hid hR3
  clear hR3 hO3
  go_wp2_with fail
  refine (ruint_n p l3 e3 w3 HR3.out (by omega) proc l4 e4 H4.out).mono ?_
  rintro r w4 ⟨rfl, hR4, hO4⟩
  have HF4 := Lib.hid (HF3.out.trans (Fq.ofOnly hO4))
  have HR4 := Lib.hid hR4
  clear hR4 hO4
  go_wp2_with fail
  refine (well_any p l4 e4 _ (HR4.out.alloc _) true HW.out).mono ?_
  rintro r w' ⟨rfl, rfl⟩
  have HF5 := Lib.hid (HF4.out.alloc (.cells #[.int .i64 0, .int .i64 prog, .int .i64 vers, .int .i64 proc, .bool false, .int .i64 0, .string ⟨#[]⟩, .int .i64 0, .int .i64 0, .slice none 0 0, .string ⟨#[]⟩] 26))
  have hC5 : CAt (w4.alloc (.cells #[.int .i64 0, .int .i64 prog, .int .i64 vers, .int .i64 proc, .bool false, .int .i64 0, .string ⟨#[]⟩, .int .i64 0, .int .i64 0, .slice none 0 0, .string ⟨#[]⟩] 26)) w4.heap.size 0 prog vers proc false 0 ⟨#[]⟩ 0 0 (.slice none 0 0) ⟨#[]⟩ := heap_alloc_new w4 _
  have HR5 := Lib.hid (HR4.out.alloc (.cells #[.int .i64 0, .int .i64 prog, .int .i64 vers, .int .i64 proc, .bool false, .int .i64 0, .string ⟨#[]⟩, .int .i64 0, .int .i64 0, .slice none 0 0, .string ⟨#[]⟩] 26))
  obtain ⟨B, hB⟩ : ∃ B, B = w4.heap.size := ⟨_, rfl⟩
  rw [← hB] at hC5 ⊢
  have hBp : B ≠ p := by have := HR4.out.lt; omega
  have hB0 : (w.alloc (.cells #[.int .i64 0, .int .i64 0, .int .i64 0, .int .i64 0, .bool false, .int .i64 0, .string ⟨#[]⟩, .int .i64 0, .int .i64 0, .slice none 0 0, .string ⟨#[]⟩] 26)).heap.size ≤ B := by have := HF4.out.size; omega
  have hBs : w.heap.size < B := by have h1 : w.heap.size < (w.alloc (.cells #[.int .i64 0, .int .i64 0, .int .i64 0, .int .i64 0, .bool false, .int .i64 0, .string ⟨#[]⟩, .int .i64 0, .int .i64 0, .slice none 0 0, .string ⟨#[]⟩] 26)).heap.size := (by show w.heap.size < (w.heap.push _).size; rw [Array.size_push]; exact Nat.lt_succ_self _); have := HF4.out.size; omega
  have hBw : w.heap.size ≤ B := by have h0 := ((Fq.refl p w).alloc (.cells #[.int .i64 0, .int .i64 0, .int .i64 0, .int .i64 0, .bool false, .int .i64 0, .string ⟨#[]⟩, .int .i64 0, .int .i64 0, .slice none 0 0, .string ⟨#[]⟩] 26)).size; have := HF4.out.size; omega
  have HC5 := Lib.hid hC5
  clear hC5 hB HR4 HF4
  generalize w4.alloc (.cells #[.int .i64 0, .int .i64 prog, .int .i64 vers, .int .i64 proc, .bool false, .int .i64 0, .string ⟨#[]⟩, .int .i64 0, .int .i64 0, .slice none 0 0, .string ⟨#[]⟩] 26) = W5 at *
  go_wp2_with fail
  refine (ruint_n p l4 e4 W5 HR5.out (by omega) fl l5 e5 H5.out).mono ?_
  rintro r w6 ⟨rfl, hR6, hO6⟩
  have HR6 := Lib.hid hR6
  have HC6 := Lib.hid (HC5.out.only hO6 hBp)
  have HF6 := Lib.hid (HF5.out.trans (Fq.ofOnly hO6))
  clear hR6 hO6 HR5 HC5 HF5
  go_wp2_with fail
  refine (ropaque_n p l5 e5 400 w6 HR6.out (by omega) body l6 e6 H6.out).mono ?_
  rintro r w7 ⟨rfl, hR7, hO7⟩
  have HR7 := Lib.hid hR7
  have HC7 := Lib.hid (HC6.out.only hO7 hBp)
  have HF7 := Lib.hid (HF6.out.trans (Fq.ofOnly hO7))
  clear hR7 hO7 HR6 HC6 HF6
  go_wp2_with fail
  refine (well_any p l6 e6 w7 HR7.out true HW6.out).mono ?_
  rintro r w' ⟨rfl, rfl⟩
  go_wp2_with fail
  refine (unix_read B 0 prog vers proc body w7 HC7.out hsz st u1 g1 HU1.out m u2 g2 HU2.out uid u3 g3 HU3.out gid u4 g4 HU4.out k u5 g5 HU5.out true HUB.out).mono ?_
  rintro r v7 ⟨rfl, hq7, hv7⟩
  obtain ⟨vg, hC7, hO7, hG7⟩ := hv7 rfl
  have hg : ∀ g, vg.ownBlock = some g → g ≠ p ∧ g ≠ B ∧ g ≠ w.heap.size ∧ w.heap.size ≤ g := fun g e => by
    have := hG7 g e
    have h1 := HR7.out.lt
    have h2 := HC7.out.lt
    omega
  have HR7v := Lib.hid (HR7.out.fq HC7.out hq7)
  have HF7v := Lib.hid (HF7.out.far hq7 hB0)
  have HC7v := Lib.hid hC7
  have HO7v := Lib.hid hO7
  have HG := Lib.hid hg
  clear HR7 HF7 HC7 hC7 hO7 hG7 hq7 hv7 hg
  go_wp2_with fail
  refine (ruint_n p l6 e6 v7 HR7v.out (by omega) fl2 l7 e7 H7.out).mono ?_
  rintro r w8 ⟨rfl, hR8, hO8⟩
  have HR8 := Lib.hid hR8
  have HC8 := Lib.hid (HC7v.out.only hO8 hBp)
  have HF8 := Lib.hid (HF7v.out.trans (Fq.ofOnly hO8))
  have HO8v := Lib.hid (ownsRow_of HO7v.out fun g e => hO8.block g (HG.out g e).1)
  clear hR8 hO8 HR7v HC7v HF7v HO7v
  go_wp2_with fail
  refine (ropaque_n p l7 e7 0 w8 HR8.out (by omega) b8 l8 e8 H8.out).mono ?_
  rintro r w9 ⟨rfl, hR9, hO9⟩
  have HR9 := Lib.hid hR9
  have HC9 := Lib.hid (HC8.out.only hO9 hBp)
  have HF9 := Lib.hid (HF8.out.trans (Fq.ofOnly hO9))
  have HO9v := Lib.hid (ownsRow_of HO8v.out fun g e => hO9.block g (HG.out g e).1)
  have HFw := Lib.hid (((Fq.refl p w).alloc (.cells #[.int .i64 0, .int .i64 0, .int .i64 0, .int .i64 0, .bool false, .int .i64 0, .string ⟨#[]⟩, .int .i64 0, .int .i64 0, .slice none 0 0, .string ⟨#[]⟩] 26)).trans HF9.out)
  have hc9 := HFw.out.cell hx hxp HC.out
  clear hR9 hO9 HR8 HC8 HF8 HO8v
  go_wp2_with fail
  refine (well_any p l8 e8 w9 HR9.out true HW8.out).mono ?_
  rintro r w' ⟨rfl, rfl⟩
  go_wp2_with fail
  refine (refuse32 x xid 7 3 0 w9 hc9).mono ?_
  rintro r w' ⟨rfl, rfl⟩
  go_wp2
  exact ⟨rfl, rfl, HFw.out⟩

set_option maxRecDepth 100000 in
set_option maxHeartbeats 1000000 in
/-- Arguments that aren't whole. -/
theorem unix_v3 (p x : Nat) (xid : Int) (l : List UInt8) (w : World) (hR : Rd w p l 0) (hl : l.length ≤ 65536) (hc : w.cell? ⟨x, 0, none⟩ = some (.int .i64 xid)) (hx : x < w.heap.size) (hxp : x ≠ p)
    (l1 : List UInt8) (e1 : Int) (h1 : numR 4 l 0 = (2, l1, e1)) (prog : Int) (l2 : List UInt8) (e2 : Int) (h2 : numR 4 l1 e1 = (prog, l2, e2)) (vers : Int) (l3 : List UInt8) (e3 : Int) (h3 : numR 4 l2 e2 = (vers, l3, e3)) (proc : Int) (l4 : List UInt8) (e4 : Int) (h4 : numR 4 l3 e3 = (proc, l4, e4))
    (hw : wellR l4 e4 = true) (fl : Int) (l5 : List UInt8) (e5 : Int) (h5 : numR 4 l4 e4 = (fl, l5, e5)) (body : ByteArray) (l6 : List UInt8) (e6 : Int) (h6 : opqR 400 l5 e5 = (body, l6, e6))
    (hw6 : wellR l6 e6 = true) (hf : fl = 1) (st : Int) (u1 : List UInt8) (g1 : Int) (hu1 : numR 4 body.data.toList 0 = (st, u1, g1)) (m : ByteArray) (u2 : List UInt8) (g2 : Int) (hu2 : opqR 255 u1 g1 = (m, u2, g2))
    (uid : Int) (u3 : List UInt8) (g3 : Int) (hu3 : numR 4 u2 g2 = (uid, u3, g3)) (gid : Int) (u4 : List UInt8) (g4 : Int) (hu4 : numR 4 u3 g3 = (gid, u4, g4)) (k : Nat) (u5 : List UInt8) (g5 : Int) (hu5 : numR 4 u4 g4 = ((k : Int), u5, g5))
    (hB : (decide (k ≤ 16) && (endR (grpR u5 g5 k).2.1 (grpR u5 g5 k).2.2 == 0)) = true)
    (fl2 : Int) (l7 : List UInt8) (e7 : Int) (h7 : numR 4 l6 e6 = (fl2, l7, e7)) (b8 : ByteArray) (l8 : List UInt8) (e8 : Int) (h8 : opqR 0 l7 e7 = (b8, l8, e8))
    (hw8 : wellR l8 e8 = true) (hv : fl2 = 0) (hm : l8.length % 4 ≠ 0) :
    Calls Tryz.prog 15 #[.pointer (some ⟨p, 0, none⟩), .func (.func 12) #[] #[.pointer (some ⟨x, 0, none⟩)]] w fun r w' => r = Thrown xid 7 3 0 ∧ Fq p w w' := by
  have HW6 := Lib.hid hw6
  have f0 : (fl == 0) = false := by simp [hf]
  have f1 : (fl == 1) = true := by simp [hf]
  have f2 : ¬ 1 < fl := by omega
  have hsz := opqR_size h6
  have HU1 := Lib.hid hu1
  have HU2 := Lib.hid hu2
  have HU3 := Lib.hid hu3
  have HU4 := Lib.hid hu4
  have HU5 := Lib.hid hu5
  have HUB := Lib.hid hB
  have n7 := numR_len h7
  have n8 := opqR_len h8
  have H7 := Lib.hid h7
  have H8 := Lib.hid h8
  have HW8 := Lib.hid hw8
  have v0 : (fl2 != 0) = false := by simp [hv]
  have hm0 : (l8.length : Int).tmod 4 = ((l8.length % 4 : Nat) : Int) := by rw [Int.tmod_eq_emod_of_nonneg (by omega)]; omega
  have hm2 : (((l8.length : Int).tmod 4) != 0) = true := by rw [hm0]; simp; omega
  clear hw8 hv hm0
  clear hw6 hf h7 h8 hu1 hu2 hu3 hu4 hu5 hB
  have n1 := numR_len h1
  have n2 := numR_len h2
  have n3 := numR_len h3
  have n4 := numR_len h4
  have n5 := numR_len h5
  have n6 := opqR_len h6
  have H1 := Lib.hid h1
  have H2 := Lib.hid h2
  have H3 := Lib.hid h3
  have H4 := Lib.hid h4
  have H5 := Lib.hid h5
  have H6 := Lib.hid h6
  have HW := Lib.hid hw
  have HR := Lib.hid hR
  have HC := Lib.hid hc
  clear h1 h2 h3 h4 h5 h6 hR hc hw
  go_enter Tryz.func15, Tryz.ntmps15
  go_wp2_with fail
  refine (ruint_n p l 0 _ (HR.out.alloc _) (by omega) 2 l1 e1 H1.out).mono ?_
  rintro r w1 ⟨rfl, hR1, hO1⟩
  have HF1 := Lib.hid (Fq.ofOnly hO1)
  have HR1 := Lib.hid hR1
  clear hR1 hO1
  go_wp2_with fail
  refine (ruint_n p l1 e1 w1 HR1.out (by omega) prog l2 e2 H2.out).mono ?_
  rintro r w2 ⟨rfl, hR2, hO2⟩
  have HF2 := Lib.hid (HF1.out.trans (Fq.ofOnly hO2))
  have HR2 := Lib.hid hR2
  clear hR2 hO2
  go_wp2_with fail
  refine (ruint_n p l2 e2 w2 HR2.out (by omega) vers l3 e3 H3.out).mono ?_
  rintro r w3 ⟨rfl, hR3, hO3⟩
  have HF3 := Lib.hid (HF2.out.trans (Fq.ofOnly hO3))
  have HR3 := Lib.hid hR3
  clear hR3 hO3
  go_wp2_with fail
  refine (ruint_n p l3 e3 w3 HR3.out (by omega) proc l4 e4 H4.out).mono ?_
  rintro r w4 ⟨rfl, hR4, hO4⟩
  have HF4 := Lib.hid (HF3.out.trans (Fq.ofOnly hO4))
  have HR4 := Lib.hid hR4
  clear hR4 hO4
  go_wp2_with fail
  refine (well_any p l4 e4 _ (HR4.out.alloc _) true HW.out).mono ?_
  rintro r w' ⟨rfl, rfl⟩
  have HF5 := Lib.hid (HF4.out.alloc (.cells #[.int .i64 0, .int .i64 prog, .int .i64 vers, .int .i64 proc, .bool false, .int .i64 0, .string ⟨#[]⟩, .int .i64 0, .int .i64 0, .slice none 0 0, .string ⟨#[]⟩] 26))
  have hC5 : CAt (w4.alloc (.cells #[.int .i64 0, .int .i64 prog, .int .i64 vers, .int .i64 proc, .bool false, .int .i64 0, .string ⟨#[]⟩, .int .i64 0, .int .i64 0, .slice none 0 0, .string ⟨#[]⟩] 26)) w4.heap.size 0 prog vers proc false 0 ⟨#[]⟩ 0 0 (.slice none 0 0) ⟨#[]⟩ := heap_alloc_new w4 _
  have HR5 := Lib.hid (HR4.out.alloc (.cells #[.int .i64 0, .int .i64 prog, .int .i64 vers, .int .i64 proc, .bool false, .int .i64 0, .string ⟨#[]⟩, .int .i64 0, .int .i64 0, .slice none 0 0, .string ⟨#[]⟩] 26))
  obtain ⟨B, hB⟩ : ∃ B, B = w4.heap.size := ⟨_, rfl⟩
  rw [← hB] at hC5 ⊢
  have hBp : B ≠ p := by have := HR4.out.lt; omega
  have hB0 : (w.alloc (.cells #[.int .i64 0, .int .i64 0, .int .i64 0, .int .i64 0, .bool false, .int .i64 0, .string ⟨#[]⟩, .int .i64 0, .int .i64 0, .slice none 0 0, .string ⟨#[]⟩] 26)).heap.size ≤ B := by have := HF4.out.size; omega
  have hBs : w.heap.size < B := by have h1 : w.heap.size < (w.alloc (.cells #[.int .i64 0, .int .i64 0, .int .i64 0, .int .i64 0, .bool false, .int .i64 0, .string ⟨#[]⟩, .int .i64 0, .int .i64 0, .slice none 0 0, .string ⟨#[]⟩] 26)).heap.size := (by show w.heap.size < (w.heap.push _).size; rw [Array.size_push]; exact Nat.lt_succ_self _); have := HF4.out.size; omega
  have hBw : w.heap.size ≤ B := by have h0 := ((Fq.refl p w).alloc (.cells #[.int .i64 0, .int .i64 0, .int .i64 0, .int .i64 0, .bool false, .int .i64 0, .string ⟨#[]⟩, .int .i64 0, .int .i64 0, .slice none 0 0, .string ⟨#[]⟩] 26)).size; have := HF4.out.size; omega
  have HC5 := Lib.hid hC5
  clear hC5 hB HR4 HF4
  generalize w4.alloc (.cells #[.int .i64 0, .int .i64 prog, .int .i64 vers, .int .i64 proc, .bool false, .int .i64 0, .string ⟨#[]⟩, .int .i64 0, .int .i64 0, .slice none 0 0, .string ⟨#[]⟩] 26) = W5 at *
  go_wp2_with fail
  refine (ruint_n p l4 e4 W5 HR5.out (by omega) fl l5 e5 H5.out).mono ?_
  rintro r w6 ⟨rfl, hR6, hO6⟩
  have HR6 := Lib.hid hR6
  have HC6 := Lib.hid (HC5.out.only hO6 hBp)
  have HF6 := Lib.hid (HF5.out.trans (Fq.ofOnly hO6))
  clear hR6 hO6 HR5 HC5 HF5
  go_wp2_with fail
  refine (ropaque_n p l5 e5 400 w6 HR6.out (by omega) body l6 e6 H6.out).mono ?_
  rintro r w7 ⟨rfl, hR7, hO7⟩
  have HR7 := Lib.hid hR7
  have HC7 := Lib.hid (HC6.out.only hO7 hBp)
  have HF7 := Lib.hid (HF6.out.trans (Fq.ofOnly hO7))
  clear hR7 hO7 HR6 HC6 HF6
  go_wp2_with fail
  refine (well_any p l6 e6 w7 HR7.out true HW6.out).mono ?_
  rintro r w' ⟨rfl, rfl⟩
  go_wp2_with fail
  refine (unix_read B 0 prog vers proc body w7 HC7.out hsz st u1 g1 HU1.out m u2 g2 HU2.out uid u3 g3 HU3.out gid u4 g4 HU4.out k u5 g5 HU5.out true HUB.out).mono ?_
  rintro r v7 ⟨rfl, hq7, hv7⟩
  obtain ⟨vg, hC7, hO7, hG7⟩ := hv7 rfl
  have hg : ∀ g, vg.ownBlock = some g → g ≠ p ∧ g ≠ B ∧ g ≠ w.heap.size ∧ w.heap.size ≤ g := fun g e => by
    have := hG7 g e
    have h1 := HR7.out.lt
    have h2 := HC7.out.lt
    omega
  have HR7v := Lib.hid (HR7.out.fq HC7.out hq7)
  have HF7v := Lib.hid (HF7.out.far hq7 hB0)
  have HC7v := Lib.hid hC7
  have HO7v := Lib.hid hO7
  have HG := Lib.hid hg
  clear HR7 HF7 HC7 hC7 hO7 hG7 hq7 hv7 hg
  go_wp2_with fail
  refine (ruint_n p l6 e6 v7 HR7v.out (by omega) fl2 l7 e7 H7.out).mono ?_
  rintro r w8 ⟨rfl, hR8, hO8⟩
  have HR8 := Lib.hid hR8
  have HC8 := Lib.hid (HC7v.out.only hO8 hBp)
  have HF8 := Lib.hid (HF7v.out.trans (Fq.ofOnly hO8))
  have HO8v := Lib.hid (ownsRow_of HO7v.out fun g e => hO8.block g (HG.out g e).1)
  clear hR8 hO8 HR7v HC7v HF7v HO7v
  go_wp2_with fail
  refine (ropaque_n p l7 e7 0 w8 HR8.out (by omega) b8 l8 e8 H8.out).mono ?_
  rintro r w9 ⟨rfl, hR9, hO9⟩
  have HR9 := Lib.hid hR9
  have HC9 := Lib.hid (HC8.out.only hO9 hBp)
  have HF9 := Lib.hid (HF8.out.trans (Fq.ofOnly hO9))
  have HO9v := Lib.hid (ownsRow_of HO8v.out fun g e => hO9.block g (HG.out g e).1)
  have HFw := Lib.hid (((Fq.refl p w).alloc (.cells #[.int .i64 0, .int .i64 0, .int .i64 0, .int .i64 0, .bool false, .int .i64 0, .string ⟨#[]⟩, .int .i64 0, .int .i64 0, .slice none 0 0, .string ⟨#[]⟩] 26)).trans HF9.out)
  have hc9 := HFw.out.cell hx hxp HC.out
  clear hR9 hO9 HR8 HC8 HF8 HO8v
  go_wp2_with fail
  refine (well_any p l8 e8 w9 HR9.out true HW8.out).mono ?_
  rintro r w' ⟨rfl, rfl⟩
  go_wp2_with fail
  refine (left_same' p l8 e8 w9 HR9.out).mono ?_
  rintro r w' ⟨rfl, rfl⟩
  go_wp2_with fail
  refine (refuse32 x xid 7 3 0 w9 hc9).mono ?_
  rintro r w' ⟨rfl, rfl⟩
  go_wp2
  exact ⟨rfl, rfl, HFw.out⟩

set_option maxRecDepth 100000 in
set_option maxHeartbeats 1000000 in
/-- A call with AUTH_SYS. -/
theorem unix_ok (p x : Nat) (xid : Int) (l : List UInt8) (w : World) (hR : Rd w p l 0) (hl : l.length ≤ 65536) (hc : w.cell? ⟨x, 0, none⟩ = some (.int .i64 xid)) (hx : x < w.heap.size) (hxp : x ≠ p)
    (l1 : List UInt8) (e1 : Int) (h1 : numR 4 l 0 = (2, l1, e1)) (prog : Int) (l2 : List UInt8) (e2 : Int) (h2 : numR 4 l1 e1 = (prog, l2, e2)) (vers : Int) (l3 : List UInt8) (e3 : Int) (h3 : numR 4 l2 e2 = (vers, l3, e3)) (proc : Int) (l4 : List UInt8) (e4 : Int) (h4 : numR 4 l3 e3 = (proc, l4, e4))
    (hw : wellR l4 e4 = true) (fl : Int) (l5 : List UInt8) (e5 : Int) (h5 : numR 4 l4 e4 = (fl, l5, e5)) (body : ByteArray) (l6 : List UInt8) (e6 : Int) (h6 : opqR 400 l5 e5 = (body, l6, e6))
    (hw6 : wellR l6 e6 = true) (hf : fl = 1) (st : Int) (u1 : List UInt8) (g1 : Int) (hu1 : numR 4 body.data.toList 0 = (st, u1, g1)) (m : ByteArray) (u2 : List UInt8) (g2 : Int) (hu2 : opqR 255 u1 g1 = (m, u2, g2))
    (uid : Int) (u3 : List UInt8) (g3 : Int) (hu3 : numR 4 u2 g2 = (uid, u3, g3)) (gid : Int) (u4 : List UInt8) (g4 : Int) (hu4 : numR 4 u3 g3 = (gid, u4, g4)) (k : Nat) (u5 : List UInt8) (g5 : Int) (hu5 : numR 4 u4 g4 = ((k : Int), u5, g5))
    (hB : (decide (k ≤ 16) && (endR (grpR u5 g5 k).2.1 (grpR u5 g5 k).2.2 == 0)) = true)
    (fl2 : Int) (l7 : List UInt8) (e7 : Int) (h7 : numR 4 l6 e6 = (fl2, l7, e7)) (b8 : ByteArray) (l8 : List UInt8) (e8 : Int) (h8 : opqR 0 l7 e7 = (b8, l8, e8))
    (hw8 : wellR l8 e8 = true) (hv : fl2 = 0) (hm : l8.length % 4 = 0) (args : ByteArray) (l9 : List UInt8) (e9 : Int) (h9 : fixR l8.length l8 e8 = (args, l9, e9)) :
    Calls Tryz.prog 15 #[.pointer (some ⟨p, 0, none⟩), .func (.func 12) #[] #[.pointer (some ⟨x, 0, none⟩)]] w fun r w' => TkTo p prog vers proc true st m uid gid (grpR u5 g5 k).1 args w r w' := by
  have HW6 := Lib.hid hw6
  have f0 : (fl == 0) = false := by simp [hf]
  have f1 : (fl == 1) = true := by simp [hf]
  have f2 : ¬ 1 < fl := by omega
  have hsz := opqR_size h6
  have HU1 := Lib.hid hu1
  have HU2 := Lib.hid hu2
  have HU3 := Lib.hid hu3
  have HU4 := Lib.hid hu4
  have HU5 := Lib.hid hu5
  have HUB := Lib.hid hB
  have n7 := numR_len h7
  have n8 := opqR_len h8
  have H7 := Lib.hid h7
  have H8 := Lib.hid h8
  have HW8 := Lib.hid hw8
  have H9 := Lib.hid h9
  have v0 : (fl2 != 0) = false := by simp [hv]
  have hm0 : (l8.length : Int).tmod 4 = ((l8.length % 4 : Nat) : Int) := by rw [Int.tmod_eq_emod_of_nonneg (by omega)]; omega
  have hm2 : (((l8.length : Int).tmod 4) != 0) = false := by rw [hm0, hm]; rfl
  clear hw8 hv h9 hm0
  clear hw6 hf h7 h8 hu1 hu2 hu3 hu4 hu5 hB
  have n1 := numR_len h1
  have n2 := numR_len h2
  have n3 := numR_len h3
  have n4 := numR_len h4
  have n5 := numR_len h5
  have n6 := opqR_len h6
  have H1 := Lib.hid h1
  have H2 := Lib.hid h2
  have H3 := Lib.hid h3
  have H4 := Lib.hid h4
  have H5 := Lib.hid h5
  have H6 := Lib.hid h6
  have HW := Lib.hid hw
  have HR := Lib.hid hR
  have HC := Lib.hid hc
  clear h1 h2 h3 h4 h5 h6 hR hc hw
  go_enter Tryz.func15, Tryz.ntmps15
  go_wp2_with fail
  refine (ruint_n p l 0 _ (HR.out.alloc _) (by omega) 2 l1 e1 H1.out).mono ?_
  rintro r w1 ⟨rfl, hR1, hO1⟩
  have HF1 := Lib.hid (Fq.ofOnly hO1)
  have HR1 := Lib.hid hR1
  clear hR1 hO1
  go_wp2_with fail
  refine (ruint_n p l1 e1 w1 HR1.out (by omega) prog l2 e2 H2.out).mono ?_
  rintro r w2 ⟨rfl, hR2, hO2⟩
  have HF2 := Lib.hid (HF1.out.trans (Fq.ofOnly hO2))
  have HR2 := Lib.hid hR2
  clear hR2 hO2
  go_wp2_with fail
  refine (ruint_n p l2 e2 w2 HR2.out (by omega) vers l3 e3 H3.out).mono ?_
  rintro r w3 ⟨rfl, hR3, hO3⟩
  have HF3 := Lib.hid (HF2.out.trans (Fq.ofOnly hO3))
  have HR3 := Lib.hid hR3
  clear hR3 hO3
  go_wp2_with fail
  refine (ruint_n p l3 e3 w3 HR3.out (by omega) proc l4 e4 H4.out).mono ?_
  rintro r w4 ⟨rfl, hR4, hO4⟩
  have HF4 := Lib.hid (HF3.out.trans (Fq.ofOnly hO4))
  have HR4 := Lib.hid hR4
  clear hR4 hO4
  go_wp2_with fail
  refine (well_any p l4 e4 _ (HR4.out.alloc _) true HW.out).mono ?_
  rintro r w' ⟨rfl, rfl⟩
  have HF5 := Lib.hid (HF4.out.alloc (.cells #[.int .i64 0, .int .i64 prog, .int .i64 vers, .int .i64 proc, .bool false, .int .i64 0, .string ⟨#[]⟩, .int .i64 0, .int .i64 0, .slice none 0 0, .string ⟨#[]⟩] 26))
  have hC5 : CAt (w4.alloc (.cells #[.int .i64 0, .int .i64 prog, .int .i64 vers, .int .i64 proc, .bool false, .int .i64 0, .string ⟨#[]⟩, .int .i64 0, .int .i64 0, .slice none 0 0, .string ⟨#[]⟩] 26)) w4.heap.size 0 prog vers proc false 0 ⟨#[]⟩ 0 0 (.slice none 0 0) ⟨#[]⟩ := heap_alloc_new w4 _
  have HR5 := Lib.hid (HR4.out.alloc (.cells #[.int .i64 0, .int .i64 prog, .int .i64 vers, .int .i64 proc, .bool false, .int .i64 0, .string ⟨#[]⟩, .int .i64 0, .int .i64 0, .slice none 0 0, .string ⟨#[]⟩] 26))
  obtain ⟨B, hB⟩ : ∃ B, B = w4.heap.size := ⟨_, rfl⟩
  rw [← hB] at hC5 ⊢
  have hBp : B ≠ p := by have := HR4.out.lt; omega
  have hB0 : (w.alloc (.cells #[.int .i64 0, .int .i64 0, .int .i64 0, .int .i64 0, .bool false, .int .i64 0, .string ⟨#[]⟩, .int .i64 0, .int .i64 0, .slice none 0 0, .string ⟨#[]⟩] 26)).heap.size ≤ B := by have := HF4.out.size; omega
  have hBs : w.heap.size < B := by have h1 : w.heap.size < (w.alloc (.cells #[.int .i64 0, .int .i64 0, .int .i64 0, .int .i64 0, .bool false, .int .i64 0, .string ⟨#[]⟩, .int .i64 0, .int .i64 0, .slice none 0 0, .string ⟨#[]⟩] 26)).heap.size := (by show w.heap.size < (w.heap.push _).size; rw [Array.size_push]; exact Nat.lt_succ_self _); have := HF4.out.size; omega
  have hBw : w.heap.size ≤ B := by have h0 := ((Fq.refl p w).alloc (.cells #[.int .i64 0, .int .i64 0, .int .i64 0, .int .i64 0, .bool false, .int .i64 0, .string ⟨#[]⟩, .int .i64 0, .int .i64 0, .slice none 0 0, .string ⟨#[]⟩] 26)).size; have := HF4.out.size; omega
  have HC5 := Lib.hid hC5
  clear hC5 hB HR4 HF4
  generalize w4.alloc (.cells #[.int .i64 0, .int .i64 prog, .int .i64 vers, .int .i64 proc, .bool false, .int .i64 0, .string ⟨#[]⟩, .int .i64 0, .int .i64 0, .slice none 0 0, .string ⟨#[]⟩] 26) = W5 at *
  go_wp2_with fail
  refine (ruint_n p l4 e4 W5 HR5.out (by omega) fl l5 e5 H5.out).mono ?_
  rintro r w6 ⟨rfl, hR6, hO6⟩
  have HR6 := Lib.hid hR6
  have HC6 := Lib.hid (HC5.out.only hO6 hBp)
  have HF6 := Lib.hid (HF5.out.trans (Fq.ofOnly hO6))
  clear hR6 hO6 HR5 HC5 HF5
  go_wp2_with fail
  refine (ropaque_n p l5 e5 400 w6 HR6.out (by omega) body l6 e6 H6.out).mono ?_
  rintro r w7 ⟨rfl, hR7, hO7⟩
  have HR7 := Lib.hid hR7
  have HC7 := Lib.hid (HC6.out.only hO7 hBp)
  have HF7 := Lib.hid (HF6.out.trans (Fq.ofOnly hO7))
  clear hR7 hO7 HR6 HC6 HF6
  go_wp2_with fail
  refine (well_any p l6 e6 w7 HR7.out true HW6.out).mono ?_
  rintro r w' ⟨rfl, rfl⟩
  go_wp2_with fail
  refine (unix_read B 0 prog vers proc body w7 HC7.out hsz st u1 g1 HU1.out m u2 g2 HU2.out uid u3 g3 HU3.out gid u4 g4 HU4.out k u5 g5 HU5.out true HUB.out).mono ?_
  rintro r v7 ⟨rfl, hq7, hv7⟩
  obtain ⟨vg, hC7, hO7, hG7⟩ := hv7 rfl
  have hg : ∀ g, vg.ownBlock = some g → g ≠ p ∧ g ≠ B ∧ g ≠ w.heap.size ∧ w.heap.size ≤ g := fun g e => by
    have := hG7 g e
    have h1 := HR7.out.lt
    have h2 := HC7.out.lt
    omega
  have HR7v := Lib.hid (HR7.out.fq HC7.out hq7)
  have HF7v := Lib.hid (HF7.out.far hq7 hB0)
  have HC7v := Lib.hid hC7
  have HO7v := Lib.hid hO7
  have HG := Lib.hid hg
  clear HR7 HF7 HC7 hC7 hO7 hG7 hq7 hv7 hg
  go_wp2_with fail
  refine (ruint_n p l6 e6 v7 HR7v.out (by omega) fl2 l7 e7 H7.out).mono ?_
  rintro r w8 ⟨rfl, hR8, hO8⟩
  have HR8 := Lib.hid hR8
  have HC8 := Lib.hid (HC7v.out.only hO8 hBp)
  have HF8 := Lib.hid (HF7v.out.trans (Fq.ofOnly hO8))
  have HO8v := Lib.hid (ownsRow_of HO7v.out fun g e => hO8.block g (HG.out g e).1)
  clear hR8 hO8 HR7v HC7v HF7v HO7v
  go_wp2_with fail
  refine (ropaque_n p l7 e7 0 w8 HR8.out (by omega) b8 l8 e8 H8.out).mono ?_
  rintro r w9 ⟨rfl, hR9, hO9⟩
  have HR9 := Lib.hid hR9
  have HC9 := Lib.hid (HC8.out.only hO9 hBp)
  have HF9 := Lib.hid (HF8.out.trans (Fq.ofOnly hO9))
  have HO9v := Lib.hid (ownsRow_of HO8v.out fun g e => hO9.block g (HG.out g e).1)
  have HFw := Lib.hid (((Fq.refl p w).alloc (.cells #[.int .i64 0, .int .i64 0, .int .i64 0, .int .i64 0, .bool false, .int .i64 0, .string ⟨#[]⟩, .int .i64 0, .int .i64 0, .slice none 0 0, .string ⟨#[]⟩] 26)).trans HF9.out)
  have hc9 := HFw.out.cell hx hxp HC.out
  clear hR9 hO9 HR8 HC8 HF8 HO8v
  go_wp2_with fail
  refine (well_any p l8 e8 w9 HR9.out true HW8.out).mono ?_
  rintro r w' ⟨rfl, rfl⟩
  go_wp2_with fail
  refine (left_same' p l8 e8 w9 HR9.out).mono ?_
  rintro r w' ⟨rfl, rfl⟩
  go_wp2_with fail
  refine (left_same' p l8 e8 w9 HR9.out).mono ?_
  rintro r w' ⟨rfl, rfl⟩
  go_wp2_with fail
  refine (rfixed_n p l8 e8 l8.length w9 HR9.out (by omega) (by omega) args l9 e9 H9.out).mono ?_
  rintro r w10 ⟨rfl, hR10, hO10⟩
  have HC10 := Lib.hid (HC9.out.only hO10 hBp)
  have HF10 := Lib.hid (HF9.out.trans (Fq.ofOnly hO10))
  have HO10v := Lib.hid (ownsRow_of HO9v.out fun g e => hO10.block g (HG.out g e).1)
  have hZp : w.heap.size ≠ p := by have := HR.out.lt; omega
  have hZ : CAt w10 w.heap.size 0 0 0 0 false 0 ⟨#[]⟩ 0 0 (.slice none 0 0) ⟨#[]⟩ := (HF10.out.block _ (by show w.heap.size < (w.heap.push _).size; rw [Array.size_push]; exact Nat.lt_succ_self _) hZp).trans (heap_alloc_new w _)
  obtain ⟨vo, va, vc, rfl⟩ := owned_slice HO10v.out
  have HZ := Lib.hid hZ
  clear hR10 hO10
  have hBZ : B ≠ w.heap.size := by omega
  have hZB : w.heap.size ≠ B := by omega
  have hBf := HC10.out.free 10
  obtain ⟨b0, b1, b2, b3, b4, b5, b6, b7, b8', b9, b10⟩ := HC10.out.all
  obtain ⟨z0, z1, z2, z3, z4, z5, z6, z7, z8, z9, z10⟩ := hZ.all
  have y0 := hZ.free 0
  have y1 := hZ.free 1
  have y2 := hZ.free 2
  have y3 := hZ.free 3
  have y4 := hZ.free 4
  have y5 := hZ.free 5
  have y6 := hZ.free 6
  have y7 := hZ.free 7
  have y8 := hZ.free 8
  have y9 := hZ.free 9
  have y10 := hZ.free 10
  clear hZ
  go_wp2
  obtain ⟨q1, q2, q3⟩ := lay11 p w.heap.size B w w10 (((Fq.refl p w).alloc (.cells #[.int .i64 0, .int .i64 0, .int .i64 0, .int .i64 0, .bool false, .int .i64 0, .string ⟨#[]⟩, .int .i64 0, .int .i64 0, .slice none 0 0, .string ⟨#[]⟩] 26)).trans HF10.out) (Nat.le_refl _) hBw HZ.out hBZ 0 prog vers proc true st m uid gid (.slice vo va vc) args _ rfl
  refine bodyPost_ret (results_cell_row rfl _ _ w.heap.size 26 _ (0, 0) _ rfl q1 Tryz.underlying26 rfl (by kernel_rfl)) rfl ?_
  have hkl := (grpR_len u5 g5 k).1
  refine ⟨_, rfl, ?_, fun g e => (HG.out g e).2.2.2, q2⟩
  rw [hkl]
  exact ownsRow_of HO10v.out fun g e => q3 g (HG.out g e).2.2.1 (HG.out g e).2.1

end Go.Proofs.YtihkjgfghjgblaaGreatDoor.R
namespace Go.Proofs.YtihkjgfghjgblaaGreatDoor.R
open Go.RowKit

/-- The bytes of a reply. -/
def Rp.bytes (r : Rp) : ByteArray := if r.ok then restS r.head r.body else ⟨#[]⟩

theorem putReply_n (r : Rp) (w : World) (hs : r.body.size ≤ 9223372036854700000) (S : ByteArray) (hS : r.bytes = S) :
    Calls Tryz.prog 17 #[.agg #[.int .i64 r.xid, .int .i64 r.v, .int .i64 r.low, .int .i64 r.high, .string r.body]] w
      fun e w' => ∃ c : Int, e = .returned (.tuple #[.string S, .int .i64 c]) ∧ Below w.heap.size w w' := by
  subst hS
  refine (putReply_any r w hs).mono ?_
  rintro e w' ⟨rfl, h⟩
  exact ⟨_, rfl, h⟩

set_option maxRecDepth 100000 in
set_option maxHeartbeats 400000 in
theorem refused_any (xid v lo hi : Int) (w : World) : Calls Tryz.prog 14 #[.iface 47 (.agg #[.int .i64 xid, .int .i64 v, .int .i64 lo, .int .i64 hi, .string ⟨#[]⟩])] w fun r w' => r = .returned (.string (Rp.mk xid v lo hi ⟨#[]⟩).bytes) ∧ Below w.heap.size w w' := by
  have hta : ∀ w : World, (Instr.typeAssert (.iface 47 (.agg #[.int .i64 xid, .int .i64 v, .int .i64 lo, .int .i64 hi, .string ⟨#[]⟩])) 20 47 true).run Tryz.prog w = .ok (.tuple #[.agg #[.int .i64 xid, .int .i64 v, .int .i64 lo, .int .i64 hi, .string ⟨#[]⟩], .bool true]) w := fun w => by kernel_rfl
  obtain ⟨S, hS⟩ : ∃ S, (Rp.mk xid v lo hi ⟨#[]⟩).bytes = S := ⟨_, rfl⟩
  rw [hS]
  have HS := Lib.hid hS
  clear hS
  go_enter Tryz.func14, Tryz.ntmps14
  go_wp2_with fail
  refine (putReply_n (Rp.mk xid v lo hi ⟨#[]⟩) _ (by show (#[] : Array UInt8).size ≤ _; simp) S HS.out).mono ?_
  rintro r w' ⟨c, rfl, hB⟩
  have HB := Lib.hid hB
  clear hB
  go_wp2
  go_ret
  exact ⟨rfl, ((Below.refl _ _).alloc (Nat.le_refl _) _).trans ⟨HB.out.os, HB.out.tape, HB.out.output, HB.out.size, fun k hk => HB.out.block k (by show k < (w.heap.push _).size; rw [Array.size_push]; omega)⟩⟩

/-- The three results of GetCall, each in a block of its own. -/
abbrev errB (e : Int) : Value := .int .i64 e
set_option maxRecDepth 100000 in
set_option maxHeartbeats 400000 in
theorem idle33 (a b c : Nat) (w : World) :
    CallsD Tryz.prog 13 #[.pointer (some ⟨a, 0, none⟩), .pointer (some ⟨b, 0, none⟩), .pointer (some ⟨c, 0, none⟩)] .returning w fun r u' w' => r = .returned (.tuple #[]) ∧ u' = .returning ∧ w' = w := by
  refine callsD_of_wpS Tryz.func13 rfl fun c₀ cs hu => ?_
  apply wpS_seq
  apply wpS_region
  simp [wpOpsS, go_sem, recoverD, hu, Tryz.ntmps13, Exit.thenS]
  refine wpS_of_wp ?_
  go_wp2_with fail
  cases c₀
  simp_all [bodyPostS, results, Tryz.results13]

theorem laid33 (a b c : Nat) (w w1 : World) (S : ByteArray) (hB : Below w.heap.size w w1) (hA : CAt w1 a 0 0 0 0 false 0 ⟨#[]⟩ 0 0 (.slice none 0 0) ⟨#[]⟩) (hb : w1.heap[b]? = some (.cells #[.string ⟨#[]⟩] 9 (0, 0))) (hc : w1.heap[c]? = some (.cells #[.int .i64 0] 27 (0, 0))) (hab : a ≠ b) (hac : a ≠ c) (hbc : b ≠ c) (W : World)
    (hW : W = (((((((((((((w1.setCell ⟨a, 0, none⟩ (.int .i64 0)).setCell ⟨a, 1, none⟩ (.int .i64 0)).setCell ⟨a, 2, none⟩ (.int .i64 0)).setCell ⟨a, 3, none⟩ (.int .i64 0)).setCell ⟨a, 4, none⟩ (.bool false)).setCell ⟨a, 5, none⟩ (.int .i64 0)).setCell ⟨a, 6, none⟩ (.string ⟨#[]⟩)).setCell ⟨a, 7, none⟩ (.int .i64 0)).setCell ⟨a, 8, none⟩ (.int .i64 0)).setCell ⟨a, 9, none⟩ (.slice none 0 0)).setCell ⟨a, 10, none⟩ (.string ⟨#[]⟩)).setCell ⟨b, 0, none⟩ (.string S)).setCell ⟨c, 0, none⟩ (.int .i64 62))) :
    CAt W a 0 0 0 0 false 0 ⟨#[]⟩ 0 0 (.slice none 0 0) ⟨#[]⟩ ∧ W.heap[b]? = some (.cells #[.string S] 9 (0, 0)) ∧ W.heap[c]? = some (.cells #[.int .i64 62] 27 (0, 0)) ∧ W.os = w.os ∧ W.tape = w.tape ∧ W.output = w.output ∧ w.heap.size ≤ W.heap.size ∧ ∀ k, k < w.heap.size → k ≠ a → k ≠ b → k ≠ c → W.heap[k]? = w.heap[k]? := by
  have o1 : Only a w1 (((((((((((w1.setCell ⟨a, 0, none⟩ (.int .i64 0)).setCell ⟨a, 1, none⟩ (.int .i64 0)).setCell ⟨a, 2, none⟩ (.int .i64 0)).setCell ⟨a, 3, none⟩ (.int .i64 0)).setCell ⟨a, 4, none⟩ (.bool false)).setCell ⟨a, 5, none⟩ (.int .i64 0)).setCell ⟨a, 6, none⟩ (.string ⟨#[]⟩)).setCell ⟨a, 7, none⟩ (.int .i64 0)).setCell ⟨a, 8, none⟩ (.int .i64 0)).setCell ⟨a, 9, none⟩ (.slice none 0 0)).setCell ⟨a, 10, none⟩ (.string ⟨#[]⟩)) := (((((((((((Only.refl _ _).set 0 _).set 1 _).set 2 _).set 3 _).set 4 _).set 5 _).set 6 _).set 7 _).set 8 _).set 9 _).set 10 _
  have h1 : CAt (((((((((((w1.setCell ⟨a, 0, none⟩ (.int .i64 0)).setCell ⟨a, 1, none⟩ (.int .i64 0)).setCell ⟨a, 2, none⟩ (.int .i64 0)).setCell ⟨a, 3, none⟩ (.int .i64 0)).setCell ⟨a, 4, none⟩ (.bool false)).setCell ⟨a, 5, none⟩ (.int .i64 0)).setCell ⟨a, 6, none⟩ (.string ⟨#[]⟩)).setCell ⟨a, 7, none⟩ (.int .i64 0)).setCell ⟨a, 8, none⟩ (.int .i64 0)).setCell ⟨a, 9, none⟩ (.slice none 0 0)).setCell ⟨a, 10, none⟩ (.string ⟨#[]⟩)) a 0 0 0 0 false 0 ⟨#[]⟩ 0 0 (.slice none 0 0) ⟨#[]⟩ := (((((((((((hA.s0 0).s1 0).s2 0).s3 0).s4 false).s5 0).s6 ⟨#[]⟩).s7 0).s8 0).s9 (.slice none 0 0)).s10 ⟨#[]⟩)
  generalize (((((((((((w1.setCell ⟨a, 0, none⟩ (.int .i64 0)).setCell ⟨a, 1, none⟩ (.int .i64 0)).setCell ⟨a, 2, none⟩ (.int .i64 0)).setCell ⟨a, 3, none⟩ (.int .i64 0)).setCell ⟨a, 4, none⟩ (.bool false)).setCell ⟨a, 5, none⟩ (.int .i64 0)).setCell ⟨a, 6, none⟩ (.string ⟨#[]⟩)).setCell ⟨a, 7, none⟩ (.int .i64 0)).setCell ⟨a, 8, none⟩ (.int .i64 0)).setCell ⟨a, 9, none⟩ (.slice none 0 0)).setCell ⟨a, 10, none⟩ (.string ⟨#[]⟩)) = v at *
  have hb1 := (o1.block b hab.symm).trans hb
  have hc1 := (o1.block c hac.symm).trans hc
  have o2 : Only b v (v.setCell ⟨b, 0, none⟩ (.string S)) := (Only.refl _ _).set 0 _
  have hb2 : (v.setCell ⟨b, 0, none⟩ (.string S)).heap[b]? = some (.cells #[.string S] 9 (0, 0)) := by rw [heap_set _ hb1]; rfl
  have h2 := h1.only o2 hab
  have hc2 := (o2.block c hbc.symm).trans hc1
  generalize v.setCell ⟨b, 0, none⟩ (.string S) = u at *
  have o3 : Only c u W := by rw [hW]; exact (Only.refl _ _).set 0 _
  have hc3 : W.heap[c]? = some (.cells #[.int .i64 62] 27 (0, 0)) := by rw [hW, heap_set _ hc2]; rfl
  refine ⟨h2.only o3 hac, (o3.block b hbc).trans hb2, hc3, o3.os.trans (o2.os.trans (o1.os.trans hB.os)), o3.tape.trans (o2.tape.trans (o1.tape.trans hB.tape)), o3.output.trans (o2.output.trans (o1.output.trans hB.output)), ?_, fun k hk ha hb hc => (o3.block k hc).trans ((o2.block k hb).trans ((o1.block k ha).trans (hB.block k hk)))⟩
  rw [o3.size, o2.size, o1.size]
  exact hB.size


set_option maxRecDepth 100000 in
set_option maxHeartbeats 1000000 in
theorem catch33 (a b c : Nat) (xid v lo hi : Int) (w : World) (hA : CAt w a 0 0 0 0 false 0 ⟨#[]⟩ 0 0 (.slice none 0 0) ⟨#[]⟩) (hb : w.heap[b]? = some (.cells #[.string ⟨#[]⟩] 9 (0, 0))) (hc : w.heap[c]? = some (.cells #[.int .i64 0] 27 (0, 0))) :
    CallsD Tryz.prog 13 #[.pointer (some ⟨a, 0, none⟩), .pointer (some ⟨b, 0, none⟩), .pointer (some ⟨c, 0, none⟩)] (.panicking [{ v := .iface 47 (.agg #[.int .i64 xid, .int .i64 v, .int .i64 lo, .int .i64 hi, .string ⟨#[]⟩]), recovered := false }]) w fun r u' w' =>
      r = .returned (.tuple #[]) ∧ u' = .panicking [{ v := .iface 47 (.agg #[.int .i64 xid, .int .i64 v, .int .i64 lo, .int .i64 hi, .string ⟨#[]⟩]), recovered := true }] ∧
      CAt w' a 0 0 0 0 false 0 ⟨#[]⟩ 0 0 (.slice none 0 0) ⟨#[]⟩ ∧ w'.heap[b]? = some (.cells #[.string (Rp.mk xid v lo hi ⟨#[]⟩).bytes] 9 (0, 0)) ∧ w'.heap[c]? = some (.cells #[.int .i64 62] 27 (0, 0)) ∧ w'.os = w.os ∧ w'.tape = w.tape ∧ w'.output = w.output ∧ w.heap.size ≤ w'.heap.size ∧ ∀ k, k < w.heap.size → k ≠ a → k ≠ b → k ≠ c → w'.heap[k]? = w.heap[k]? := by
  obtain ⟨S, hS⟩ : ∃ S, (Rp.mk xid v lo hi ⟨#[]⟩).bytes = S := ⟨_, rfl⟩
  rw [hS]
  have hr := refused_any xid v lo hi w
  rw [hS] at hr
  have HR := Lib.hid hr
  have HA := Lib.hid hA
  have HBB := Lib.hid hb
  have HCC := Lib.hid hc
  have hla := hA.lt
  have hlb := (Array.getElem?_eq_some_iff.mp hb).1
  have hlc := (Array.getElem?_eq_some_iff.mp hc).1
  clear hS hr hA hb hc
  refine callsD_of_wpS Tryz.func13 rfl fun c₀ cs hu => ?_
  apply wpS_seq
  apply wpS_region
  simp [wpOpsS, go_sem, recoverD, hu, Tryz.ntmps13, Exit.thenS]
  refine wpS_of_wp ?_
  go_wp2_with fail
  refine HR.out.mono ?_
  rintro r w1 ⟨rfl, hB⟩
  have hA1 : CAt w1 a 0 0 0 0 false 0 ⟨#[]⟩ 0 0 (.slice none 0 0) ⟨#[]⟩ := (hB.block a hla).trans HA.out
  have hb1 := (hB.block b hlb).trans HBB.out
  have hc1 := (hB.block c hlc).trans HCC.out
  have HA1 := Lib.hid hA1
  have HB1 := Lib.hid hb1
  have HC1 := Lib.hid hc1
  have HBel := Lib.hid hB
  obtain ⟨z0, z1, z2, z3, z4, z5, z6, z7, z8, z9, z10⟩ := hA1.all
  have y0 := hA1.free 0
  have y1 := hA1.free 1
  have y2 := hA1.free 2
  have y3 := hA1.free 3
  have y4 := hA1.free 4
  have y5 := hA1.free 5
  have y6 := hA1.free 6
  have y7 := hA1.free 7
  have y8 := hA1.free 8
  have y9 := hA1.free 9
  have y10 := hA1.free 10
  have bz := Lib.frozen_of_heap hb1 0
  have cz := Lib.frozen_of_heap hc1 0
  have bc : w1.cell? ⟨b, 0, none⟩ = some (.string ⟨#[]⟩) := by rw [cell_of_row w1 b 0 _ _ _ hb1]; rfl
  have cc : w1.cell? ⟨c, 0, none⟩ = some (.int .i64 0) := by rw [cell_of_row w1 c 0 _ _ _ hc1]; rfl
  have hab : a ≠ b := by rintro rfl; have h := (show w1.heap[a]? = _ from HA1.out).symm.trans HB1.out; injection h with h; injection h with _ h _; exact absurd h (by decide)
  have hac : a ≠ c := by rintro rfl; have h := (show w1.heap[a]? = _ from HA1.out).symm.trans HC1.out; injection h with h; injection h with _ h _; exact absurd h (by decide)
  have hbc : b ≠ c := by rintro rfl; have h := HB1.out.symm.trans HC1.out; injection h with h; injection h with _ h _; exact absurd h (by decide)
  have hba := hab.symm
  have hca := hac.symm
  have hcb := hbc.symm
  clear hA1 hb1 hc1 hB
  go_wp2
  have hQ := laid33 a b c w w1 S HBel.out HA1.out HB1.out HC1.out hab hac hbc (((((((((((((w1.setCell ⟨a, 0, none⟩ (.int .i64 0)).setCell ⟨a, 1, none⟩ (.int .i64 0)).setCell ⟨a, 2, none⟩ (.int .i64 0)).setCell ⟨a, 3, none⟩ (.int .i64 0)).setCell ⟨a, 4, none⟩ (.bool false)).setCell ⟨a, 5, none⟩ (.int .i64 0)).setCell ⟨a, 6, none⟩ (.string ⟨#[]⟩)).setCell ⟨a, 7, none⟩ (.int .i64 0)).setCell ⟨a, 8, none⟩ (.int .i64 0)).setCell ⟨a, 9, none⟩ (.slice none 0 0)).setCell ⟨a, 10, none⟩ (.string ⟨#[]⟩)).setCell ⟨b, 0, none⟩ (.string S)).setCell ⟨c, 0, none⟩ (.int .i64 62)) rfl
  generalize (((((((((((((w1.setCell ⟨a, 0, none⟩ (.int .i64 0)).setCell ⟨a, 1, none⟩ (.int .i64 0)).setCell ⟨a, 2, none⟩ (.int .i64 0)).setCell ⟨a, 3, none⟩ (.int .i64 0)).setCell ⟨a, 4, none⟩ (.bool false)).setCell ⟨a, 5, none⟩ (.int .i64 0)).setCell ⟨a, 6, none⟩ (.string ⟨#[]⟩)).setCell ⟨a, 7, none⟩ (.int .i64 0)).setCell ⟨a, 8, none⟩ (.int .i64 0)).setCell ⟨a, 9, none⟩ (.slice none 0 0)).setCell ⟨a, 10, none⟩ (.string ⟨#[]⟩)).setCell ⟨b, 0, none⟩ (.string S)).setCell ⟨c, 0, none⟩ (.int .i64 62)) = W at hQ ⊢
  obtain ⟨k1, k2, k3, k4, k5, k6, k7, k8⟩ := hQ
  simp [bodyPostS, results, Tryz.results13]
  exact ⟨k1, k2, k3, k4, k5, k6, k7, k8⟩
end Go.Proofs.YtihkjgfghjgblaaGreatDoor.R
namespace Go.Proofs.YtihkjgfghjgblaaGreatDoor.R
open Go.RowKit

/-- The three results, each in its block, and what lay before the call is as it was. -/
structure G3 (w wv : World) : Prop where
  a : CAt wv w.heap.size 0 0 0 0 false 0 ⟨#[]⟩ 0 0 (.slice none 0 0) ⟨#[]⟩
  b : wv.heap[w.heap.size + 1]? = some (.cells #[.string ⟨#[]⟩] 9 (0, 0))
  c : wv.heap[w.heap.size + 1 + 1]? = some (.cells #[.int .i64 0] 27 (0, 0))
  below : Below w.heap.size w wv
theorem G3.start (w : World) : G3 w (((w.alloc (.cells #[.int .i64 0, .int .i64 0, .int .i64 0, .int .i64 0, .bool false, .int .i64 0, .string ⟨#[]⟩, .int .i64 0, .int .i64 0, .slice none 0 0, .string ⟨#[]⟩] 26)).alloc (.cells #[.string ⟨#[]⟩] 9)).alloc (.cells #[.int .i64 0] 27)) ∧ (((w.alloc (.cells #[.int .i64 0, .int .i64 0, .int .i64 0, .int .i64 0, .bool false, .int .i64 0, .string ⟨#[]⟩, .int .i64 0, .int .i64 0, .slice none 0 0, .string ⟨#[]⟩] 26)).alloc (.cells #[.string ⟨#[]⟩] 9)).alloc (.cells #[.int .i64 0] 27)).heap.size = w.heap.size + 3 := by
  refine ⟨⟨?_, ?_, ?_, (((Below.refl _ _).alloc (Nat.le_refl _) _).alloc (by simp) _).alloc (by simp; omega) _⟩, by simp⟩
  · exact (heap_alloc_old _ _ (by simp; omega)).trans ((heap_alloc_old _ _ (by simp)).trans (heap_alloc_new w _))
  · have := heap_alloc_new (w.alloc (.cells #[.int .i64 0, .int .i64 0, .int .i64 0, .int .i64 0, .bool false, .int .i64 0, .string ⟨#[]⟩, .int .i64 0, .int .i64 0, .slice none 0 0, .string ⟨#[]⟩] 26)) (.cells #[.string ⟨#[]⟩] 9)
    rw [show (w.alloc (.cells #[.int .i64 0, .int .i64 0, .int .i64 0, .int .i64 0, .bool false, .int .i64 0, .string ⟨#[]⟩, .int .i64 0, .int .i64 0, .slice none 0 0, .string ⟨#[]⟩] 26)).heap.size = w.heap.size + 1 by simp] at this
    exact (heap_alloc_old _ _ (by simp)).trans this
  · have := heap_alloc_new ((w.alloc (.cells #[.int .i64 0, .int .i64 0, .int .i64 0, .int .i64 0, .bool false, .int .i64 0, .string ⟨#[]⟩, .int .i64 0, .int .i64 0, .slice none 0 0, .string ⟨#[]⟩] 26)).alloc (.cells #[.string ⟨#[]⟩] 9)) (.cells #[.int .i64 0] 27)
    rw [show ((w.alloc (.cells #[.int .i64 0, .int .i64 0, .int .i64 0, .int .i64 0, .bool false, .int .i64 0, .string ⟨#[]⟩, .int .i64 0, .int .i64 0, .slice none 0 0, .string ⟨#[]⟩] 26)).alloc (.cells #[.string ⟨#[]⟩] 9)).heap.size = w.heap.size + 1 + 1 by simp] at this
    exact this
theorem G3.only {w a b : World} {p : Nat} (h : G3 w a) (ho : Only p a b) (hp : w.heap.size + 3 ≤ p) : G3 w b :=
  ⟨h.a.only ho (by omega), (ho.block _ (by omega)).trans h.b, (ho.block _ (by omega)).trans h.c, ⟨ho.os.trans h.below.os, ho.tape.trans h.below.tape, ho.output.trans h.below.output, by rw [ho.size]; exact h.below.size, fun k hk => (ho.block k (by omega)).trans (h.below.block k hk)⟩⟩
theorem G3.lt {w a : World} (h : G3 w a) : w.heap.size + 3 ≤ a.heap.size := (Array.getElem?_eq_some_iff.mp h.c).1
theorem G3.fq {w a b : World} {p : Nat} (h : G3 w a) (ho : Fq p a b) (hp : w.heap.size + 3 ≤ p) : G3 w b := by
  have := h.lt
  exact ⟨(ho.block _ (by omega) (by omega)).trans h.a, (ho.block _ (by omega) (by omega)).trans h.b, (ho.block _ (by omega) (by omega)).trans h.c, ⟨ho.os.trans h.below.os, ho.tape.trans h.below.tape, ho.output.trans h.below.output, Nat.le_trans h.below.size ho.size, fun k hk => (ho.block k (by omega) (by omega)).trans (h.below.block k hk)⟩⟩
theorem G3.alloc {w a : World} (h : G3 w a) (o : Obj) : G3 w (a.alloc o) := h.fq (p := w.heap.size + 3) ((Fq.refl _ _).alloc o) (Nat.le_refl _)
theorem G3.grew {w a b : World} (h : G3 w a) (ho : Below a.heap.size a b) : G3 w b := h.fq (p := w.heap.size + 3) (Fq.ofBelow ho) (Nat.le_refl _)

set_option maxRecDepth 100000 in
set_option maxHeartbeats 1000000 in
/-- A call that takeCall refuses. -/
theorem get_thrown (s : ByteArray) (w : World) (hs : s.size ≤ 65536) (xid : Int) (l1 : List UInt8) (e1 : Int) (h1 : numR 4 s.data.toList 0 = (xid, l1, e1)) (l2 : List UInt8) (h2 : numR 4 l1 e1 = (0, l2, 0)) (hw : wellR l2 0 = true) (v lo hi : Int)
    (ht : ∀ (p x : Nat) (wx : World), Rd wx p l2 0 → wx.cell? ⟨x, 0, none⟩ = some (.int .i64 xid) → x < wx.heap.size → x ≠ p → Calls Tryz.prog 15 #[.pointer (some ⟨p, 0, none⟩), .func (.func 12) #[] #[.pointer (some ⟨x, 0, none⟩)]] wx fun r w' => r = Thrown xid v lo hi ∧ Fq p wx w') :
    Calls Tryz.prog 4 #[.string s] w fun r w' => r = .returned (.tuple #[.agg #[.int .i64 0, .int .i64 0, .int .i64 0, .int .i64 0, .bool false, .int .i64 0, .string ⟨#[]⟩, .int .i64 0, .int .i64 0, .slice none 0 0, .string ⟨#[]⟩], .string (Rp.mk xid v lo hi ⟨#[]⟩).bytes, .int .i64 62]) ∧ Below w.heap.size w w' := by
  have hmf : ∀ (fn : Fn) (first cap : Array Value) (w : World), (Instr.makeFunc fn first cap).run Tryz.prog w = .ok (.func fn first cap) w := fun _ _ _ _ => rfl
  have H1 := Lib.hid h1
  have H2 := Lib.hid h2
  have HW := Lib.hid hw
  have HT := Lib.hid ht
  obtain ⟨S, hS⟩ : ∃ S, (Rp.mk xid v lo hi ⟨#[]⟩).bytes = S := ⟨_, rfl⟩
  rw [hS]
  have HS := Lib.hid hS
  clear h1 h2 hw ht hS
  go_enter_defers Tryz.func4, Tryz.ntmps4
  go_wp2_with fail
  obtain ⟨g0, n0⟩ := G3.start w
  have HG0 := Lib.hid g0
  clear g0
  generalize (((w.alloc (.cells #[.int .i64 0, .int .i64 0, .int .i64 0, .int .i64 0, .bool false, .int .i64 0, .string ⟨#[]⟩, .int .i64 0, .int .i64 0, .slice none 0 0, .string ⟨#[]⟩] 26)).alloc (.cells #[.string ⟨#[]⟩] 9)).alloc (.cells #[.int .i64 0] 27)) = W0 at *
  refine (open_any s W0 (by unfold maxLen; omega)).mono ?_
  rintro r w1 ⟨rfl, hR1, hB1, n1⟩
  have HG1 := Lib.hid (HG0.out.grew hB1)
  obtain ⟨p, hp⟩ : ∃ p, p = W0.heap.size + 1 := ⟨_, rfl⟩
  rw [← hp] at hR1 ⊢
  have hpw : w.heap.size + 3 ≤ p := by omega
  have HR1 := Lib.hid hR1
  have hl : s.data.toList.length ≤ 65536 := by rw [Array.length_toList]; exact hs
  clear HG0 hB1 n1 hp hR1 n0
  go_wp2_with fail
  refine (ruint_n p _ 0 _ HR1.out (by omega) xid l1 e1 H1.out).mono ?_
  rintro r w2 ⟨rfl, hR2, hO2⟩
  have HR2 := Lib.hid hR2
  have HG2 := Lib.hid (HG1.out.only hO2 hpw)
  clear hR2 hO2 HR1 HG1
  go_wp2_with fail
  refine (ruint_n p l1 e1 w2 HR2.out (by have := numR_len H1.out; omega) 0 l2 0 H2.out).mono ?_
  rintro r w3 ⟨rfl, hR3, hO3⟩
  have HR3 := Lib.hid hR3
  have HG3 := Lib.hid (HG2.out.only hO3 hpw)
  clear hR3 hO3 HR2 HG2
  go_wp2_with fail
  refine (well_any p l2 0 _ (HR3.out.alloc _) true HW.out).mono ?_
  rintro r w' ⟨rfl, rfl⟩
  have hxc : (w3.alloc (.cells #[.int .i64 xid] 3)).cell? ⟨w3.heap.size, 0, none⟩ = some (.int .i64 xid) := by rw [cell_of_row _ _ 0 _ _ _ (heap_alloc_new w3 _)]; rfl
  have hxl : w3.heap.size < (w3.alloc (.cells #[.int .i64 xid] 3)).heap.size := by simp
  have hxp : w3.heap.size ≠ p := by have := HR3.out.lt; omega
  have HR4 := Lib.hid (HR3.out.alloc (.cells #[.int .i64 xid] 3))
  have HG4 := Lib.hid (HG3.out.alloc (.cells #[.int .i64 xid] 3))
  clear HR3 HG3
  generalize w3.alloc (.cells #[.int .i64 xid] 3) = W4 at *
  generalize w3.heap.size = x at *
  go_wp2_with fail
  refine (HT.out p x W4 HR4.out hxc hxl hxp).mono ?_
  rintro r w5 ⟨rfl, hF⟩
  have HG5 := Lib.hid (HG4.out.fq hF hpw)
  clear hF HR4 HG4 hxc
  go_wp2
  refine leaves_cons (f := 13) (args := #[.pointer (some ⟨w.heap.size, 0, none⟩), .pointer (some ⟨w.heap.size + 1, 0, none⟩), .pointer (some ⟨w.heap.size + 1 + 1, 0, none⟩)]) (by simp) (by simp [go_sem]) ?_
  refine (catch33 w.heap.size (w.heap.size + 1) (w.heap.size + 1 + 1) xid v lo hi w5 HG5.out.a HG5.out.b HG5.out.c).mono ?_
  rintro e u' w6 ⟨rfl, rfl, k1, k2, k3, k4, k5, k6, k7, k8⟩
  rw [HS.out] at k2
  have hb6 : Below w.heap.size w w6 := ⟨k4.trans HG5.out.below.os, k5.trans HG5.out.below.tape, k6.trans HG5.out.below.output, Nat.le_trans HG5.out.below.size k7, fun k hk => (k8 k (by have := HG5.out.lt; omega) (by omega) (by omega) (by omega)).trans (HG5.out.below.block k hk)⟩
  have hL := run_loadVar_row (P := Tryz.prog) w6 w.heap.size 26 26 _ (0, 0) _ k1 Tryz.underlying26 rfl (by kernel_rfl)
  have c1 : w6.cell? ⟨w.heap.size + 1, 0, none⟩ = some (.string S) := by rw [cell_of_row _ _ 0 _ _ _ k2]; rfl
  have c2 : w6.cell? ⟨w.heap.size + 1 + 1, 0, none⟩ = some (.int .i64 62) := by rw [cell_of_row _ _ 0 _ _ _ k3]; rfl
  clear k1 k2 k3 k4 k5 k6 k7 k8
  generalize w.heap.size = A at *
  simp [Leaves, settle, results, Tryz.results4, hL, hb6, asAddr]
  simp [go_sem, c1, c2]
end Go.Proofs.YtihkjgfghjgblaaGreatDoor.R
namespace Go.Proofs.YtihkjgfghjgblaaGreatDoor.R
open Go.RowKit

set_option maxHeartbeats 800000 in
theorem laid14 (a b c : Nat) (w1 : World) (xid prog vers proc : Int) (unix : Bool) (st : Int) (m : ByteArray) (uid gid : Int) (vg : Value) (args : ByteArray) (hA : CAt w1 a 0 0 0 0 false 0 ⟨#[]⟩ 0 0 (.slice none 0 0) ⟨#[]⟩) (hb : w1.heap[b]? = some (.cells #[.string ⟨#[]⟩] 9 (0, 0))) (hc : w1.heap[c]? = some (.cells #[.int .i64 0] 27 (0, 0))) (hab : a ≠ b) (hac : a ≠ c) (hbc : b ≠ c) (W : World)
    (hW : W = (((((((((((((((((((((((((w1.setCell ⟨a, 0, none⟩ (.int .i64 0)).setCell ⟨a, 1, none⟩ (.int .i64 prog)).setCell ⟨a, 2, none⟩ (.int .i64 vers)).setCell ⟨a, 3, none⟩ (.int .i64 proc)).setCell ⟨a, 4, none⟩ (.bool unix)).setCell ⟨a, 5, none⟩ (.int .i64 st)).setCell ⟨a, 6, none⟩ (.string m)).setCell ⟨a, 7, none⟩ (.int .i64 uid)).setCell ⟨a, 8, none⟩ (.int .i64 gid)).setCell ⟨a, 9, none⟩ (vg)).setCell ⟨a, 10, none⟩ (.string args)).setCell ⟨a, 0, none⟩ (.int .i64 xid)).setCell ⟨a, 0, none⟩ (.int .i64 xid)).setCell ⟨a, 1, none⟩ (.int .i64 prog)).setCell ⟨a, 2, none⟩ (.int .i64 vers)).setCell ⟨a, 3, none⟩ (.int .i64 proc)).setCell ⟨a, 4, none⟩ (.bool unix)).setCell ⟨a, 5, none⟩ (.int .i64 st)).setCell ⟨a, 6, none⟩ (.string m)).setCell ⟨a, 7, none⟩ (.int .i64 uid)).setCell ⟨a, 8, none⟩ (.int .i64 gid)).setCell ⟨a, 9, none⟩ (vg)).setCell ⟨a, 10, none⟩ (.string args)).setCell ⟨b, 0, none⟩ (.string ⟨#[]⟩)).setCell ⟨c, 0, none⟩ (.int .i64 0))) :
    CAt W a xid prog vers proc unix st m uid gid vg args ∧ W.heap[b]? = some (.cells #[.string ⟨#[]⟩] 9 (0, 0)) ∧ W.heap[c]? = some (.cells #[.int .i64 0] 27 (0, 0)) ∧ W.os = w1.os ∧ W.tape = w1.tape ∧ W.output = w1.output ∧ w1.heap.size = W.heap.size ∧ ∀ k, k ≠ a → k ≠ b → k ≠ c → W.heap[k]? = w1.heap[k]? := by
  have o1 : Only a w1 (((((((((((((((((((((((w1.setCell ⟨a, 0, none⟩ (.int .i64 0)).setCell ⟨a, 1, none⟩ (.int .i64 prog)).setCell ⟨a, 2, none⟩ (.int .i64 vers)).setCell ⟨a, 3, none⟩ (.int .i64 proc)).setCell ⟨a, 4, none⟩ (.bool unix)).setCell ⟨a, 5, none⟩ (.int .i64 st)).setCell ⟨a, 6, none⟩ (.string m)).setCell ⟨a, 7, none⟩ (.int .i64 uid)).setCell ⟨a, 8, none⟩ (.int .i64 gid)).setCell ⟨a, 9, none⟩ (vg)).setCell ⟨a, 10, none⟩ (.string args)).setCell ⟨a, 0, none⟩ (.int .i64 xid)).setCell ⟨a, 0, none⟩ (.int .i64 xid)).setCell ⟨a, 1, none⟩ (.int .i64 prog)).setCell ⟨a, 2, none⟩ (.int .i64 vers)).setCell ⟨a, 3, none⟩ (.int .i64 proc)).setCell ⟨a, 4, none⟩ (.bool unix)).setCell ⟨a, 5, none⟩ (.int .i64 st)).setCell ⟨a, 6, none⟩ (.string m)).setCell ⟨a, 7, none⟩ (.int .i64 uid)).setCell ⟨a, 8, none⟩ (.int .i64 gid)).setCell ⟨a, 9, none⟩ (vg)).setCell ⟨a, 10, none⟩ (.string args)) := Only.set (Only.set (Only.set (Only.set (Only.set (Only.set (Only.set (Only.set (Only.set (Only.set (Only.set (Only.set ((((((((((((Only.refl _ _).set 0 _).set 1 _).set 2 _).set 3 _).set 4 _).set 5 _).set 6 _).set 7 _).set 8 _).set 9 _).set 10 _) 0 _) 0 _) 1 _) 2 _) 3 _) 4 _) 5 _) 6 _) 7 _) 8 _) 9 _) 10 _
  have h1 : CAt (((((((((((((((((((((((w1.setCell ⟨a, 0, none⟩ (.int .i64 0)).setCell ⟨a, 1, none⟩ (.int .i64 prog)).setCell ⟨a, 2, none⟩ (.int .i64 vers)).setCell ⟨a, 3, none⟩ (.int .i64 proc)).setCell ⟨a, 4, none⟩ (.bool unix)).setCell ⟨a, 5, none⟩ (.int .i64 st)).setCell ⟨a, 6, none⟩ (.string m)).setCell ⟨a, 7, none⟩ (.int .i64 uid)).setCell ⟨a, 8, none⟩ (.int .i64 gid)).setCell ⟨a, 9, none⟩ (vg)).setCell ⟨a, 10, none⟩ (.string args)).setCell ⟨a, 0, none⟩ (.int .i64 xid)).setCell ⟨a, 0, none⟩ (.int .i64 xid)).setCell ⟨a, 1, none⟩ (.int .i64 prog)).setCell ⟨a, 2, none⟩ (.int .i64 vers)).setCell ⟨a, 3, none⟩ (.int .i64 proc)).setCell ⟨a, 4, none⟩ (.bool unix)).setCell ⟨a, 5, none⟩ (.int .i64 st)).setCell ⟨a, 6, none⟩ (.string m)).setCell ⟨a, 7, none⟩ (.int .i64 uid)).setCell ⟨a, 8, none⟩ (.int .i64 gid)).setCell ⟨a, 9, none⟩ (vg)).setCell ⟨a, 10, none⟩ (.string args)) a xid prog vers proc unix st m uid gid vg args := ((((((((((((((((((((((((hA).s0 0).s1 prog).s2 vers).s3 proc).s4 unix).s5 st).s6 m).s7 uid).s8 gid).s9 vg).s10 args).s0 xid).s0 xid).s1 prog).s2 vers).s3 proc).s4 unix).s5 st).s6 m).s7 uid).s8 gid).s9 vg).s10 args)
  generalize (((((((((((((((((((((((w1.setCell ⟨a, 0, none⟩ (.int .i64 0)).setCell ⟨a, 1, none⟩ (.int .i64 prog)).setCell ⟨a, 2, none⟩ (.int .i64 vers)).setCell ⟨a, 3, none⟩ (.int .i64 proc)).setCell ⟨a, 4, none⟩ (.bool unix)).setCell ⟨a, 5, none⟩ (.int .i64 st)).setCell ⟨a, 6, none⟩ (.string m)).setCell ⟨a, 7, none⟩ (.int .i64 uid)).setCell ⟨a, 8, none⟩ (.int .i64 gid)).setCell ⟨a, 9, none⟩ (vg)).setCell ⟨a, 10, none⟩ (.string args)).setCell ⟨a, 0, none⟩ (.int .i64 xid)).setCell ⟨a, 0, none⟩ (.int .i64 xid)).setCell ⟨a, 1, none⟩ (.int .i64 prog)).setCell ⟨a, 2, none⟩ (.int .i64 vers)).setCell ⟨a, 3, none⟩ (.int .i64 proc)).setCell ⟨a, 4, none⟩ (.bool unix)).setCell ⟨a, 5, none⟩ (.int .i64 st)).setCell ⟨a, 6, none⟩ (.string m)).setCell ⟨a, 7, none⟩ (.int .i64 uid)).setCell ⟨a, 8, none⟩ (.int .i64 gid)).setCell ⟨a, 9, none⟩ (vg)).setCell ⟨a, 10, none⟩ (.string args)) = v at *
  have hb1 := (o1.block b hab.symm).trans hb
  have hc1 := (o1.block c hac.symm).trans hc
  have o2 : Only b v (v.setCell ⟨b, 0, none⟩ (.string ⟨#[]⟩)) := (Only.refl _ _).set 0 _
  have hb2 : (v.setCell ⟨b, 0, none⟩ (.string ⟨#[]⟩)).heap[b]? = some (.cells #[.string ⟨#[]⟩] 9 (0, 0)) := by rw [heap_set _ hb1]; rfl
  have h2 := h1.only o2 hab
  have hc2 := (o2.block c hbc.symm).trans hc1
  generalize v.setCell ⟨b, 0, none⟩ (.string ⟨#[]⟩) = u at *
  have o3 : Only c u W := by rw [hW]; exact (Only.refl _ _).set 0 _
  have hc3 : W.heap[c]? = some (.cells #[.int .i64 0] 27 (0, 0)) := by rw [hW, heap_set _ hc2]; rfl
  refine ⟨h2.only o3 hac, (o3.block b hbc).trans hb2, hc3, o3.os.trans (o2.os.trans o1.os), o3.tape.trans (o2.tape.trans o1.tape), o3.output.trans (o2.output.trans o1.output), ?_, fun k ha hb hc => (o3.block k hc).trans ((o2.block k hb).trans (o1.block k ha))⟩
  rw [o3.size, o2.size, o1.size]

set_option maxRecDepth 100000 in
set_option maxHeartbeats 1000000 in
/-- A call that takeCall takes. -/
theorem get_ok (s : ByteArray) (w : World) (hs : s.size ≤ 65536) (xid : Int) (l1 : List UInt8) (e1 : Int) (h1 : numR 4 s.data.toList 0 = (xid, l1, e1)) (l2 : List UInt8) (h2 : numR 4 l1 e1 = (0, l2, 0)) (hw : wellR l2 0 = true) (prog vers proc : Int) (unix : Bool) (st : Int) (m : ByteArray) (uid gid : Int) (G : List Int) (args : ByteArray)
    (ht : ∀ (p x : Nat) (wx : World), Rd wx p l2 0 → wx.cell? ⟨x, 0, none⟩ = some (.int .i64 xid) → x < wx.heap.size → x ≠ p → Calls Tryz.prog 15 #[.pointer (some ⟨p, 0, none⟩), .func (.func 12) #[] #[.pointer (some ⟨x, 0, none⟩)]] wx fun r w' => TkTo p prog vers proc unix st m uid gid G args wx r w') :
    Calls Tryz.prog 4 #[.string s] w fun r w' => ∃ vg, r = .returned (.tuple #[.agg #[.int .i64 xid, .int .i64 prog, .int .i64 vers, .int .i64 proc, .bool unix, .int .i64 st, .string m, .int .i64 uid, .int .i64 gid, vg, .string args], .string ⟨#[]⟩, .int .i64 0]) ∧ w'.ownsRow 0 3 1 vg G.length (ints G) ∧ Below w.heap.size w w' := by
  have hmf : ∀ (fn : Fn) (first cap : Array Value) (w : World), (Instr.makeFunc fn first cap).run Tryz.prog w = .ok (.func fn first cap) w := fun _ _ _ _ => rfl
  have H1 := Lib.hid h1
  have H2 := Lib.hid h2
  have HW := Lib.hid hw
  have HT := Lib.hid ht
  clear h1 h2 hw ht
  go_enter_defers Tryz.func4, Tryz.ntmps4
  go_wp2_with fail
  obtain ⟨g0, n0⟩ := G3.start w
  have HG0 := Lib.hid g0
  clear g0
  generalize (((w.alloc (.cells #[.int .i64 0, .int .i64 0, .int .i64 0, .int .i64 0, .bool false, .int .i64 0, .string ⟨#[]⟩, .int .i64 0, .int .i64 0, .slice none 0 0, .string ⟨#[]⟩] 26)).alloc (.cells #[.string ⟨#[]⟩] 9)).alloc (.cells #[.int .i64 0] 27)) = W0 at *
  refine (open_any s W0 (by unfold maxLen; omega)).mono ?_
  rintro r w1 ⟨rfl, hR1, hB1, n1⟩
  have HG1 := Lib.hid (HG0.out.grew hB1)
  obtain ⟨p, hp⟩ : ∃ p, p = W0.heap.size + 1 := ⟨_, rfl⟩
  rw [← hp] at hR1 ⊢
  have hpw : w.heap.size + 3 ≤ p := by omega
  have HR1 := Lib.hid hR1
  have hl : s.data.toList.length ≤ 65536 := by rw [Array.length_toList]; exact hs
  clear HG0 hB1 n1 hp hR1 n0
  go_wp2_with fail
  refine (ruint_n p _ 0 _ HR1.out (by omega) xid l1 e1 H1.out).mono ?_
  rintro r w2 ⟨rfl, hR2, hO2⟩
  have HR2 := Lib.hid hR2
  have HG2 := Lib.hid (HG1.out.only hO2 hpw)
  clear hR2 hO2 HR1 HG1
  go_wp2_with fail
  refine (ruint_n p l1 e1 w2 HR2.out (by have := numR_len H1.out; omega) 0 l2 0 H2.out).mono ?_
  rintro r w3 ⟨rfl, hR3, hO3⟩
  have HR3 := Lib.hid hR3
  have HG3 := Lib.hid (HG2.out.only hO3 hpw)
  clear hR3 hO3 HR2 HG2
  go_wp2_with fail
  refine (well_any p l2 0 _ (HR3.out.alloc _) true HW.out).mono ?_
  rintro r w' ⟨rfl, rfl⟩
  have hxc : (w3.alloc (.cells #[.int .i64 xid] 3)).cell? ⟨w3.heap.size, 0, none⟩ = some (.int .i64 xid) := by rw [cell_of_row _ _ 0 _ _ _ (heap_alloc_new w3 _)]; rfl
  have hxl : w3.heap.size < (w3.alloc (.cells #[.int .i64 xid] 3)).heap.size := by simp
  have hxp : w3.heap.size ≠ p := by have := HR3.out.lt; omega
  have HR4 := Lib.hid (HR3.out.alloc (.cells #[.int .i64 xid] 3))
  have hxg := HG3.out.lt
  have HG4 := Lib.hid (HG3.out.alloc (.cells #[.int .i64 xid] 3))
  clear HR3 HG3
  generalize w3.alloc (.cells #[.int .i64 xid] 3) = W4 at *
  generalize w3.heap.size = x at *
  go_wp2_with fail
  refine (HT.out p x W4 HR4.out hxc hxl hxp).mono ?_
  rintro r w5 ⟨vg, rfl, hO, hg, hF⟩
  obtain ⟨vo, va, vc, rfl⟩ := owned_slice hO
  have hG5 := HG4.out.fq hF hpw
  have hg2 : ∀ g, (Value.slice vo va vc).ownBlock = some g → w.heap.size + 3 ≤ g := fun g e => by have := hg g e; have := HG4.out.lt; omega
  have HG5 := Lib.hid hG5
  have HO := Lib.hid hO
  have HG := Lib.hid hg2
  obtain ⟨z0, z1, z2, z3, z4, z5, z6, z7, z8, z9, z10⟩ := hG5.a.all
  have y0 := hG5.a.free 0
  have y1 := hG5.a.free 1
  have y2 := hG5.a.free 2
  have y3 := hG5.a.free 3
  have y4 := hG5.a.free 4
  have y5 := hG5.a.free 5
  have y6 := hG5.a.free 6
  have y7 := hG5.a.free 7
  have y8 := hG5.a.free 8
  have y9 := hG5.a.free 9
  have y10 := hG5.a.free 10
  have bz := Lib.frozen_of_heap hG5.b 0
  have cz := Lib.frozen_of_heap hG5.c 0
  have bc : w5.cell? ⟨w.heap.size + 1, 0, none⟩ = some (.string ⟨#[]⟩) := by rw [cell_of_row _ _ 0 _ _ _ hG5.b]; rfl
  have cc : w5.cell? ⟨w.heap.size + 1 + 1, 0, none⟩ = some (.int .i64 0) := by rw [cell_of_row _ _ 0 _ _ _ hG5.c]; rfl
  have hx5 := hF.cell hxl hxp hxc
  have hxw : w.heap.size + 3 ≤ x := hxg
  clear hG5 hO hg hF HR4 HG4 hg2
  go_wp2
  have hQ := laid14 w.heap.size (w.heap.size + 1) (w.heap.size + 1 + 1) w5 xid prog vers proc unix st m uid gid (.slice vo va vc) args HG5.out.a HG5.out.b HG5.out.c (by omega) (by omega) (by omega) (((((((((((((((((((((((((w5.setCell ⟨w.heap.size, 0, none⟩ (.int .i64 0)).setCell ⟨w.heap.size, 1, none⟩ (.int .i64 prog)).setCell ⟨w.heap.size, 2, none⟩ (.int .i64 vers)).setCell ⟨w.heap.size, 3, none⟩ (.int .i64 proc)).setCell ⟨w.heap.size, 4, none⟩ (.bool unix)).setCell ⟨w.heap.size, 5, none⟩ (.int .i64 st)).setCell ⟨w.heap.size, 6, none⟩ (.string m)).setCell ⟨w.heap.size, 7, none⟩ (.int .i64 uid)).setCell ⟨w.heap.size, 8, none⟩ (.int .i64 gid)).setCell ⟨w.heap.size, 9, none⟩ (.slice vo va vc)).setCell ⟨w.heap.size, 10, none⟩ (.string args)).setCell ⟨w.heap.size, 0, none⟩ (.int .i64 xid)).setCell ⟨w.heap.size, 0, none⟩ (.int .i64 xid)).setCell ⟨w.heap.size, 1, none⟩ (.int .i64 prog)).setCell ⟨w.heap.size, 2, none⟩ (.int .i64 vers)).setCell ⟨w.heap.size, 3, none⟩ (.int .i64 proc)).setCell ⟨w.heap.size, 4, none⟩ (.bool unix)).setCell ⟨w.heap.size, 5, none⟩ (.int .i64 st)).setCell ⟨w.heap.size, 6, none⟩ (.string m)).setCell ⟨w.heap.size, 7, none⟩ (.int .i64 uid)).setCell ⟨w.heap.size, 8, none⟩ (.int .i64 gid)).setCell ⟨w.heap.size, 9, none⟩ (.slice vo va vc)).setCell ⟨w.heap.size, 10, none⟩ (.string args)).setCell ⟨w.heap.size + 1, 0, none⟩ (.string ⟨#[]⟩)).setCell ⟨w.heap.size + 1 + 1, 0, none⟩ (.int .i64 0)) rfl
  generalize (((((((((((((((((((((((((w5.setCell ⟨w.heap.size, 0, none⟩ (.int .i64 0)).setCell ⟨w.heap.size, 1, none⟩ (.int .i64 prog)).setCell ⟨w.heap.size, 2, none⟩ (.int .i64 vers)).setCell ⟨w.heap.size, 3, none⟩ (.int .i64 proc)).setCell ⟨w.heap.size, 4, none⟩ (.bool unix)).setCell ⟨w.heap.size, 5, none⟩ (.int .i64 st)).setCell ⟨w.heap.size, 6, none⟩ (.string m)).setCell ⟨w.heap.size, 7, none⟩ (.int .i64 uid)).setCell ⟨w.heap.size, 8, none⟩ (.int .i64 gid)).setCell ⟨w.heap.size, 9, none⟩ (.slice vo va vc)).setCell ⟨w.heap.size, 10, none⟩ (.string args)).setCell ⟨w.heap.size, 0, none⟩ (.int .i64 xid)).setCell ⟨w.heap.size, 0, none⟩ (.int .i64 xid)).setCell ⟨w.heap.size, 1, none⟩ (.int .i64 prog)).setCell ⟨w.heap.size, 2, none⟩ (.int .i64 vers)).setCell ⟨w.heap.size, 3, none⟩ (.int .i64 proc)).setCell ⟨w.heap.size, 4, none⟩ (.bool unix)).setCell ⟨w.heap.size, 5, none⟩ (.int .i64 st)).setCell ⟨w.heap.size, 6, none⟩ (.string m)).setCell ⟨w.heap.size, 7, none⟩ (.int .i64 uid)).setCell ⟨w.heap.size, 8, none⟩ (.int .i64 gid)).setCell ⟨w.heap.size, 9, none⟩ (.slice vo va vc)).setCell ⟨w.heap.size, 10, none⟩ (.string args)).setCell ⟨w.heap.size + 1, 0, none⟩ (.string ⟨#[]⟩)).setCell ⟨w.heap.size + 1 + 1, 0, none⟩ (.int .i64 0)) = W at hQ ⊢
  obtain ⟨k1, k2, k3, k4, k5, k6, k7, k8⟩ := hQ
  refine leaves_cons (f := 13) (args := #[.pointer (some ⟨w.heap.size, 0, none⟩), .pointer (some ⟨w.heap.size + 1, 0, none⟩), .pointer (some ⟨w.heap.size + 1 + 1, 0, none⟩)]) (by simp) (by simp [go_sem]) ?_
  refine (idle33 w.heap.size (w.heap.size + 1) (w.heap.size + 1 + 1) W).mono ?_
  rintro e u' w6 ⟨rfl, rfl, rfl⟩
  have hb6 : Below w.heap.size w w6 := ⟨k4.trans HG5.out.below.os, k5.trans HG5.out.below.tape, k6.trans HG5.out.below.output, Nat.le_trans HG5.out.below.size (Nat.le_of_eq k7), fun k hk => (k8 k (by omega) (by omega) (by omega)).trans (HG5.out.below.block k hk)⟩
  have ho6 : w6.ownsRow 0 3 1 (.slice vo va vc) G.length (ints G) := ownsRow_of HO.out fun g e => k8 g (by have := HG.out g e; omega) (by have := HG.out g e; omega) (by have := HG.out g e; omega)
  have hL := run_loadVar_row (P := Tryz.prog) w6 w.heap.size 26 26 _ (0, 0) _ k1 Tryz.underlying26 rfl (by kernel_rfl)
  have c1 : w6.cell? ⟨w.heap.size + 1, 0, none⟩ = some (.string ⟨#[]⟩) := by rw [cell_of_row _ _ 0 _ _ _ k2]; rfl
  have c2 : w6.cell? ⟨w.heap.size + 1 + 1, 0, none⟩ = some (.int .i64 0) := by rw [cell_of_row _ _ 0 _ _ _ k3]; rfl
  clear k1 k2 k3 k4 k5 k6 k7 k8
  simp [Leaves, settle, results, Tryz.results4, hL, asAddr]
  simp [go_sem, c1, c2]
  exact ⟨ho6, hb6⟩
end Go.Proofs.YtihkjgfghjgblaaGreatDoor.R
namespace Go.Proofs.YtihkjgfghjgblaaGreatDoor.R
open Go.RowKit

theorem laidE (a b c : Nat) (w w1 : World) (S : ByteArray) (E : Int) (hB : Below w.heap.size w w1) (hA : CAt w1 a 0 0 0 0 false 0 ⟨#[]⟩ 0 0 (.slice none 0 0) ⟨#[]⟩) (hb : w1.heap[b]? = some (.cells #[.string ⟨#[]⟩] 9 (0, 0))) (hc : w1.heap[c]? = some (.cells #[.int .i64 0] 27 (0, 0))) (hab : a ≠ b) (hac : a ≠ c) (hbc : b ≠ c) (W : World)
    (hW : W = (((((((((((((w1.setCell ⟨a, 0, none⟩ (.int .i64 0)).setCell ⟨a, 1, none⟩ (.int .i64 0)).setCell ⟨a, 2, none⟩ (.int .i64 0)).setCell ⟨a, 3, none⟩ (.int .i64 0)).setCell ⟨a, 4, none⟩ (.bool false)).setCell ⟨a, 5, none⟩ (.int .i64 0)).setCell ⟨a, 6, none⟩ (.string ⟨#[]⟩)).setCell ⟨a, 7, none⟩ (.int .i64 0)).setCell ⟨a, 8, none⟩ (.int .i64 0)).setCell ⟨a, 9, none⟩ (.slice none 0 0)).setCell ⟨a, 10, none⟩ (.string ⟨#[]⟩)).setCell ⟨b, 0, none⟩ (.string S)).setCell ⟨c, 0, none⟩ (.int .i64 E))) :
    CAt W a 0 0 0 0 false 0 ⟨#[]⟩ 0 0 (.slice none 0 0) ⟨#[]⟩ ∧ W.heap[b]? = some (.cells #[.string S] 9 (0, 0)) ∧ W.heap[c]? = some (.cells #[.int .i64 E] 27 (0, 0)) ∧ W.os = w.os ∧ W.tape = w.tape ∧ W.output = w.output ∧ w.heap.size ≤ W.heap.size ∧ ∀ k, k < w.heap.size → k ≠ a → k ≠ b → k ≠ c → W.heap[k]? = w.heap[k]? := by
  have o1 : Only a w1 (((((((((((w1.setCell ⟨a, 0, none⟩ (.int .i64 0)).setCell ⟨a, 1, none⟩ (.int .i64 0)).setCell ⟨a, 2, none⟩ (.int .i64 0)).setCell ⟨a, 3, none⟩ (.int .i64 0)).setCell ⟨a, 4, none⟩ (.bool false)).setCell ⟨a, 5, none⟩ (.int .i64 0)).setCell ⟨a, 6, none⟩ (.string ⟨#[]⟩)).setCell ⟨a, 7, none⟩ (.int .i64 0)).setCell ⟨a, 8, none⟩ (.int .i64 0)).setCell ⟨a, 9, none⟩ (.slice none 0 0)).setCell ⟨a, 10, none⟩ (.string ⟨#[]⟩)) := (((((((((((Only.refl _ _).set 0 _).set 1 _).set 2 _).set 3 _).set 4 _).set 5 _).set 6 _).set 7 _).set 8 _).set 9 _).set 10 _
  have h1 : CAt (((((((((((w1.setCell ⟨a, 0, none⟩ (.int .i64 0)).setCell ⟨a, 1, none⟩ (.int .i64 0)).setCell ⟨a, 2, none⟩ (.int .i64 0)).setCell ⟨a, 3, none⟩ (.int .i64 0)).setCell ⟨a, 4, none⟩ (.bool false)).setCell ⟨a, 5, none⟩ (.int .i64 0)).setCell ⟨a, 6, none⟩ (.string ⟨#[]⟩)).setCell ⟨a, 7, none⟩ (.int .i64 0)).setCell ⟨a, 8, none⟩ (.int .i64 0)).setCell ⟨a, 9, none⟩ (.slice none 0 0)).setCell ⟨a, 10, none⟩ (.string ⟨#[]⟩)) a 0 0 0 0 false 0 ⟨#[]⟩ 0 0 (.slice none 0 0) ⟨#[]⟩ := (((((((((((hA.s0 0).s1 0).s2 0).s3 0).s4 false).s5 0).s6 ⟨#[]⟩).s7 0).s8 0).s9 (.slice none 0 0)).s10 ⟨#[]⟩)
  generalize (((((((((((w1.setCell ⟨a, 0, none⟩ (.int .i64 0)).setCell ⟨a, 1, none⟩ (.int .i64 0)).setCell ⟨a, 2, none⟩ (.int .i64 0)).setCell ⟨a, 3, none⟩ (.int .i64 0)).setCell ⟨a, 4, none⟩ (.bool false)).setCell ⟨a, 5, none⟩ (.int .i64 0)).setCell ⟨a, 6, none⟩ (.string ⟨#[]⟩)).setCell ⟨a, 7, none⟩ (.int .i64 0)).setCell ⟨a, 8, none⟩ (.int .i64 0)).setCell ⟨a, 9, none⟩ (.slice none 0 0)).setCell ⟨a, 10, none⟩ (.string ⟨#[]⟩)) = v at *
  have hb1 := (o1.block b hab.symm).trans hb
  have hc1 := (o1.block c hac.symm).trans hc
  have o2 : Only b v (v.setCell ⟨b, 0, none⟩ (.string S)) := (Only.refl _ _).set 0 _
  have hb2 : (v.setCell ⟨b, 0, none⟩ (.string S)).heap[b]? = some (.cells #[.string S] 9 (0, 0)) := by rw [heap_set _ hb1]; rfl
  have h2 := h1.only o2 hab
  have hc2 := (o2.block c hbc.symm).trans hc1
  generalize v.setCell ⟨b, 0, none⟩ (.string S) = u at *
  have o3 : Only c u W := by rw [hW]; exact (Only.refl _ _).set 0 _
  have hc3 : W.heap[c]? = some (.cells #[.int .i64 E] 27 (0, 0)) := by rw [hW, heap_set _ hc2]; rfl
  refine ⟨h2.only o3 hac, (o3.block b hbc).trans hb2, hc3, o3.os.trans (o2.os.trans (o1.os.trans hB.os)), o3.tape.trans (o2.tape.trans (o1.tape.trans hB.tape)), o3.output.trans (o2.output.trans (o1.output.trans hB.output)), ?_, fun k hk ha hb hc => (o3.block k hc).trans ((o2.block k hb).trans ((o1.block k ha).trans (hB.block k hk)))⟩
  rw [o3.size, o2.size, o1.size]
  exact hB.size


set_option maxRecDepth 100000 in
set_option maxHeartbeats 1000000 in
/-- No head of a call. -/
theorem get_short (s : ByteArray) (w : World) (hs : s.size ≤ 65536) (xid : Int) (l1 : List UInt8) (e1 : Int) (h1 : numR 4 s.data.toList 0 = (xid, l1, e1)) (kind : Int) (l2 : List UInt8) (e2 : Int) (h2 : numR 4 l1 e1 = (kind, l2, e2)) (hw : wellR l2 e2 = false) :
    Calls Tryz.prog 4 #[.string s] w fun r w' => r = .returned (.tuple #[.agg #[.int .i64 0, .int .i64 0, .int .i64 0, .int .i64 0, .bool false, .int .i64 0, .string ⟨#[]⟩, .int .i64 0, .int .i64 0, .slice none 0 0, .string ⟨#[]⟩], .string ⟨#[]⟩, .int .i64 5]) ∧ Below w.heap.size w w' := by
  have hmf : ∀ (fn : Fn) (first cap : Array Value) (w : World), (Instr.makeFunc fn first cap).run Tryz.prog w = .ok (.func fn first cap) w := fun _ _ _ _ => rfl
  have H1 := Lib.hid h1
  have H2 := Lib.hid h2
  have HW := Lib.hid hw
  clear h1 h2 hw
  go_enter_defers Tryz.func4, Tryz.ntmps4
  go_wp2_with fail
  obtain ⟨g0, n0⟩ := G3.start w
  have HG0 := Lib.hid g0
  clear g0
  generalize (((w.alloc (.cells #[.int .i64 0, .int .i64 0, .int .i64 0, .int .i64 0, .bool false, .int .i64 0, .string ⟨#[]⟩, .int .i64 0, .int .i64 0, .slice none 0 0, .string ⟨#[]⟩] 26)).alloc (.cells #[.string ⟨#[]⟩] 9)).alloc (.cells #[.int .i64 0] 27)) = W0 at *
  refine (open_any s W0 (by unfold maxLen; omega)).mono ?_
  rintro r w1 ⟨rfl, hR1, hB1, n1⟩
  have HG1 := Lib.hid (HG0.out.grew hB1)
  obtain ⟨p, hp⟩ : ∃ p, p = W0.heap.size + 1 := ⟨_, rfl⟩
  rw [← hp] at hR1 ⊢
  have hpw : w.heap.size + 3 ≤ p := by omega
  have HR1 := Lib.hid hR1
  have hl : s.data.toList.length ≤ 65536 := by rw [Array.length_toList]; exact hs
  clear HG0 hB1 n1 hp hR1 n0
  go_wp2_with fail
  refine (ruint_n p _ 0 _ HR1.out (by omega) xid l1 e1 H1.out).mono ?_
  rintro r w2 ⟨rfl, hR2, hO2⟩
  have HR2 := Lib.hid hR2
  have HG2 := Lib.hid (HG1.out.only hO2 hpw)
  clear hR2 hO2 HR1 HG1
  go_wp2_with fail
  refine (ruint_n p l1 e1 w2 HR2.out (by have := numR_len H1.out; omega) kind l2 e2 H2.out).mono ?_
  rintro r w3 ⟨rfl, hR3, hO3⟩
  have HR3 := Lib.hid hR3
  have HG3 := Lib.hid (HG2.out.only hO3 hpw)
  clear hR3 hO3 HR2 HG2
  go_wp2_with fail
  refine (well_any p l2 e2 _ (HR3.out.alloc _) false HW.out).mono ?_
  rintro r w' ⟨rfl, rfl⟩
  have hG4 := HG3.out.alloc (.cells #[.int .i64 xid] 3)
  have HG4 := Lib.hid hG4
  obtain ⟨z0, z1, z2, z3, z4, z5, z6, z7, z8, z9, z10⟩ := hG4.a.all
  have y0 := hG4.a.free 0
  have y1 := hG4.a.free 1
  have y2 := hG4.a.free 2
  have y3 := hG4.a.free 3
  have y4 := hG4.a.free 4
  have y5 := hG4.a.free 5
  have y6 := hG4.a.free 6
  have y7 := hG4.a.free 7
  have y8 := hG4.a.free 8
  have y9 := hG4.a.free 9
  have y10 := hG4.a.free 10
  have bz := Lib.frozen_of_heap hG4.b 0
  have cz := Lib.frozen_of_heap hG4.c 0
  have bc : (w3.alloc (.cells #[.int .i64 xid] 3)).cell? ⟨w.heap.size + 1, 0, none⟩ = some (.string ⟨#[]⟩) := by rw [cell_of_row _ _ 0 _ _ _ hG4.b]; rfl
  have cc : (w3.alloc (.cells #[.int .i64 xid] 3)).cell? ⟨w.heap.size + 1 + 1, 0, none⟩ = some (.int .i64 0) := by rw [cell_of_row _ _ 0 _ _ _ hG4.c]; rfl
  clear HR3 HG3 hG4
  generalize w3.alloc (.cells #[.int .i64 xid] 3) = W4 at *
  go_wp2
  have hQ := laidE w.heap.size (w.heap.size + 1) (w.heap.size + 1 + 1) w W4 ⟨#[]⟩ 5 HG4.out.below HG4.out.a HG4.out.b HG4.out.c (by omega) (by omega) (by omega) (((((((((((((W4.setCell ⟨w.heap.size, 0, none⟩ (.int .i64 0)).setCell ⟨w.heap.size, 1, none⟩ (.int .i64 0)).setCell ⟨w.heap.size, 2, none⟩ (.int .i64 0)).setCell ⟨w.heap.size, 3, none⟩ (.int .i64 0)).setCell ⟨w.heap.size, 4, none⟩ (.bool false)).setCell ⟨w.heap.size, 5, none⟩ (.int .i64 0)).setCell ⟨w.heap.size, 6, none⟩ (.string ⟨#[]⟩)).setCell ⟨w.heap.size, 7, none⟩ (.int .i64 0)).setCell ⟨w.heap.size, 8, none⟩ (.int .i64 0)).setCell ⟨w.heap.size, 9, none⟩ (.slice none 0 0)).setCell ⟨w.heap.size, 10, none⟩ (.string ⟨#[]⟩)).setCell ⟨w.heap.size + 1, 0, none⟩ (.string ⟨#[]⟩)).setCell ⟨w.heap.size + 1 + 1, 0, none⟩ (.int .i64 5)) rfl
  generalize (((((((((((((W4.setCell ⟨w.heap.size, 0, none⟩ (.int .i64 0)).setCell ⟨w.heap.size, 1, none⟩ (.int .i64 0)).setCell ⟨w.heap.size, 2, none⟩ (.int .i64 0)).setCell ⟨w.heap.size, 3, none⟩ (.int .i64 0)).setCell ⟨w.heap.size, 4, none⟩ (.bool false)).setCell ⟨w.heap.size, 5, none⟩ (.int .i64 0)).setCell ⟨w.heap.size, 6, none⟩ (.string ⟨#[]⟩)).setCell ⟨w.heap.size, 7, none⟩ (.int .i64 0)).setCell ⟨w.heap.size, 8, none⟩ (.int .i64 0)).setCell ⟨w.heap.size, 9, none⟩ (.slice none 0 0)).setCell ⟨w.heap.size, 10, none⟩ (.string ⟨#[]⟩)).setCell ⟨w.heap.size + 1, 0, none⟩ (.string ⟨#[]⟩)).setCell ⟨w.heap.size + 1 + 1, 0, none⟩ (.int .i64 5)) = w6 at hQ ⊢
  obtain ⟨k1, k2, k3, k4, k5, k6, k7, k8⟩ := hQ
  have hb6 : Below w.heap.size w w6 := ⟨k4, k5, k6, k7, fun k hk => k8 k hk (by omega) (by omega) (by omega)⟩
  have hL := run_loadVar_row (P := Tryz.prog) w6 w.heap.size 26 26 _ (0, 0) _ k1 Tryz.underlying26 rfl (by kernel_rfl)
  have c1 : w6.cell? ⟨w.heap.size + 1, 0, none⟩ = some (.string ⟨#[]⟩) := by rw [cell_of_row _ _ 0 _ _ _ k2]; rfl
  have c2 : w6.cell? ⟨w.heap.size + 1 + 1, 0, none⟩ = some (.int .i64 5) := by rw [cell_of_row _ _ 0 _ _ _ k3]; rfl
  clear k1 k2 k3 k4 k5 k6 k7 k8
  simp [bodyPostD, Leaves, results, Tryz.results4, hL, hb6, asAddr]
  simp [go_sem, c1, c2]
set_option maxRecDepth 100000 in
set_option maxHeartbeats 1000000 in
/-- Not a call. -/
theorem get_form (s : ByteArray) (w : World) (hs : s.size ≤ 65536) (xid : Int) (l1 : List UInt8) (e1 : Int) (h1 : numR 4 s.data.toList 0 = (xid, l1, e1)) (kind : Int) (l2 : List UInt8) (e2 : Int) (h2 : numR 4 l1 e1 = (kind, l2, e2)) (hw : wellR l2 e2 = true) (hk : kind ≠ 0) :
    Calls Tryz.prog 4 #[.string s] w fun r w' => r = .returned (.tuple #[.agg #[.int .i64 0, .int .i64 0, .int .i64 0, .int .i64 0, .bool false, .int .i64 0, .string ⟨#[]⟩, .int .i64 0, .int .i64 0, .slice none 0 0, .string ⟨#[]⟩], .string ⟨#[]⟩, .int .i64 4]) ∧ Below w.heap.size w w' := by
  have hmf : ∀ (fn : Fn) (first cap : Array Value) (w : World), (Instr.makeFunc fn first cap).run Tryz.prog w = .ok (.func fn first cap) w := fun _ _ _ _ => rfl
  have H1 := Lib.hid h1
  have H2 := Lib.hid h2
  have HW := Lib.hid hw
  have hk0 : (kind != 0) = true := by simpa using hk
  clear h1 h2 hw hk
  go_enter_defers Tryz.func4, Tryz.ntmps4
  go_wp2_with fail
  obtain ⟨g0, n0⟩ := G3.start w
  have HG0 := Lib.hid g0
  clear g0
  generalize (((w.alloc (.cells #[.int .i64 0, .int .i64 0, .int .i64 0, .int .i64 0, .bool false, .int .i64 0, .string ⟨#[]⟩, .int .i64 0, .int .i64 0, .slice none 0 0, .string ⟨#[]⟩] 26)).alloc (.cells #[.string ⟨#[]⟩] 9)).alloc (.cells #[.int .i64 0] 27)) = W0 at *
  refine (open_any s W0 (by unfold maxLen; omega)).mono ?_
  rintro r w1 ⟨rfl, hR1, hB1, n1⟩
  have HG1 := Lib.hid (HG0.out.grew hB1)
  obtain ⟨p, hp⟩ : ∃ p, p = W0.heap.size + 1 := ⟨_, rfl⟩
  rw [← hp] at hR1 ⊢
  have hpw : w.heap.size + 3 ≤ p := by omega
  have HR1 := Lib.hid hR1
  have hl : s.data.toList.length ≤ 65536 := by rw [Array.length_toList]; exact hs
  clear HG0 hB1 n1 hp hR1 n0
  go_wp2_with fail
  refine (ruint_n p _ 0 _ HR1.out (by omega) xid l1 e1 H1.out).mono ?_
  rintro r w2 ⟨rfl, hR2, hO2⟩
  have HR2 := Lib.hid hR2
  have HG2 := Lib.hid (HG1.out.only hO2 hpw)
  clear hR2 hO2 HR1 HG1
  go_wp2_with fail
  refine (ruint_n p l1 e1 w2 HR2.out (by have := numR_len H1.out; omega) kind l2 e2 H2.out).mono ?_
  rintro r w3 ⟨rfl, hR3, hO3⟩
  have HR3 := Lib.hid hR3
  have HG3 := Lib.hid (HG2.out.only hO3 hpw)
  clear hR3 hO3 HR2 HG2
  go_wp2_with fail
  refine (well_any p l2 e2 _ (HR3.out.alloc _) true HW.out).mono ?_
  rintro r w' ⟨rfl, rfl⟩
  have hG4 := HG3.out.alloc (.cells #[.int .i64 xid] 3)
  have HG4 := Lib.hid hG4
  obtain ⟨z0, z1, z2, z3, z4, z5, z6, z7, z8, z9, z10⟩ := hG4.a.all
  have y0 := hG4.a.free 0
  have y1 := hG4.a.free 1
  have y2 := hG4.a.free 2
  have y3 := hG4.a.free 3
  have y4 := hG4.a.free 4
  have y5 := hG4.a.free 5
  have y6 := hG4.a.free 6
  have y7 := hG4.a.free 7
  have y8 := hG4.a.free 8
  have y9 := hG4.a.free 9
  have y10 := hG4.a.free 10
  have bz := Lib.frozen_of_heap hG4.b 0
  have cz := Lib.frozen_of_heap hG4.c 0
  have bc : (w3.alloc (.cells #[.int .i64 xid] 3)).cell? ⟨w.heap.size + 1, 0, none⟩ = some (.string ⟨#[]⟩) := by rw [cell_of_row _ _ 0 _ _ _ hG4.b]; rfl
  have cc : (w3.alloc (.cells #[.int .i64 xid] 3)).cell? ⟨w.heap.size + 1 + 1, 0, none⟩ = some (.int .i64 0) := by rw [cell_of_row _ _ 0 _ _ _ hG4.c]; rfl
  clear HR3 HG3 hG4
  generalize w3.alloc (.cells #[.int .i64 xid] 3) = W4 at *
  go_wp2
  have hQ := laidE w.heap.size (w.heap.size + 1) (w.heap.size + 1 + 1) w W4 ⟨#[]⟩ 4 HG4.out.below HG4.out.a HG4.out.b HG4.out.c (by omega) (by omega) (by omega) (((((((((((((W4.setCell ⟨w.heap.size, 0, none⟩ (.int .i64 0)).setCell ⟨w.heap.size, 1, none⟩ (.int .i64 0)).setCell ⟨w.heap.size, 2, none⟩ (.int .i64 0)).setCell ⟨w.heap.size, 3, none⟩ (.int .i64 0)).setCell ⟨w.heap.size, 4, none⟩ (.bool false)).setCell ⟨w.heap.size, 5, none⟩ (.int .i64 0)).setCell ⟨w.heap.size, 6, none⟩ (.string ⟨#[]⟩)).setCell ⟨w.heap.size, 7, none⟩ (.int .i64 0)).setCell ⟨w.heap.size, 8, none⟩ (.int .i64 0)).setCell ⟨w.heap.size, 9, none⟩ (.slice none 0 0)).setCell ⟨w.heap.size, 10, none⟩ (.string ⟨#[]⟩)).setCell ⟨w.heap.size + 1, 0, none⟩ (.string ⟨#[]⟩)).setCell ⟨w.heap.size + 1 + 1, 0, none⟩ (.int .i64 4)) rfl
  generalize (((((((((((((W4.setCell ⟨w.heap.size, 0, none⟩ (.int .i64 0)).setCell ⟨w.heap.size, 1, none⟩ (.int .i64 0)).setCell ⟨w.heap.size, 2, none⟩ (.int .i64 0)).setCell ⟨w.heap.size, 3, none⟩ (.int .i64 0)).setCell ⟨w.heap.size, 4, none⟩ (.bool false)).setCell ⟨w.heap.size, 5, none⟩ (.int .i64 0)).setCell ⟨w.heap.size, 6, none⟩ (.string ⟨#[]⟩)).setCell ⟨w.heap.size, 7, none⟩ (.int .i64 0)).setCell ⟨w.heap.size, 8, none⟩ (.int .i64 0)).setCell ⟨w.heap.size, 9, none⟩ (.slice none 0 0)).setCell ⟨w.heap.size, 10, none⟩ (.string ⟨#[]⟩)).setCell ⟨w.heap.size + 1, 0, none⟩ (.string ⟨#[]⟩)).setCell ⟨w.heap.size + 1 + 1, 0, none⟩ (.int .i64 4)) = w6 at hQ ⊢
  obtain ⟨k1, k2, k3, k4, k5, k6, k7, k8⟩ := hQ
  have hb6 : Below w.heap.size w w6 := ⟨k4, k5, k6, k7, fun k hk => k8 k hk (by omega) (by omega) (by omega)⟩
  have hL := run_loadVar_row (P := Tryz.prog) w6 w.heap.size 26 26 _ (0, 0) _ k1 Tryz.underlying26 rfl (by kernel_rfl)
  have c1 : w6.cell? ⟨w.heap.size + 1, 0, none⟩ = some (.string ⟨#[]⟩) := by rw [cell_of_row _ _ 0 _ _ _ k2]; rfl
  have c2 : w6.cell? ⟨w.heap.size + 1 + 1, 0, none⟩ = some (.int .i64 4) := by rw [cell_of_row _ _ 0 _ _ _ k3]; rfl
  clear k1 k2 k3 k4 k5 k6 k7 k8
  simp [bodyPostD, Leaves, results, Tryz.results4, hL, hb6, asAddr]
  simp [go_sem, c1, c2]
set_option maxRecDepth 100000 in
set_option maxHeartbeats 1000000 in
/-- Too many bytes. -/
theorem get_long (s : ByteArray) (w : World) (hs : 65536 < s.size) :
    Calls Tryz.prog 4 #[.string s] w fun r w' => r = .returned (.tuple #[.agg #[.int .i64 0, .int .i64 0, .int .i64 0, .int .i64 0, .bool false, .int .i64 0, .string ⟨#[]⟩, .int .i64 0, .int .i64 0, .slice none 0 0, .string ⟨#[]⟩], .string ⟨#[]⟩, .int .i64 2]) ∧ Below w.heap.size w w' := by
  have hmf : ∀ (fn : Fn) (first cap : Array Value) (w : World), (Instr.makeFunc fn first cap).run Tryz.prog w = .ok (.func fn first cap) w := fun _ _ _ _ => rfl
  go_enter_defers Tryz.func4, Tryz.ntmps4
  go_wp2
  simp [bodyPostD, Leaves, results, Tryz.results4, asAddr]
  simp [go_sem]
  exact (((Below.refl _ _).alloc (Nat.le_refl _) _).alloc (by simp) _).alloc (by simp; omega) _
end Go.Proofs.YtihkjgfghjgblaaGreatDoor.R
