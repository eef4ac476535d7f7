/-
  A Set out of numbers: what set answers. Its condition: the numbers lie in memory.
-/
import Derived.Test.YtedcgmagkkoggaaTs
import Derived.Test.YtedcgmagkkoggaaTa
namespace Go.Proofs.Ytedcgmagkkoggaa
open Go.RowKit
/-- The Set that numbers begin with, and what is behind it. -/
def setO (L : List Int) : Option (Array Value × List Int) :=
  match peO L with
  | none => none
  | some (b0, x0, L0) => match peO L0 with
    | none => none
    | some (b1, x1, L1) => match peO L1 with
      | none => none
      | some (b2, x2, L2) => match peO L2 with
        | none => none
        | some (b3, x3, L3) => match moO L3 with
          | none => none
          | some (h0, a0, a1, L4) => match moO L4 with
            | none => none
            | some (h1, m0, m1, L5) => some (#[.bool b0, .bool b1, .bool b2, .bool b3, .int .i64 x0, .int .i64 x1, .int .i64 x2, .int .i64 x3, .int .i64 h0, .int .i64 h1, .int .i64 a0, .int .i64 a1, .int .i64 m0, .int .i64 m1], L5)
/-- A Set in its block. -/
def SAt (w : World) (B : Nat) (cs : Array Value) : Prop := w.heap[B]? = some (.cells cs 43 (0, 0))
theorem SAt.lt {w : World} {B : Nat} {cs : Array Value} (h : SAt w B cs) : B < w.heap.size := (Array.getElem?_eq_some_iff.1 h).1
theorem SAt.new (w : World) (cs : Array Value) : SAt (w.alloc (.cells cs 43)) w.heap.size cs := heap_alloc_new w _
theorem SAt.keep {w w' : World} {B : Nat} {cs : Array Value} (h : SAt w B cs) (hb : Below w.heap.size w w') : SAt w' B cs := (hb.block B h.lt).trans h
theorem SAt.set {w : World} {B : Nat} {cs : Array Value} (h : SAt w B cs) (cs' : Array Value) : SAt (w.setRow B cs') B cs' := by
  unfold SAt at h ⊢
  simp [World.setRow, Array.getElem?_modify, h]
theorem SAt.put {w : World} {B : Nat} {cs : Array Value} (h : SAt w B cs) (i : Nat) (u : Value) : SAt (w.setCell ⟨B, i, none⟩ u) B (cs.setIfInBounds i u) := by
  unfold SAt at h ⊢
  simp [World.setCell, Array.getElem?_modify, h]
theorem set_row_fq' (w : World) (B : Nat) (cs : Array Value) : Fq B w (w.setRow B cs) :=
  ⟨rfl, rfl, rfl, by simp [World.setRow], fun k _ hk => setRow_other w B k cs (fun e => hk e)⟩
/-- The taker, the Set that is made, and the result's box. -/
structure TS (N p R S : Nat) (L : List Int) (cs : Array Value) (w0 w1 w : World) : Prop where
  tf : TF N p L w0 w
  f : Fq p w1 w
  s : SAt w S cs
  r : SAt w R #[.bool false, .bool false, .bool false, .bool false, .int .i64 0, .int .i64 0, .int .i64 0, .int .i64 0, .int .i64 0, .int .i64 0, .int .i64 0, .int .i64 0, .int .i64 0, .int .i64 0]
  sp : S ≠ p
  rp : R ≠ p
  rs : R ≠ S
  ns : N ≤ S ∧ w1.heap.size ≤ S
theorem TS.start {N p : Nat} {L : List Int} {w0 w : World} (h : TF N p L w0 w) :
    TS N p w.heap.size (w.heap.size + 1) L #[.bool false, .bool false, .bool false, .bool false, .int .i64 0, .int .i64 0, .int .i64 0, .int .i64 0, .int .i64 0, .int .i64 0, .int .i64 0, .int .i64 0, .int .i64 0, .int .i64 0] w0 w ((w.alloc (.cells #[.bool false, .bool false, .bool false, .bool false, .int .i64 0, .int .i64 0, .int .i64 0, .int .i64 0, .int .i64 0, .int .i64 0, .int .i64 0, .int .i64 0, .int .i64 0, .int .i64 0] 43)).alloc (.cells #[.bool false, .bool false, .bool false, .bool false, .int .i64 0, .int .i64 0, .int .i64 0, .int .i64 0, .int .i64 0, .int .i64 0, .int .i64 0, .int .i64 0, .int .i64 0, .int .i64 0] 43)) := by
  have h2 := heap_alloc_new (w.alloc (.cells #[.bool false, .bool false, .bool false, .bool false, .int .i64 0, .int .i64 0, .int .i64 0, .int .i64 0, .int .i64 0, .int .i64 0, .int .i64 0, .int .i64 0, .int .i64 0, .int .i64 0] 43)) (.cells #[.bool false, .bool false, .bool false, .bool false, .int .i64 0, .int .i64 0, .int .i64 0, .int .i64 0, .int .i64 0, .int .i64 0, .int .i64 0, .int .i64 0, .int .i64 0, .int .i64 0] 43)
  rw [show (w.alloc (.cells #[.bool false, .bool false, .bool false, .bool false, .int .i64 0, .int .i64 0, .int .i64 0, .int .i64 0, .int .i64 0, .int .i64 0, .int .i64 0, .int .i64 0, .int .i64 0, .int .i64 0] 43)).heap.size = w.heap.size + 1 from by simp] at h2
  have hlt := h.lt
  have hN := h.hN
  exact ⟨(h.alloc _).alloc _, (Fq.ofBelow ((Below.refl _ w).alloc (Nat.le_refl _) _)).trans (Fq.ofBelow ((Below.refl _ _).alloc (Nat.le_refl _) _)), h2, ((World.grownBy_alloc _ _ none).block w.heap.size (by simp) (by simp)).trans (heap_alloc_new w _), by omega, by omega, by omega, by omega, by omega⟩
/-- A call of the taker's. -/
theorem TS.step {N p R S : Nat} {L L' : List Int} {cs : Array Value} {w0 w1 w w' : World} (h : TS N p R S L cs w0 w1 w) (hT : TF N p L' w0 w') (hF : Fq p w w') : TS N p R S L' cs w0 w1 w' :=
  ⟨hT, h.f.trans hF, (hF.block S h.s.lt h.sp).trans h.s, (hF.block R h.r.lt h.rp).trans h.r, h.sp, h.rp, h.rs, h.ns⟩
/-- A store into the Set. -/
theorem TS.put {N p R S : Nat} {L : List Int} {cs : Array Value} {w0 w1 w : World} (h : TS N p R S L cs w0 w1 w) (i : Nat) (u : Value) : TS N p R S L (cs.setIfInBounds i u) w0 w1 (w.setCell ⟨S, i, none⟩ u) := by
  have hF := Fq.set S w i u
  refine ⟨h.tf.keep hF h.ns.1 h.sp, ⟨hF.os.trans h.f.os, hF.tape.trans h.f.tape, hF.output.trans h.f.output, Nat.le_trans h.f.size hF.size, fun k hk hp => ?_⟩, h.s.put i u, (hF.block R h.r.lt h.rs).trans h.r, h.sp, h.rp, h.rs, h.ns⟩
  exact (hF.block k (Nat.lt_of_lt_of_le hk h.f.size) (by have := h.ns.2; omega)).trans (h.f.block k hk hp)
theorem TS.cell {N p R S : Nat} {L : List Int} {cs : Array Value} {w0 w1 w : World} (h : TS N p R S L cs w0 w1 w) (i : Nat) {u : Value} (hu : cs[i]? = some u) : w.cell? ⟨S, i, none⟩ = some u ∧ w.frozen? ⟨S, i, none⟩ = false :=
  ⟨by rw [cell_of_row w S i _ _ _ h.s]; exact hu, Lib.frozen_of_heap h.s i⟩
/-- What set answers. -/
def SetTo (p N : Nat) (w0 w : World) (x : Option (Array Value × List Int)) (r : Ending) (w' : World) : Prop :=
  match x with
  | none => r = Refused ∧ Fq p w w'
  | some (cs, M) => r = .returned (.agg cs) ∧ TF N p M w0 w' ∧ Fq p w w'
set_option maxRecDepth 100000 in
set_option maxHeartbeats 4000000 in
theorem set_any {N p : Nat} {L : List Int} {w0 w : World} (h : TF N p L w0 w) (X : Option (Array Value × List Int)) (hX : setO L = X) : Calls Try.prog 24 #[.pointer (some ⟨p, 0, none⟩)] w (SetTo p N w0 w X) := by
  have HT := Lib.hid (TS.start h)
  have HX := Lib.hid hX
  have HN := Lib.hid h.hN
  clear hX h
  go_enter Try.func24, Try.ntmps24
  go_wp2_with fail
  generalize (w.alloc (.cells #[.bool false, .bool false, .bool false, .bool false, .int .i64 0, .int .i64 0, .int .i64 0, .int .i64 0, .int .i64 0, .int .i64 0, .int .i64 0, .int .i64 0, .int .i64 0, .int .i64 0] 43)).alloc (.cells #[.bool false, .bool false, .bool false, .bool false, .int .i64 0, .int .i64 0, .int .i64 0, .int .i64 0, .int .i64 0, .int .i64 0, .int .i64 0, .int .i64 0, .int .i64 0, .int .i64 0] 43) = W at *
  generalize hR : w.heap.size = R at *
  have HR := Lib.hid hR
  clear hR
  generalize R + 1 = S at *
  cases o0 : peO L with
  | none =>
    have hn : X = none := by
      rw [← HX.out]
      unfold setO
      simp only [o0]
    subst hn
    have HO := Lib.hid o0
    clear o0 HX
    refine (pe_no HT.out.tf HO.out).mono ?_
    rintro r w' ⟨rfl, hF⟩
    have HF := Lib.hid (HT.out.f.trans hF)
    clear hF
    go_wp2
    exact ⟨rfl, rfl, HF.out⟩
  | some y0 =>
  obtain ⟨b0, x0, L0⟩ := y0
  refine (pe_ok HT.out.tf o0).mono ?_
  rintro r v0 ⟨rfl, hT, hF⟩
  have hS := HT.out.step hT hF
  obtain ⟨c0, f0⟩ := hS.cell 0 (u := .bool false) rfl
  obtain ⟨c1, f1⟩ := hS.cell 4 (u := .int .i64 0) rfl
  have H0 : Hid (TS N p R S L0 #[.bool b0, .bool false, .bool false, .bool false, .int .i64 x0, .int .i64 0, .int .i64 0, .int .i64 0, .int .i64 0, .int .i64 0, .int .i64 0, .int .i64 0, .int .i64 0, .int .i64 0] w0 w ((v0.setCell ⟨S, 0, none⟩ (.bool b0)).setCell ⟨S, 4, none⟩ (.int .i64 x0))) := Lib.hid ((hS.put 0 (.bool b0)).put 4 (.int .i64 x0))
  clear hT hF hS HT
  go_wp2_with fail
  clear c0 f0 c1 f1
  generalize ((v0.setCell ⟨S, 0, none⟩ (.bool b0)).setCell ⟨S, 4, none⟩ (.int .i64 x0)) = u0 at *
  cases o1 : peO L0 with
  | none =>
    have hn : X = none := by
      rw [← HX.out]
      unfold setO
      simp only [o0, o1]
    subst hn
    have HO := Lib.hid o1
    clear o0 o1 HX
    refine (pe_no H0.out.tf HO.out).mono ?_
    rintro r w' ⟨rfl, hF⟩
    have HF := Lib.hid (H0.out.f.trans hF)
    clear hF
    go_wp2
    exact ⟨rfl, rfl, HF.out⟩
  | some y1 =>
  obtain ⟨b1, x1, L1⟩ := y1
  refine (pe_ok H0.out.tf o1).mono ?_
  rintro r v1 ⟨rfl, hT, hF⟩
  have hS := H0.out.step hT hF
  obtain ⟨c0, f0⟩ := hS.cell 1 (u := .bool false) rfl
  obtain ⟨c1, f1⟩ := hS.cell 5 (u := .int .i64 0) rfl
  have H1 : Hid (TS N p R S L1 #[.bool b0, .bool b1, .bool false, .bool false, .int .i64 x0, .int .i64 x1, .int .i64 0, .int .i64 0, .int .i64 0, .int .i64 0, .int .i64 0, .int .i64 0, .int .i64 0, .int .i64 0] w0 w ((v1.setCell ⟨S, 1, none⟩ (.bool b1)).setCell ⟨S, 5, none⟩ (.int .i64 x1))) := Lib.hid ((hS.put 1 (.bool b1)).put 5 (.int .i64 x1))
  clear hT hF hS H0
  go_wp2_with fail
  clear c0 f0 c1 f1
  generalize ((v1.setCell ⟨S, 1, none⟩ (.bool b1)).setCell ⟨S, 5, none⟩ (.int .i64 x1)) = u1 at *
  cases o2 : peO L1 with
  | none =>
    have hn : X = none := by
      rw [← HX.out]
      unfold setO
      simp only [o0, o1, o2]
    subst hn
    have HO := Lib.hid o2
    clear o0 o1 o2 HX
    refine (pe_no H1.out.tf HO.out).mono ?_
    rintro r w' ⟨rfl, hF⟩
    have HF := Lib.hid (H1.out.f.trans hF)
    clear hF
    go_wp2
    exact ⟨rfl, rfl, HF.out⟩
  | some y2 =>
  obtain ⟨b2, x2, L2⟩ := y2
  refine (pe_ok H1.out.tf o2).mono ?_
  rintro r v2 ⟨rfl, hT, hF⟩
  have hS := H1.out.step hT hF
  obtain ⟨c0, f0⟩ := hS.cell 2 (u := .bool false) rfl
  obtain ⟨c1, f1⟩ := hS.cell 6 (u := .int .i64 0) rfl
  have H2 : Hid (TS N p R S L2 #[.bool b0, .bool b1, .bool b2, .bool false, .int .i64 x0, .int .i64 x1, .int .i64 x2, .int .i64 0, .int .i64 0, .int .i64 0, .int .i64 0, .int .i64 0, .int .i64 0, .int .i64 0] w0 w ((v2.setCell ⟨S, 2, none⟩ (.bool b2)).setCell ⟨S, 6, none⟩ (.int .i64 x2))) := Lib.hid ((hS.put 2 (.bool b2)).put 6 (.int .i64 x2))
  clear hT hF hS H1
  go_wp2_with fail
  clear c0 f0 c1 f1
  generalize ((v2.setCell ⟨S, 2, none⟩ (.bool b2)).setCell ⟨S, 6, none⟩ (.int .i64 x2)) = u2 at *
  cases o3 : peO L2 with
  | none =>
    have hn : X = none := by
      rw [← HX.out]
      unfold setO
      simp only [o0, o1, o2, o3]
    subst hn
    have HO := Lib.hid o3
    clear o0 o1 o2 o3 HX
    refine (pe_no H2.out.tf HO.out).mono ?_
    rintro r w' ⟨rfl, hF⟩
    have HF := Lib.hid (H2.out.f.trans hF)
    clear hF
    go_wp2
    exact ⟨rfl, rfl, HF.out⟩
  | some y3 =>
  obtain ⟨b3, x3, L3⟩ := y3
  refine (pe_ok H2.out.tf o3).mono ?_
  rintro r v3 ⟨rfl, hT, hF⟩
  have hS := H2.out.step hT hF
  obtain ⟨c0, f0⟩ := hS.cell 3 (u := .bool false) rfl
  obtain ⟨c1, f1⟩ := hS.cell 7 (u := .int .i64 0) rfl
  have H3 : Hid (TS N p R S L3 #[.bool b0, .bool b1, .bool b2, .bool b3, .int .i64 x0, .int .i64 x1, .int .i64 x2, .int .i64 x3, .int .i64 0, .int .i64 0, .int .i64 0, .int .i64 0, .int .i64 0, .int .i64 0] w0 w ((v3.setCell ⟨S, 3, none⟩ (.bool b3)).setCell ⟨S, 7, none⟩ (.int .i64 x3))) := Lib.hid ((hS.put 3 (.bool b3)).put 7 (.int .i64 x3))
  clear hT hF hS H2
  go_wp2_with fail
  clear c0 f0 c1 f1
  generalize ((v3.setCell ⟨S, 3, none⟩ (.bool b3)).setCell ⟨S, 7, none⟩ (.int .i64 x3)) = u3 at *
  cases o4 : moO L3 with
  | none =>
    have hn : X = none := by
      rw [← HX.out]
      unfold setO
      simp only [o0, o1, o2, o3, o4]
    subst hn
    have HO := Lib.hid o4
    clear o0 o1 o2 o3 o4 HX
    refine (mo_no H3.out.tf HO.out).mono ?_
    rintro r w' ⟨rfl, hF⟩
    have HF := Lib.hid (H3.out.f.trans hF)
    clear hF
    go_wp2
    exact ⟨rfl, rfl, HF.out⟩
  | some y4 =>
  obtain ⟨h0, a0, a1, L4⟩ := y4
  refine (mo_ok H3.out.tf o4).mono ?_
  rintro r v4 ⟨rfl, hT, hF⟩
  have hS := H3.out.step hT hF
  obtain ⟨c0, f0⟩ := hS.cell 8 (u := .int .i64 0) rfl
  obtain ⟨c1, f1⟩ := hS.cell 10 (u := .int .i64 0) rfl
  obtain ⟨c2, f2⟩ := hS.cell 11 (u := .int .i64 0) rfl
  have H4 : Hid (TS N p R S L4 #[.bool b0, .bool b1, .bool b2, .bool b3, .int .i64 x0, .int .i64 x1, .int .i64 x2, .int .i64 x3, .int .i64 h0, .int .i64 0, .int .i64 a0, .int .i64 a1, .int .i64 0, .int .i64 0] w0 w (((v4.setCell ⟨S, 8, none⟩ (.int .i64 h0)).setCell ⟨S, 10, none⟩ (.int .i64 a0)).setCell ⟨S, 11, none⟩ (.int .i64 a1))) := Lib.hid (((hS.put 8 (.int .i64 h0)).put 10 (.int .i64 a0)).put 11 (.int .i64 a1))
  clear hT hF hS H3
  go_wp2_with fail
  clear c0 f0 c1 f1 c2 f2
  generalize (((v4.setCell ⟨S, 8, none⟩ (.int .i64 h0)).setCell ⟨S, 10, none⟩ (.int .i64 a0)).setCell ⟨S, 11, none⟩ (.int .i64 a1)) = u4 at *
  cases o5 : moO L4 with
  | none =>
    have hn : X = none := by
      rw [← HX.out]
      unfold setO
      simp only [o0, o1, o2, o3, o4, o5]
    subst hn
    have HO := Lib.hid o5
    clear o0 o1 o2 o3 o4 o5 HX
    refine (mo_no H4.out.tf HO.out).mono ?_
    rintro r w' ⟨rfl, hF⟩
    have HF := Lib.hid (H4.out.f.trans hF)
    clear hF
    go_wp2
    exact ⟨rfl, rfl, HF.out⟩
  | some y5 =>
  obtain ⟨h1, m0, m1, L5⟩ := y5
  refine (mo_ok H4.out.tf o5).mono ?_
  rintro r v5 ⟨rfl, hT, hF⟩
  have hS := H4.out.step hT hF
  obtain ⟨c0, f0⟩ := hS.cell 9 (u := .int .i64 0) rfl
  obtain ⟨c1, f1⟩ := hS.cell 12 (u := .int .i64 0) rfl
  obtain ⟨c2, f2⟩ := hS.cell 13 (u := .int .i64 0) rfl
  have H5 : Hid (TS N p R S L5 #[.bool b0, .bool b1, .bool b2, .bool b3, .int .i64 x0, .int .i64 x1, .int .i64 x2, .int .i64 x3, .int .i64 h0, .int .i64 h1, .int .i64 a0, .int .i64 a1, .int .i64 m0, .int .i64 m1] w0 w (((v5.setCell ⟨S, 9, none⟩ (.int .i64 h1)).setCell ⟨S, 12, none⟩ (.int .i64 m0)).setCell ⟨S, 13, none⟩ (.int .i64 m1))) := Lib.hid (((hS.put 9 (.int .i64 h1)).put 12 (.int .i64 m0)).put 13 (.int .i64 m1))
  clear hT hF hS H4
  have hX2 : X = some (#[.bool b0, .bool b1, .bool b2, .bool b3, .int .i64 x0, .int .i64 x1, .int .i64 x2, .int .i64 x3, .int .i64 h0, .int .i64 h1, .int .i64 a0, .int .i64 a1, .int .i64 m0, .int .i64 m1], L5) := by
    rw [← HX.out]
    unfold setO
    simp only [o0, o1, o2, o3, o4, o5]
  subst hX2
  clear o0 o1 o2 o3 o4 o5 HX
  go_upto_region 8 with (fail)
  clear c0 f0 c1 f1 c2 f2
  generalize (((v5.setCell ⟨S, 9, none⟩ (.int .i64 h1)).setCell ⟨S, 12, none⟩ (.int .i64 m0)).setCell ⟨S, 13, none⟩ (.int .i64 m1)) = u5 at *
  go_wp2_with (first | (refine wpList_load_row rfl 43 _ rfl S rfl 43 _ (0, 0) _ H5.out.s Try.underlying43 rfl (by kernel_rfl) ?_) | (refine wpList_store_row rfl 43 _ _ rfl R #[.bool b0, .bool b1, .bool b2, .bool b3, .int .i64 x0, .int .i64 x1, .int .i64 x2, .int .i64 x3, .int .i64 h0, .int .i64 h1, .int .i64 a0, .int .i64 a1, .int .i64 m0, .int .i64 m1] rfl rfl 43 _ H5.out.r (by kernel_rfl) rfl (by simp [Value.oneCell']) ?_))
  have HRR := Lib.hid (H5.out.r.set #[.bool b0, .bool b1, .bool b2, .bool b3, .int .i64 x0, .int .i64 x1, .int .i64 x2, .int .i64 x3, .int .i64 h0, .int .i64 h1, .int .i64 a0, .int .i64 a1, .int .i64 m0, .int .i64 m1])
  have hF := set_row_fq' u5 R #[.bool b0, .bool b1, .bool b2, .bool b3, .int .i64 x0, .int .i64 x1, .int .i64 x2, .int .i64 x3, .int .i64 h0, .int .i64 h1, .int .i64 a0, .int .i64 a1, .int .i64 m0, .int .i64 m1]
  have hNR : N ≤ R := by
    have := HN.out
    have := HR.out
    omega
  have HD := Lib.hid (H5.out.tf.keep hF hNR H5.out.rp)
  have hf := H5.out.f
  have HFF : Hid (Fq p w (u5.setRow R #[.bool b0, .bool b1, .bool b2, .bool b3, .int .i64 x0, .int .i64 x1, .int .i64 x2, .int .i64 x3, .int .i64 h0, .int .i64 h1, .int .i64 a0, .int .i64 a1, .int .i64 m0, .int .i64 m1])) := Lib.hid ⟨hF.os.trans hf.os, hF.tape.trans hf.tape, hF.output.trans hf.output, Nat.le_trans hf.size hF.size, fun k hk hp => (hF.block k (Nat.lt_of_lt_of_le hk hf.size) (by have := HR.out; omega)).trans (hf.block k hk hp)⟩
  clear hF hf hNR H5
  generalize u5.setRow R #[.bool b0, .bool b1, .bool b2, .bool b3, .int .i64 x0, .int .i64 x1, .int .i64 x2, .int .i64 x3, .int .i64 h0, .int .i64 h1, .int .i64 a0, .int .i64 a1, .int .i64 m0, .int .i64 m1] = u6 at *
  go_wp2
  refine bodyPost_ret (results_cell_row (by rfl) _ _ R 43 _ (0, 0) _ (by rfl) HRR.out Try.underlying43 (by rfl) (by kernel_rfl)) rfl ⟨rfl, HD.out, HFF.out⟩
end Go.Proofs.Ytedcgmagkkoggaa
