/-
  A Set out of numbers, by the taker. Its condition: the numbers lie in memory.
-/
import Derived.Test.YtedcgmagkkoggaaTk
namespace Go.Proofs.Ytedcgmagkkoggaa
open Go.RowKit
/-- A number from 0 to m, and what is behind it. -/
def upO (m : Int) : List Int → Option (Int × List Int)
  | [] => none
  | x :: r => if 0 ≤ x ∧ x ≤ m then some (x, r) else none
/-- Perhaps a number. -/
def peO (L : List Int) : Option (Bool × Int × List Int) :=
  match upO 1 L with
  | none => none
  | some (h, r) => if h = 0 then some (false, 0, r) else match r with
    | [] => none
    | x :: q => some (true, x, q)
/-- Perhaps a moment. -/
def moO (L : List Int) : Option (Int × Int × Int × List Int) :=
  match upO 2 L with
  | none => none
  | some (h, r) => if h = 2 then (match r with
    | x :: y :: q => some (2, x, y, q)
    | _ => none) else some (h, 0, 0, r)
set_option maxHeartbeats 1000000 in
theorem up_no {N p : Nat} {m : Int} {L : List Int} {w0 w : World} (h : TF N p L w0 w) (hx : upO m L = none) : Calls Try.prog 34 #[.pointer (some ⟨p, 0, none⟩), .int .i64 m] w fun r w' => r = Refused ∧ Fq p w w' := by
  cases L with
  | nil =>
    have HT := Lib.hid h
    clear h
    go_enter Try.func34, Try.ntmps34
    go_wp2_with fail
    refine (number_no HT.out).mono ?_
    rintro r w' ⟨rfl, rfl⟩
    go_wp2
    exact ⟨rfl, rfl, Fq.refl _ _⟩
  | cons x q =>
    have hn : ¬ (0 ≤ x ∧ x ≤ m) := by
      intro k
      simp only [upO, if_pos k] at hx
      cases hx
    clear hx
    have HT := Lib.hid h
    clear h
    by_cases h0 : x < 0
    · have d0 : decide (x < 0) = true := decide_eq_true h0
      go_enter Try.func34, Try.ntmps34
      go_wp2_with fail
      refine (number_ok HT.out).mono ?_
      rintro r w' ⟨rfl, _, hF⟩
      have HF := Lib.hid hF
      clear hF
      go_wp2
      exact ⟨rfl, rfl, HF.out⟩
    · have d0 : decide (x < 0) = false := decide_eq_false h0
      have h1 : m < x := by omega
      have d1 : decide (m < x) = true := decide_eq_true h1
      go_enter Try.func34, Try.ntmps34
      go_wp2_with fail
      refine (number_ok HT.out).mono ?_
      rintro r w' ⟨rfl, _, hF⟩
      have HF := Lib.hid hF
      clear hF
      go_wp2
      exact ⟨rfl, rfl, HF.out⟩
set_option maxHeartbeats 1000000 in
theorem up_ok {N p : Nat} {m x : Int} {L q : List Int} {w0 w : World} (h : TF N p L w0 w) (hx : upO m L = some (x, q)) : Calls Try.prog 34 #[.pointer (some ⟨p, 0, none⟩), .int .i64 m] w fun r w' => r = .returned (.int .i64 x) ∧ TF N p q w0 w' ∧ Fq p w w' := by
  cases L with
  | nil => cases hx
  | cons y q' =>
    by_cases k : 0 ≤ y ∧ y ≤ m
    · simp only [upO, if_pos k, Option.some.injEq, Prod.mk.injEq] at hx
      obtain ⟨rfl, rfl⟩ := hx
      have HT := Lib.hid h
      clear h
      have d0 : decide (y < 0) = false := decide_eq_false (by omega)
      have d1 : decide (m < y) = false := decide_eq_false (by omega)
      have k0 : ¬ y < 0 := by omega
      have k1 : ¬ m < y := by omega
      clear k
      go_enter Try.func34, Try.ntmps34
      go_wp2_with fail
      refine (number_ok HT.out).mono ?_
      rintro r w' ⟨rfl, hT, hF⟩
      have HT2 := Lib.hid hT
      have HF := Lib.hid hF
      clear hT hF
      go_wp2
      go_ret
      exact ⟨rfl, HT2.out, HF.out⟩
    · simp only [upO, if_neg k] at hx
      cases hx
theorem up_le {m x : Int} {L q : List Int} (h : upO m L = some (x, q)) : 0 ≤ x ∧ x ≤ m := by
  cases L with
  | nil => cases h
  | cons y q' =>
    by_cases k : 0 ≤ y ∧ y ≤ m
    · simp only [upO, if_pos k, Option.some.injEq, Prod.mk.injEq] at h
      obtain ⟨rfl, rfl⟩ := h
      exact k
    · simp only [upO, if_neg k] at h
      cases h
set_option maxHeartbeats 1000000 in
theorem pe_no {N p : Nat} {L : List Int} {w0 w : World} (h : TF N p L w0 w) (hx : peO L = none) : Calls Try.prog 31 #[.pointer (some ⟨p, 0, none⟩)] w fun r w' => r = Refused ∧ Fq p w w' := by
  have HT := Lib.hid h
  clear h
  unfold peO at hx
  cases hu : upO 1 L with
  | none =>
    have HU := Lib.hid hu
    clear hx hu
    go_enter Try.func31, Try.ntmps31
    go_wp2_with fail
    refine (up_no HT.out HU.out).mono ?_
    rintro r w' ⟨rfl, hF⟩
    have HF := Lib.hid hF
    clear hF
    go_wp2
    exact ⟨rfl, rfl, HF.out⟩
  | some y =>
    obtain ⟨b, r⟩ := y
    rw [hu] at hx
    dsimp only at hx
    by_cases hb : b = 0
    · rw [if_pos hb] at hx
      cases hx
    · rw [if_neg hb] at hx
      cases r with
      | cons x q => cases hx
      | nil =>
        have HU := Lib.hid hu
        have hb' : (b == 0) = false := by simpa using hb
        clear hx hu
        go_enter Try.func31, Try.ntmps31
        go_wp2_with fail
        refine (up_ok HT.out HU.out).mono ?_
        rintro r w' ⟨rfl, hT, hF⟩
        have HT2 := Lib.hid hT
        have HF := Lib.hid hF
        clear hT hF
        go_wp2_with fail
        refine (number_no HT2.out).mono ?_
        rintro r w' ⟨rfl, rfl⟩
        go_wp2
        exact ⟨rfl, rfl, HF.out⟩
set_option maxHeartbeats 1000000 in
theorem pe_ok {N p : Nat} {b : Bool} {x : Int} {L q : List Int} {w0 w : World} (h : TF N p L w0 w) (hx : peO L = some (b, x, q)) : Calls Try.prog 31 #[.pointer (some ⟨p, 0, none⟩)] w fun r w' => r = .returned (.tuple #[.bool b, .int .i64 x]) ∧ TF N p q w0 w' ∧ Fq p w w' := by
  have HT := Lib.hid h
  clear h
  unfold peO at hx
  cases hu : upO 1 L with
  | none => rw [hu] at hx; cases hx
  | some y =>
    obtain ⟨c, r⟩ := y
    rw [hu] at hx
    dsimp only at hx
    have HU := Lib.hid hu
    clear hu
    by_cases hb : c = 0
    · subst hb
      rw [if_pos rfl] at hx
      injection hx with hx
      injection hx with e1 e2
      injection e2 with e2 e3
      subst e1 e2 e3
      go_enter Try.func31, Try.ntmps31
      go_wp2_with fail
      refine (up_ok HT.out HU.out).mono ?_
      rintro r w' ⟨rfl, hT, hF⟩
      have HT2 := Lib.hid hT
      have HF := Lib.hid hF
      clear hT hF
      go_wp2
      go_ret2
      exact ⟨rfl, HT2.out, HF.out⟩
    · rw [if_neg hb] at hx
      have hb' : (c == 0) = false := by simpa using hb
      cases r with
      | nil => cases hx
      | cons z q' =>
        injection hx with hx
        injection hx with e1 e2
        injection e2 with e2 e3
        subst e1 e2 e3
        go_enter Try.func31, Try.ntmps31
        go_wp2_with fail
        refine (up_ok HT.out HU.out).mono ?_
        rintro r w1 ⟨rfl, hT, hF⟩
        have HT2 := Lib.hid hT
        have HF := Lib.hid hF
        clear hT hF
        go_wp2_with fail
        refine (number_ok HT2.out).mono ?_
        rintro r w2 ⟨rfl, hT, hF⟩
        have HT3 := Lib.hid hT
        have HF2 := Lib.hid hF
        clear hT hF
        go_wp2
        go_ret2
        exact ⟨rfl, HT3.out, HF.out.trans HF2.out⟩
theorem number_ok2 {N p b : Nat} {m x : Int} {L q : List Int} {w0 w1 w : World} (h : T2 N p b L w0 w1 w) (hx : upO m L = some (x, q)) : Calls Try.prog 34 #[.pointer (some ⟨p, 0, none⟩), .int .i64 m] w fun r w' => r = .returned (.int .i64 x) ∧ T2 N p b q w0 w1 w' :=
  (up_ok h.tf hx).mono fun _ _ ⟨a, k, f⟩ => ⟨a, k, h.f.trans f, (f.block b (Array.getElem?_eq_some_iff.1 h.c).1 h.hb).trans h.c, h.hb⟩
set_option maxHeartbeats 1000000 in
theorem mo_no {N p : Nat} {L : List Int} {w0 w : World} (h : TF N p L w0 w) (hx : moO L = none) : Calls Try.prog 32 #[.pointer (some ⟨p, 0, none⟩)] w fun r w' => r = Refused ∧ Fq p w w' := by
  have HT := Lib.hid (T2.start h)
  have HW : Hid (Fq p w (w.alloc (.cells #[.int .i64 0, .int .i64 0] 26))) := Lib.hid (Fq.ofBelow ((Below.refl _ _).alloc (Nat.le_refl _) _))
  clear h
  unfold moO at hx
  cases hu : upO 2 L with
  | none =>
    have HU := Lib.hid hu
    clear hx hu
    go_enter Try.func32, Try.ntmps32
    go_wp2_with fail
    generalize w.alloc (.cells #[.int .i64 0, .int .i64 0] 26) = W at *
    refine (up_no HT.out.tf HU.out).mono ?_
    rintro r w' ⟨rfl, hF⟩
    have HF := Lib.hid hF
    clear hF
    go_wp2
    exact ⟨rfl, rfl, HW.out.trans HF.out⟩
  | some y =>
    obtain ⟨b, r⟩ := y
    rw [hu] at hx
    dsimp only at hx
    by_cases hb : b = 2
    · subst hb
      rw [if_pos rfl] at hx
      have HU := Lib.hid hu
      clear hu
      match r, hx with
      | x :: y :: q, hx => cases hx
      | [x], _ =>
        clear hx
        go_enter Try.func32, Try.ntmps32
        go_wp2_with fail
        generalize w.alloc (.cells #[.int .i64 0, .int .i64 0] 26) = W at *
        refine (number_ok2 HT.out HU.out).mono ?_
        rintro r w' ⟨rfl, hT⟩
        have HT2 := Lib.hid hT
        clear hT
        go_wp2_with fail
        refine (time_no1 HT2.out.tf).mono ?_
        rintro r w' ⟨rfl, hF⟩
        have HF := Lib.hid hF
        clear hF
        go_wp2
        exact ⟨rfl, rfl, HW.out.trans (HT2.out.f.trans HF.out)⟩
      | [], _ =>
        clear hx
        go_enter Try.func32, Try.ntmps32
        go_wp2_with fail
        generalize w.alloc (.cells #[.int .i64 0, .int .i64 0] 26) = W at *
        refine (number_ok2 HT.out HU.out).mono ?_
        rintro r w' ⟨rfl, hT⟩
        have HT2 := Lib.hid hT
        clear hT
        go_wp2_with fail
        refine (time_no0 HT2.out.tf).mono ?_
        rintro r w' ⟨rfl, hF⟩
        have HF := Lib.hid hF
        clear hF
        go_wp2
        exact ⟨rfl, rfl, HW.out.trans (HT2.out.f.trans HF.out)⟩
    · rw [if_neg hb] at hx
      cases hx
theorem results_t1 {P : Program} {fn : Func} {p u : Tmp} {ty : TypeId} (h : fn.results = #[.tmp u, .cell p ty]) (tmps : Array Value) (w : World) {a : Addr} (hp : tmps.getD p undef = .pointer (some a)) {x y : Value} (hL : (loadVar ty a).run P w = .ok x w)
    (hu : tmps.getD u undef = y) : (results fn tmps).run P w = .ok (.tuple #[y, x]) w := by
  subst hu
  have hp' : tmps[p]?.getD undef = .pointer (some a) := by simpa using hp
  simp [results, h, hp', asAddr, hL]
set_option maxHeartbeats 1000000 in
theorem mo_ok {N p : Nat} {h0 x0 y0 : Int} {L q : List Int} {w0 w : World} (h : TF N p L w0 w) (hx : moO L = some (h0, x0, y0, q)) : Calls Try.prog 32 #[.pointer (some ⟨p, 0, none⟩)] w fun r w' => r = .returned (.tuple #[.int .i64 h0, .agg #[.int .i64 x0, .int .i64 y0]]) ∧ TF N p q w0 w' ∧ Fq p w w' := by
  have HT := Lib.hid (T2.start h)
  have hN := h.hN
  have HW : Hid (Fq p w (w.alloc (.cells #[.int .i64 0, .int .i64 0] 26))) := Lib.hid (Fq.ofBelow ((Below.refl _ _).alloc (Nat.le_refl _) _))
  clear h
  have hend : ∀ (M : List Int) (w2 : World) (x y : Int), T2 N p w.heap.size M w0 (w.alloc (.cells #[.int .i64 0, .int .i64 0] 26)) w2 →
      TF N p M w0 ((w2.setCell ⟨w.heap.size, 0, none⟩ (.int .i64 x)).setCell ⟨w.heap.size, 1, none⟩ (.int .i64 y)) ∧ Fq p w ((w2.setCell ⟨w.heap.size, 0, none⟩ (.int .i64 x)).setCell ⟨w.heap.size, 1, none⟩ (.int .i64 y)) ∧
      (loadVar 26 ⟨w.heap.size, 0, none⟩).run Try.prog ((w2.setCell ⟨w.heap.size, 0, none⟩ (.int .i64 x)).setCell ⟨w.heap.size, 1, none⟩ (.int .i64 y)) = .ok (.agg #[.int .i64 x, .int .i64 y]) ((w2.setCell ⟨w.heap.size, 0, none⟩ (.int .i64 x)).setCell ⟨w.heap.size, 1, none⟩ (.int .i64 y)) := by
    intro M w2 x y hT
    obtain ⟨d1, d2, d3⟩ := hT.done hN x y
    have hf := hT.f
    have hw := HW.out
    refine ⟨d1, ⟨d3.os.trans (hf.os.trans hw.os), d3.tape.trans (hf.tape.trans hw.tape), d3.output.trans (hf.output.trans hw.output), Nat.le_trans hw.size (Nat.le_trans hf.size d3.size), fun k hk hp => ?_⟩, run_loadVar_row _ _ 26 26 _ (0, 0) _ d2 Try.underlying26 rfl (by kernel_rfl)⟩
    exact (d3.block k (Nat.lt_of_lt_of_le hk (Nat.le_trans hw.size hf.size)) (by omega)).trans ((hf.block k (Nat.lt_of_lt_of_le hk hw.size) hp).trans (hw.block k hk hp))
  have HE := Lib.hid hend
  clear hend
  unfold moO at hx
  cases hu : upO 2 L with
  | none => rw [hu] at hx; cases hx
  | some y =>
    obtain ⟨b, r⟩ := y
    rw [hu] at hx
    dsimp only at hx
    have HU := Lib.hid hu
    clear hu
    by_cases hb : b = 2
    · subst hb
      rw [if_pos rfl] at hx
      match r, hx with
      | [], hx => cases hx
      | [x], hx => cases hx
      | x :: y :: q', hx =>
        injection hx with hx
        injection hx with e1 e2
        injection e2 with e2 e3
        injection e3 with e3 e4
        subst e1 e2 e3 e4
        go_enter Try.func32, Try.ntmps32
        go_wp2_with fail
        generalize w.alloc (.cells #[.int .i64 0, .int .i64 0] 26) = W at *
        refine (number_ok2 HT.out HU.out).mono ?_
        rintro r w1 ⟨rfl, hT⟩
        have HT2 := Lib.hid hT
        clear hT
        go_wp2_with fail
        refine (time_ok HT2.out.tf).mono ?_
        rintro r w2 ⟨rfl, hT, hF⟩
        have hT3 : T2 N p w.heap.size q' w0 W w2 := ⟨hT, HT2.out.f.trans hF, (hF.block _ (Array.getElem?_eq_some_iff.1 HT2.out.c).1 HT2.out.hb).trans HT2.out.c, HT2.out.hb⟩
        have HE2 := Lib.hid (HE.out q' w2 x y hT3)
        have c0 : w2.cell? ⟨w.heap.size, 0, none⟩ = some (.int .i64 0) := by rw [cell_of_row _ _ 0 _ _ _ hT3.c]; rfl
        have c1 : w2.cell? ⟨w.heap.size, 1, none⟩ = some (.int .i64 0) := by rw [cell_of_row _ _ 1 _ _ _ hT3.c]; rfl
        have f0 := Lib.frozen_of_heap hT3.c 0
        have f1 := Lib.frozen_of_heap hT3.c 1
        clear hT hF hT3
        go_wp2
        refine bodyPost_ret (results_t1 (by rfl) _ _ (by rfl) HE2.out.2.2 (by rfl)) rfl ⟨rfl, HE2.out.1, HE2.out.2.1⟩
    · rw [if_neg hb] at hx
      have hb' : (b == 2) = false := by simpa using hb
      injection hx with hx
      injection hx with e1 e2
      injection e2 with e2 e3
      injection e3 with e3 e4
      subst e1 e2 e3 e4
      go_enter Try.func32, Try.ntmps32
      go_wp2_with fail
      generalize w.alloc (.cells #[.int .i64 0, .int .i64 0] 26) = W at *
      refine (number_ok2 HT.out HU.out).mono ?_
      rintro r w2 ⟨rfl, hT3⟩
      have HE2 := Lib.hid (HE.out _ w2 0 0 hT3)
      have c0 : w2.cell? ⟨w.heap.size, 0, none⟩ = some (.int .i64 0) := by rw [cell_of_row _ _ 0 _ _ _ hT3.c]; rfl
      have c1 : w2.cell? ⟨w.heap.size, 1, none⟩ = some (.int .i64 0) := by rw [cell_of_row _ _ 1 _ _ _ hT3.c]; rfl
      have f0 := Lib.frozen_of_heap hT3.c 0
      have f1 := Lib.frozen_of_heap hT3.c 1
      clear hT3
      go_wp2
      refine bodyPost_ret (results_t1 (by rfl) _ _ (by rfl) HE2.out.2.2 (by rfl)) rfl ⟨rfl, HE2.out.1, HE2.out.2.1⟩
end Go.Proofs.Ytedcgmagkkoggaa
