/-
  ShapeForms' walk: it answers true, and makes new blocks alone. No condition.
-/
import Derived.Test.YtdnleeklgacngaaDoorRfo
import Derived.Test.YtdnleeklgacngaaDoorSq
import Derived.Deep.DeepCutAuto
namespace Go.Proofs.YtdnleeklgacngaaDoor
open Go.RowKit Sch
def chB (prog proc : Int) : Bool := decide (prog = 100003 ∧ (proc = 2 ∨ 7 ≤ proc ∧ proc ≤ 15) ∨ prog = 100005 ∧ (proc = 1 ∨ proc = 3 ∨ proc = 4))
set_option maxRecDepth 100000 in
set_option maxHeartbeats 1000000 in
theorem changes_any (prog proc : Int) (w : World) : Calls Tryd.prog 8 #[.int .i64 prog, .int .i64 proc] w fun e w' => e = .returned (.bool (chB prog proc)) ∧ w' = w := by
  by_cases h3 : prog = 100003
  · subst h3
    go_enter Tryd.func8, Tryd.ntmps8
    go_wp2
    all_goals go_ret
    all_goals refine ⟨congrArg (fun b => Ending.returned (Value.bool b)) ?_, rfl⟩
    all_goals (rw [Bool.eq_iff_iff]; simp [chB]; omega)
  · have k3 : (prog == 100003) = false := by simpa using h3
    by_cases h5 : prog = 100005
    · subst h5
      go_enter Tryd.func8, Tryd.ntmps8
      go_wp2
      all_goals go_ret
      all_goals refine ⟨congrArg (fun b => Ending.returned (Value.bool b)) ?_, rfl⟩
      all_goals (rw [Bool.eq_iff_iff]; simp [chB]; omega)
    · have k5 : (prog == 100005) = false := by simpa using h5
      have hc : chB prog proc = false := decide_eq_false (by omega)
      rw [hc]
      clear hc h3 h5
      go_enter Tryd.func8, Tryd.ntmps8
      go_wp2
      go_ret
      exact ⟨rfl, rfl⟩
theorem check_k (t : List UInt8) (h : (form num5 t).isSome = true) (w : World) : Calls Tryd.prog 7 #[.string (bs t)] w fun r w' => r = .returned (.bool true) ∧ Below w.heap.size w w' := by
  rw [← h]
  exact check_any t w
theorem of_speaks : tup (ofO 100003 1) = .tuple #[.string ⟨#[111, 54, 52]⟩, .string ⟨#[60, 48, 58, 117, 117, 117, 117, 117, 113, 113, 117, 117, 113, 113, 117, 117, 117, 117, 117, 117, 44, 45, 58, 62]⟩, .bool true] := by kernel_rfl
set_option maxRecDepth 100000 in
theorem speaks_any (w : World) : Calls Tryd.prog 4 #[] w fun e w' => e = .returned (.bool true) ∧ Below w.heap.size w w' := by
  go_enter Tryd.func4, Tryd.ntmps4
  go_wp2_with fail
  refine (of_any 100003 1 w).mono ?_
  rintro e w1 ⟨rfl, hb⟩
  rw [of_speaks]
  have HB := Lib.hid hb
  clear hb
  go_wp2
  go_ret
  exact ⟨rfl, HB.out⟩
set_option maxRecDepth 100000 in
set_option maxHeartbeats 4000000 in
theorem forms_walk (prog proc : Int) (w : World) : Calls Tryd.prog 3 #[.int .i64 prog, .int .i64 proc] w fun e w' => e = .returned (.bool true) ∧ Below w.heap.size w w' := by
  obtain ⟨g1, g2⟩ := of_forms prog proc
  have hr := of_ref prog proc
  have HR := Lib.hid hr
  have HG1 := Lib.hid g1
  have HG2 := Lib.hid g2
  clear g1 g2 hr
  go_enter Tryd.func3, Tryd.ntmps3
  go_wp2_with fail
  refine (speaks_any _).mono ?_
  rintro e w1 ⟨rfl, hb⟩
  have HB1 := Lib.hid hb
  clear hb
  go_wp2_with fail
  refine (of_any prog proc _).mono ?_
  rintro e w2 ⟨rfl, hb⟩
  have HB2 := Lib.hid (HB1.out.trans (hb.mono HB1.out.size))
  clear hb HB1
  unfold tup
  go_wp2_with fail
  refine (rof_any prog proc _).mono ?_
  rintro e w3 ⟨rfl, hb⟩
  have HB3 := Lib.hid (HB2.out.trans (hb.mono HB2.out.size))
  clear hb HB2
  rw [← HR.out]
  clear HR
  unfold tup
  generalize ofO prog proc = o at *
  obtain ⟨a, r, ok⟩ := o
  go_upto_region 5 with (fail)
  go_cut [11] (fun v wc => v = .bool (chB prog proc) ∧ wc = w3)
  case first =>
    by_cases c3 : prog = 100003
    · have k3 : (prog == 100003) = true := by rw [c3]; rfl
      have H3 := Lib.hid c3
      clear c3
      have k5 : (prog == 100005) = false := by rw [H3.out]; rfl
      by_cases c2 : proc = 2
      · have k2 : (proc == 2) = true := by rw [c2]; rfl
        have H2 := Lib.hid c2
        clear c2
        go_wp2
        all_goals go_meet
        all_goals refine ⟨congrArg Value.bool ?_, rfl⟩
        all_goals (rw [Bool.eq_iff_iff]; have h0 := H3.out; have h1 := H2.out; simp [chB] <;> omega)
      · have k2 : (proc == 2) = false := by simpa using c2
        have H2 := Lib.hid c2
        clear c2
        by_cases c7 : proc = 7
        · have k7 : (proc == 7) = true := by rw [c7]; rfl
          have H7 := Lib.hid c7
          clear c7
          go_wp2
          all_goals go_meet
          all_goals refine ⟨congrArg Value.bool ?_, rfl⟩
          all_goals (rw [Bool.eq_iff_iff]; have h0 := H3.out; have h1 := H2.out; have h2 := H7.out; simp [chB] <;> omega)
        · have k7 : (proc == 7) = false := by simpa using c7
          have H7 := Lib.hid c7
          clear c7
          go_wp2
          all_goals go_meet
          all_goals refine ⟨congrArg Value.bool ?_, rfl⟩
          all_goals (rw [Bool.eq_iff_iff]; have h0 := H3.out; have h1 := H2.out; have h2 := H7.out; simp [chB] <;> omega)
    · have k3 : (prog == 100003) = false := by simpa using c3
      have H3 := Lib.hid c3
      clear c3
      by_cases c5 : prog = 100005
      · have k5 : (prog == 100005) = true := by rw [c5]; rfl
        have H5 := Lib.hid c5
        clear c5
        by_cases c1 : proc = 1
        · have k1 : (proc == 1) = true := by rw [c1]; rfl
          have H1 := Lib.hid c1
          clear c1
          go_wp2
          all_goals go_meet
          all_goals refine ⟨congrArg Value.bool ?_, rfl⟩
          all_goals (rw [Bool.eq_iff_iff]; have h0 := H3.out; have h1 := H5.out; have h2 := H1.out; simp [chB] <;> omega)
        · have k1 : (proc == 1) = false := by simpa using c1
          have H1 := Lib.hid c1
          clear c1
          by_cases ct : proc = 3
          · have kt : (proc == 3) = true := by rw [ct]; rfl
            have Ht := Lib.hid ct
            clear ct
            go_wp2
            all_goals go_meet
            all_goals refine ⟨congrArg Value.bool ?_, rfl⟩
            all_goals (rw [Bool.eq_iff_iff]; have h0 := H3.out; have h1 := H5.out; have h2 := H1.out; have h3 := Ht.out; simp [chB] <;> omega)
          · have kt : (proc == 3) = false := by simpa using ct
            have Ht := Lib.hid ct
            clear ct
            by_cases c4 : proc = 4
            · have k4 : (proc == 4) = true := by rw [c4]; rfl
              have H4 := Lib.hid c4
              clear c4
              go_wp2
              all_goals go_meet
              all_goals refine ⟨congrArg Value.bool ?_, rfl⟩
              all_goals (rw [Bool.eq_iff_iff]; have h0 := H3.out; have h1 := H5.out; have h2 := H1.out; have h3 := Ht.out; have h4 := H4.out; simp [chB] <;> omega)
            · have k4 : (proc == 4) = false := by simpa using c4
              have H4 := Lib.hid c4
              clear c4
              go_wp2
              all_goals go_meet
              all_goals refine ⟨congrArg Value.bool ?_, rfl⟩
              all_goals (rw [Bool.eq_iff_iff]; have h0 := H3.out; have h1 := H5.out; have h2 := H1.out; have h3 := Ht.out; have h4 := H4.out; simp [chB] <;> omega)
      · have k5 : (prog == 100005) = false := by simpa using c5
        have H5 := Lib.hid c5
        clear c5
        go_wp2
        all_goals go_meet
        all_goals refine ⟨congrArg Value.bool ?_, rfl⟩
        all_goals (rw [Bool.eq_iff_iff]; have h0 := H3.out; have h1 := H5.out; simp [chB] <;> omega)
  case rest =>
    obtain ⟨rfl, rfl⟩ := hcut
    have hch := fun w => changes_any prog proc w
    generalize chB prog proc = c at *
    generalize hx : bs a = x at *
    generalize hy : bs r = y at *
    have HX := Lib.hid hx
    have HY := Lib.hid hy
    clear hx hy
    go_wp2_with fail
    rw [← HX.out]
    refine (check_k a HG1.out _).mono ?_
    rintro e w4 ⟨rfl, hb⟩
    have HB4 := Lib.hid (HB3.out.trans (hb.mono HB3.out.size))
    clear hb HB3
    go_wp2_with fail
    rw [← HY.out]
    refine (check_k r HG2.out _).mono ?_
    rintro e w5 ⟨rfl, hb⟩
    have HB5 := Lib.hid (HB4.out.trans (hb.mono HB4.out.size))
    clear hb HB4
    go_wp2_with fail
    refine (hch _).mono ?_
    rintro e w6 ⟨rfl, rfl⟩
    go_wp2
    go_ret
    exact ⟨rfl, HB5.out⟩
end Go.Proofs.YtdnleeklgacngaaDoor
