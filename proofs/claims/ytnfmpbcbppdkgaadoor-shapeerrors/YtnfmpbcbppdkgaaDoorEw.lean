/-
  ShapeErrors' walk: it answers true, and makes new blocks alone. No condition.
-/
import Derived.Test.YtnfmpbcbppdkgaaDoorBw
import Derived.Test.YtnfmpbcbppdkgaaDoorEr
import Derived.Deep.DeepCutAuto
namespace Go.Proofs.YtnfmpbcbppdkgaaDoor
open Go.RowKit Sch
theorem infoI : (Tryd.prog.info? 3).map (fun i => (i.zero, i.size, i.bytes)) = some (some (.int .i64 0), 1, 8) := by kernel_rfl
theorem make_n (n : Nat) (hn : n ≤ 300) (u : World) : (Instr.makeSlice 25 (.int .i64 (n : Int)) (.int .i64 (n : Int))).run Tryd.prog u = .ok (.slice (some ⟨u.heap.size, 0, none⟩) n n) (u.alloc (.cells (ints (List.replicate n 0)).toArray 3)) := by
  obtain ⟨i0, hi, hz0, hz1, hz2⟩ := info_parts infoI
  have h := run_make (P := Tryd.prog) u 25 3 i0 (.int .i64 0) Tryd.underlying25 hi hz0 .i64 .i64 (n : Int) (n : Int) (by omega) (Int.le_refl _) (by rw [hz2]; omega) (by omega)
  have e : ((n : Int)).toNat = n := by omega
  rw [e] at h
  have e2 : madeCells #[.int .i64 0] n = (ints (List.replicate n 0)).toArray := by
    apply Array.ext
    · simp [madeCells, ints]
    · intro i h1 h2
      simp [madeCells, ints, Nat.mod_one]
  rw [← e2]
  simpa [hz1, Value.cells] using h
theorem ints_in (L : List Int) (i : Nat) (hi : i < L.length) : (ints L)[i]? = some (.int .i64 L[i]) := by simp [ints, hi]
def stO (status : Int) : Int := if status < 1 ∨ 4294967296 ≤ status then 5 else status
set_option maxRecDepth 100000 in
set_option maxHeartbeats 4000000 in
theorem errors_walk (proc status : Int) (w : World) : Calls Tryd.prog 4 #[.int .i64 proc, .int .i64 status] w fun e w' => e = .returned (.bool true) ∧ Below w.heap.size w w' := by
  have hor := of_err proc
  go_enter Tryd.func4, Tryd.ntmps4
  go_wp2_with fail
  refine (speaks_any _).mono ?_
  rintro e w1 ⟨rfl, hb⟩
  have HB1 := Lib.hid hb
  clear hb
  go_wp2_with fail
  refine (of_any 100003 proc _).mono ?_
  rintro e w2 ⟨rfl, hb⟩
  have HB2 := Lib.hid (HB1.out.trans (hb.mono HB1.out.size))
  clear hb HB1
  rcases hor with ho | hp | ⟨a, r, k, ho, hk, hk4⟩
  · rw [ho]
    clear ho
    unfold tup
    go_wp2
    go_ret
    exact ⟨rfl, HB2.out⟩
  · have h0 : (proc == 0) = true := by rw [hp]; rfl
    clear hp
    unfold tup
    generalize ofO 100003 proc = o at *
    obtain ⟨a, r, ok⟩ := o
    cases ok <;> go_wp2 <;> go_ret <;> exact ⟨rfl, HB2.out⟩
  · rw [ho]
    clear ho
    have HK := Lib.hid hk
    clear hk
    unfold tup
    by_cases hp : (proc == 0) = true
    · go_wp2
      go_ret
      exact ⟨rfl, HB2.out⟩
    · have hp0 : (proc == 0) = false := by simpa using hp
      clear hp
      obtain ⟨st, hst⟩ : ∃ st, st = stO status := ⟨_, rfl⟩
      have hs : 1 ≤ st ∧ st < 4294967296 := by subst hst; unfold stO; split <;> omega
      have HST := Lib.hid hst
      have HS := Lib.hid hs
      clear hst hs
      go_upto_region 6 with (fail)
      go_cut [33] (fun v wc => v = .bool (decide (status < 1 ∨ 4294967296 ≤ status)) ∧ wc = w2)
      case first =>
        go_wp2
        all_goals go_meet
        all_goals
          refine ⟨?_, rfl⟩
          refine congrArg Value.bool ?_
          rw [Bool.eq_iff_iff]
          simp
          try omega
      case rest =>
        obtain ⟨rfl, rfl⟩ := hcut
        go_upto_if 33 with (fail)
        go_cut [1] (fun v wd => v = .int .i64 st ∧ wd = wc)
        case first =>
          by_cases hv : status < 1 ∨ 4294967296 ≤ status
          · have hd : decide (status < 1 ∨ 4294967296 ≤ status) = true := decide_eq_true hv
            have HV := Lib.hid (show st = 5 by rw [HST.out]; unfold stO; rw [if_pos hv])
            clear hv
            rw [hd]
            go_wp2
            go_meet
            exact ⟨by rw [HV.out], rfl⟩
          · have hd : decide (status < 1 ∨ 4294967296 ≤ status) = false := decide_eq_false hv
            have HV := Lib.hid (show st = status by rw [HST.out]; unfold stO; rw [if_neg hv])
            clear hv
            rw [hd]
            go_wp2
            go_meet
            exact ⟨by rw [HV.out], rfl⟩
        case rest =>
          obtain ⟨rfl, rfl⟩ := hcut
          clear HST
          go_wp2_with fail
          go_loopw [8] (fun i wr => ∃ n : Nat, n ≤ k ∧ i = .int .i64 n ∧ Below w.heap.size w wr) (fun i _ => 5 - (intOf i).toNat)
          case atStart => exact ⟨0, by omega, rfl, HB2.out⟩
          case round =>
            obtain ⟨n, hn, rfl, hb⟩ := hrel
            have HB := Lib.hid hb
            clear hb HB2
            have hd : decide ((n : Int) < 5) = true := decide_eq_true (by omega)
            have hn4 : n ≤ 4 := by omega
            have hmk : (Instr.makeSlice 25 (.int .i64 (1 + (n : Int))) (.int .i64 (1 + (n : Int)))).run Tryd.prog wr = .ok (.slice (some ⟨wr.heap.size, 0, none⟩) (n + 1) (n + 1)) (wr.alloc (.cells (ints (List.replicate (n + 1) 0)).toArray 3)) := by
              have := make_n (n + 1) (by omega) wr
              rwa [show ((n + 1 : Nat) : Int) = 1 + (n : Int) by omega] at this
            have h1 := heap_alloc_new wr (.cells (ints (List.replicate (n + 1) 0)).toArray 3)
            have b1 := Below.alloc (Below.refl wr.heap.size wr) (Nat.le_refl _) (.cells (ints (List.replicate (n + 1) 0)).toArray 3)
            generalize hW : wr.alloc (.cells (ints (List.replicate (n + 1) 0)).toArray 3) = W at *
            generalize hBB : wr.heap.size = B at *
            have hBW : B < W.heap.size := (Array.getElem?_eq_some_iff.1 h1).1
            have h2 := (Below.heap_alloc W (.cells #[.slice (some ⟨B, 0, none⟩) (n + 1) (n + 1), .slice none 0 0] 28) B hBW).trans h1
            have h3 := heap_alloc_new W (.cells #[.slice (some ⟨B, 0, none⟩) (n + 1) (n + 1), .slice none 0 0] 28)
            have hc0 : (W.alloc (.cells #[.slice (some ⟨B, 0, none⟩) (n + 1) (n + 1), .slice none 0 0] 28)).cell? ⟨B, 0, none⟩ = some (.int .i64 0) := by rw [cell_of_row _ _ _ _ _ _ h2]; simp [ints]
            have hf0 : (W.alloc (.cells #[.slice (some ⟨B, 0, none⟩) (n + 1) (n + 1), .slice none 0 0] 28)).frozen? ⟨B, 0, none⟩ = false := Lib.frozen_of_heap h2 _
            have h4 : ((W.alloc (.cells #[.slice (some ⟨B, 0, none⟩) (n + 1) (n + 1), .slice none 0 0] 28)).setCell ⟨B, 0, none⟩ (.int .i64 st)).heap[W.heap.size]? = some (.cells #[.slice (some ⟨B, 0, none⟩) (n + 1) (n + 1), .slice none 0 0] 28 (0, 0)) := by
              rw [Below.heap_setCell _ _ _ _ (by show W.heap.size ≠ B; omega)]; exact h3
            have hx0 : ((W.alloc (.cells #[.slice (some ⟨B, 0, none⟩) (n + 1) (n + 1), .slice none 0 0] 28)).setCell ⟨B, 0, none⟩ (.int .i64 st)).cell? ⟨W.heap.size, 0, none⟩ = some (.slice (some ⟨B, 0, none⟩) (n + 1) (n + 1)) := by rw [cell_of_row _ _ _ _ _ _ h4]; rfl
            have hx1 : ((W.alloc (.cells #[.slice (some ⟨B, 0, none⟩) (n + 1) (n + 1), .slice none 0 0] 28)).setCell ⟨B, 0, none⟩ (.int .i64 st)).cell? ⟨W.heap.size, 1, none⟩ = some (.slice none 0 0) := by rw [cell_of_row _ _ _ _ _ _ h4]; rfl
            have hv0 : (W.alloc (.cells #[.slice (some ⟨B, 0, none⟩) (n + 1) (n + 1), .slice none 0 0] 28)).cell? ⟨W.heap.size, 0, none⟩ = some (.slice (some ⟨B, 0, none⟩) (n + 1) (n + 1)) := by rw [cell_of_row _ _ _ _ _ _ h3]; rfl
            have h5 : (W.setCell ⟨B, 0, none⟩ (.int .i64 st)).heap[B]? = some (.cells (ints (st :: List.replicate n 0)).toArray 3 (0, 0)) := by
              simp [World.setCell, Array.getElem?_modify, h1, ints, List.replicate_succ]
            have hsz : (W.setCell ⟨B, 0, none⟩ (.int .i64 st)).heap.size = W.heap.size := by simp [World.setCell]
            have h6 := (Below.heap_alloc (W.setCell ⟨B, 0, none⟩ (.int .i64 st)) (.cells #[.slice (some ⟨B, 0, none⟩) (n + 1) (n + 1), .slice none 0 0] 28) B (by omega)).trans h5
            have hBw : w.heap.size ≤ B := by rw [← hBB]; exact HB.out.size
            have HB6 := Lib.hid ((((HB.out.trans (b1.mono hBw)).setCell (p := ⟨B, 0, none⟩) (by exact hBw) (.int .i64 st))).alloc (by rw [hsz]; omega) (.cells #[.slice (some ⟨B, 0, none⟩) (n + 1) (n + 1), .slice none 0 0] 28))
            have H6 := Lib.hid h6
            clear h6 h5 hsz
            have hw0 := Lib.hid hx0
            go_wp2_with fail
            clear hv0 hx0 hx1 h4 hc0 hf0 h2 h3 hw0 h1 b1 hmk hBW hd
            generalize (W.setCell ⟨B, 0, none⟩ (.int .i64 st)).alloc (.cells #[.slice (some ⟨B, 0, none⟩) (n + 1) (n + 1), .slice none 0 0] 28) = X at *
            have hXB : B < X.heap.size := (Array.getElem?_eq_some_iff.1 H6.out).1
            have iN : ItsAt X.heap.size X (some ⟨B, 0, none⟩) (st :: List.replicate n 0) := fun i hi => ⟨B, 0, rfl, hXB, by
              rw [cell_of_row _ _ _ _ _ _ H6.out]
              rw [Nat.zero_add]
              simpa using ints_in (st :: List.replicate n 0) i hi⟩
            have iT : StsAt X.heap.size X none [] := fun i hi => absurd hi (Nat.not_lt_zero _)
            have henc := enc_err HK.out hk4 HS.out n hn
            have hlen : (st :: List.replicate n (0 : Int)).length = n + 1 := by simp
            have hcall := encode_any r (st :: List.replicate n 0) [] (some ⟨B, 0, none⟩) (n + 1) none 0 X iN iT ⟨by omega, by omega⟩ ⟨Nat.le_refl _, by omega⟩ (by unfold worth; rw [hlen]; simp; omega) _ henc
            rw [hlen] at hcall
            refine hcall.mono ?_
            clear hcall iN iT henc hXB
            rintro e w5 ⟨hB5, hr⟩
            have HB5 := Lib.hid (HB6.out.trans (hB5.mono HB6.out.size))
            clear hB5 HB6 H6
            by_cases hnk : n < k
            · rw [if_pos hnk] at hr
              simp only at hr
              subst hr
              go_wp2
              refine ⟨⟨n + 1, by omega, by go_num, HB5.out⟩, by simp [intOf]; omega⟩
            · obtain rfl : n = k := by omega
              rw [if_neg hnk] at hr
              simp only at hr
              subst hr
              have hdec := dec_err HK.out hk4 HS.out
              have h4 : (Y.numBytes st 4).length = 4 := by simp [Y.numBytes, Y.numTo_length]
              have hz : (⟨(Y.numBytes st 4 ++ zeroB n).toArray⟩ : ByteArray).size = 4 + 4 * n := by
                show (Y.numBytes st 4 ++ zeroB n).toArray.size = _
                rw [List.size_toArray, List.length_append, h4, zeroB_length]
              generalize (⟨(Y.numBytes st 4 ++ zeroB n).toArray⟩ : ByteArray) = S at *
              have HZ := Lib.hid hz
              have HD := Lib.hid hdec
              clear hdec h4 hz HK hn hnk
              go_wp2_with fail
              refine (decode_any r S _ _ HD.out).mono ?_
              rintro e w6 ⟨hB6, vN, vT, rfl, hN, hT⟩
              obtain ⟨aN, cN, rfl, iN, n1, n2⟩ := its_of hN
              obtain ⟨aT, cT, rfl, iT, t1, t2⟩ := sts_of hT
              obtain ⟨g, off, rfl, hg, hc⟩ := iN 0 (by simp)
              rw [hlen]
              simp only [List.getElem_cons_zero, Nat.add_zero] at hc
              have hc7 := (Below.heap_alloc w6 (.cells #[.slice (some ⟨g, off, none⟩) (n + 1) cN, .slice aT 0 cT] 28) g hg)
              have hc8 : (w6.alloc (.cells #[.slice (some ⟨g, off, none⟩) (n + 1) cN, .slice aT 0 cT] 28)).cell? ⟨g, off, none⟩ = some (.int .i64 st) := (World.cell?_of_block (a := ⟨g, off, none⟩) hc7).trans hc
              have HB7 := Lib.hid ((HB5.out.trans (hB6.mono HB5.out.size)).alloc (by have := HB5.out.size; have := hB6.size; omega) (.cells #[.slice (some ⟨g, off, none⟩) (n + 1) cN, .slice aT 0 cT] 28))
              clear hB6 HB5 hN hT iN iT hlen hc hc7 hg n1 n2 t1 t2
              have hz1 : ((S.size : Int) == 4 + 4 * (n : Int)) = true := by rw [HZ.out]; simp
              have hz2 : ((n : Int) + 1 == 1 + (n : Int)) = true := by simp; omega
              go_wp2
              go_ret
              exact ⟨rfl, HB7.out⟩
end Go.Proofs.YtnfmpbcbppdkgaaDoor
