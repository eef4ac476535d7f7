/-
  What the document's own Text and TextMost answer: as our Fixed and Opaque. Their condition: a text of at most 2^47 bytes.
-/
import Derived.Test.YtjogcdkebplcpaaGreatDoorXRs
namespace Go.Proofs.YtjogcdkebplcpaaGreatDoor.X
open Go.RowKit

theorem fixR_nil (n : Int) (e : Int) (he : e ≠ 0) : fixR n [] e = (⟨#[]⟩, [], e) := by
  by_cases h0 : n < 0
  · exact if_pos h0
  · obtain ⟨m, rfl⟩ := Int.eq_ofNat_of_zero_le (show 0 ≤ n by omega)
    rw [fixR_nat]
    by_cases h1 : ((([] : List UInt8).length : Nat) : Int) - ((pad m : Nat) : Int) < m
    · rw [if_pos h1]; unfold failE; rw [if_neg he]
    · rw [if_neg h1]; simp
theorem ext_take (s : ByteArray) (a m : Nat) : s.extract a (a + m) = ⟨((s.data.toList.drop a).take m).toArray⟩ := by
  apply ByteArray.ext
  apply Array.ext'
  rw [ByteArray.data_extract, Array.toList_extract]
  simp [List.extract_eq_take_drop]
theorem byte_of {s : ByteArray} {i : Nat} (h : i < s.size) : s.data.toList[i]'(by rw [dat_len]; exact h) = s[i] := rfl

set_option maxRecDepth 100000 in
set_option maxHeartbeats 1000000 in
theorem refText_any (q : Nat) (s : ByteArray) (l : List UInt8) (e : Int) (n : Int) (w : World) (h : RL w q s l e) (hn : n ≤ 9223372036854775807) :
    Calls Tryz.prog 32 #[.pointer (some ⟨q, 0, none⟩), .int .i64 n] w fun r w' => r = .returned (.string (fixR n l e).1) ∧ RL w' q s (fixR n l e).2.1 (fixR n l e).2.2 ∧ Only q w w' := by
  by_cases he : e = 0
  · subst he
    by_cases h0 : n < 0
    · have HF := Lib.hid (show fixR n l 0 = (⟨#[]⟩, l, 0) from if_pos h0)
      have HR := Lib.hid h
      obtain ⟨a, h, rfl⟩ := h
      obtain ⟨c0, c1, c2, f1, f2⟩ := h.cells
      clear h
      go_enter Tryz.func32, Tryz.ntmps32
      go_wp2
      go_ret
      rw [HF.out]
      exact ⟨rfl, HR.out, Only.refl _ _⟩
    · obtain ⟨m, rfl⟩ := Int.eq_ofNat_of_zero_le (show 0 ≤ n by omega)
      have hp := pad_lt m
      obtain ⟨a, h, rfl⟩ := h
      obtain ⟨c0, c1, c2, f1, f2⟩ := h.cells
      have hle := h.le
      have hbig := h.big
      have hdl := drop_len s a
      have HK := Lib.hid (show s.size - a < m + pad m → fixR m (s.data.toList.drop a) 0 = (⟨#[]⟩, [], failE 0 5) from fun hh => by rw [fixR_nat]; exact if_pos (by rw [hdl]; omega))
      have HG := Lib.hid (show ¬ s.size - a < m + pad m → fixR m (s.data.toList.drop a) 0 = if (((s.data.toList.drop a).drop m).take (pad m)).all (· == 0) then (⟨((s.data.toList.drop a).take m).toArray⟩, (s.data.toList.drop a).drop (m + pad m), 0) else (⟨#[]⟩, [], failE 0 4) from fun hh => by rw [fixR_nat]; exact if_neg (by rw [hdl]; omega))
      clear hdl
      by_cases h1 : s.size - a < m
      · have HF := Lib.hid (HK.out (by omega))
        have h2 : (s.size : Int) - (a : Int) < (m : Int) := by omega
        clear HK HG h1
        go_enter Tryz.func32, Tryz.ntmps32
        go_wp2_with fail
        refine (rleft_any q s a 0 w h).mono ?_
        rintro r w1 ⟨rfl, n, rfl⟩
        go_wp2_with fail
        refine (wrong_any q s a 0 5 _ (h.drewN n)).mono ?_
        rintro r w2 ⟨rfl, hR, hO⟩
        have HR := Lib.hid hR
        have HO := Lib.hid (((Only.refl q w).drew n).trans hO)
        clear hR hO
        go_wp2
        go_ret
        rw [HF.out]
        exact ⟨rfl, HR.out, HO.out⟩
      · have h2 : ¬ (s.size : Int) - (a : Int) < (m : Int) := by omega
        go_enter Tryz.func32, Tryz.ntmps32
        go_wp2_with fail
        refine (rleft_any q s a 0 w h).mono ?_
        rintro r w1 ⟨rfl, n1, rfl⟩
        have hR1 := h.drewN n1
        have hO1 := (Only.refl q w).drew n1
        generalize w.drewN n1 = W1 at hR1 hO1 ⊢
        have HR1 := Lib.hid hR1
        have HO1 := Lib.hid hO1
        clear hR1 hO1 h c0 c1 c2 f1 f2
        go_wp2_with fail
        go_loopw [5] (fun f wr => ∃ k : Nat, k ≤ pad m ∧ f = .int .i64 ((m + k : Nat) : Int) ∧ RS wr q s a 0 ∧ Only q w wr) (fun f _ => m + 4 - (intOf f).toNat)
        case atStart => exact ⟨0, Nat.zero_le _, rfl, HR1.out, HO1.out⟩
        case round =>
          clear HR1 HO1
          obtain ⟨k, hk, rfl, hR1, hO1⟩ := hrel
          have HO1 := Lib.hid hO1
          clear hO1
          by_cases hlt : k < pad m
          · have h4 : (((m + k : Nat) : Int) % 4 != 0) = true := by
              have := pad_least hlt
              rw [bne_iff_ne]; omega
            obtain ⟨z, hz⟩ : ∃ z : Nat, z = m + k := ⟨_, rfl⟩
            rw [← hz] at h4 ⊢
            have hzb : z ≤ 9223372036854775800 := by omega
            have HZ := Lib.hid hz
            have HR1 := Lib.hid hR1
            clear hz hR1
            go_wp2
            go_roundw
            case rel => exact ⟨k + 1, by omega, by rw [HZ.out]; go_num, HR1.out, HO1.out⟩
            case measure => have := HZ.out; simp [intOf]; omega
          · have hk' : k = pad m := by omega
            subst hk'
            have h4 : (((m + pad m : Nat) : Int) % 4 != 0) = false := by
              have := pad_four m
              rw [bne_eq_false_iff_eq]; omega
            obtain ⟨z, hz⟩ : ∃ z : Nat, z = m + pad m := ⟨_, rfl⟩
            rw [← hz] at h4 ⊢
            have HZ := Lib.hid hz
            have hzm : m ≤ z := by omega
            have hzb : z ≤ m + 3 := by omega
            have HK2 := Lib.hid (show s.size - a < z → fixR m (s.data.toList.drop a) 0 = (⟨#[]⟩, [], failE 0 5) by rw [hz]; exact HK.out)
            have HG2 := Lib.hid (show ¬ s.size - a < z → _ by rw [hz]; exact HG.out)
            clear hz HK HG
            go_wp2_with fail
            refine (rleft_any q s a 0 _ hR1).mono ?_
            rintro r w1 ⟨rfl, n2, rfl⟩
            have hR2 := hR1.drewN n2
            have hO2 := HO1.out.drew n2
            generalize wr.drewN n2 = W2 at hR2 hO2 ⊢
            have HO2 := Lib.hid hO2
            clear hR1 hO2 HO1
            by_cases h5 : s.size - a < z
            · have HF := Lib.hid (HK2.out h5)
              have h6 : (s.size : Int) - (a : Int) < (z : Int) := by omega
              clear HK2 HG2
              go_wp2_with fail
              refine (wrong_any q s a 0 5 _ hR2).mono ?_
              rintro r w2 ⟨rfl, hR, hO⟩
              have HR := Lib.hid hR
              have HO := Lib.hid (HO2.out.trans hO)
              clear hR hO
              go_wp2
              go_ret
              rw [HF.out]
              exact ⟨rfl, HR.out, HO.out⟩
            · have h6 : ¬ (s.size : Int) - (a : Int) < (z : Int) := by omega
              have HF := Lib.hid (HG2.out h5)
              obtain ⟨d0, d1, d2, g1, g2⟩ := hR2.cells
              have HR2 := Lib.hid hR2
              clear HK2 HG2 hR2
              have hw1 : IntKind.i64.wrap ((a : Int) + (m : Int)) = ((a + m : Nat) : Int) := by rw [IntWalk.i64_in _ (by omega)]; omega
              have hb1 : a ≤ a + m := by omega
              have hb2 : a + m ≤ s.size := by omega
              have hb3 : (a : Int) ≤ ((a + m : Nat) : Int) := by omega
              have hb4 : ((a + m : Nat) : Int) ≤ (s.size : Int) := by omega
              go_wp2_with fail
              go_quiet (fail)
              clear hw1 hb1 hb2 hb3 hb4
              go_wp2_with fail
              have HR3 := Lib.hid (HR2.out.drewN nq)
              have HO3 := Lib.hid (HO2.out.drew nq)
              clear HR2 HO2 d0 d1 d2 g1 g2
              generalize W2.drewN nq = W3 at HR3 HO3 ⊢
              go_loopw [7] (fun i wr => ∃ k : Nat, k ≤ pad m ∧ i = .int .i64 ((m + k : Nat) : Int) ∧ RS wr q s a 0 ∧ Only q w wr ∧ (((s.data.toList.drop a).drop m).take k).all (· == 0) = true) (fun i _ => z - (intOf i).toNat)
              case atStart => exact ⟨0, Nat.zero_le _, rfl, HR3.out, HO3.out, rfl⟩
              case round =>
                clear HR3 HO3
                obtain ⟨k, hk2, rfl, hR, hO, hal⟩ := hrel
                have HO := Lib.hid hO
                have HA := Lib.hid hal
                clear hO hal
                by_cases hlt2 : k < pad m
                · obtain ⟨y, hy⟩ : ∃ y : Nat, y = m + k := ⟨_, rfl⟩
                  rw [← hy]
                  have hyz : y < z := by have := HZ.out; omega
                  have hay : a + y < s.size := by have := HZ.out; omega
                  obtain ⟨d0, d1, d2, g1, g2⟩ := hR.cells
                  have hx : k < ((s.data.toList.drop a).drop m).length := by rw [List.length_drop, List.length_drop, dat_len]; omega
                  have HB := Lib.hid (show ((((s.data.toList.drop a).drop m).drop k).take 1).getD 0 0 = s[a + y] by
                    rw [List.drop_drop, List.drop_drop, show a + (m + k) = a + y from by omega]
                    rw [List.drop_eq_getElem_cons (by rw [dat_len]; exact hay)]
                    rfl)
                  have HY := Lib.hid hy
                  have hi1 : (a : Int) + (y : Int) < (s.size : Int) := by omega
                  have hi0 : (0 : Int) ≤ (a : Int) + (y : Int) := by omega
                  have hi2 : ((a : Int) + (y : Int)).toNat = a + y := by omega
                  have hw1 : IntKind.i64.wrap ((a : Int) + (y : Int)) = (a : Int) + (y : Int) := IntWalk.i64_in _ (by omega)
                  clear hy
                  by_cases hz0 : s[a + y] = 0
                  · have HT := Lib.hid (show (((s.data.toList.drop a).drop m).take (k + 1)).all (· == 0) = true by
                      rw [take_more _ k hx, List.all_append, HA.out, HB.out, hz0]; rfl)
                    have hne : (((s[a + y]).toNat : Int) != 0) = false := by rw [hz0]; rfl
                    have HZ0 := Lib.hid hz0
                    have HR := Lib.hid hR
                    clear hz0 hR hx
                    go_wp2_with fail
                    go_quiet (fail)
                    clear hw1
                    go_wp2
                    go_roundw
                    case rel => exact ⟨k + 1, by omega, by rw [HY.out]; go_num, HR.out.drewN _, HO.out.drew _, HT.out⟩
                    case measure => have := HY.out; simp [intOf]; omega
                  · have hne : (((s[a + y]).toNat : Int) != 0) = true := by
                      rw [bne_iff_ne]; intro hh; apply hz0; apply UInt8.toNat_inj.1; simpa using hh
                    have HF2 := Lib.hid (show fixR m (s.data.toList.drop a) 0 = (⟨#[]⟩, [], failE 0 4) by
                      rw [HF.out, if_neg]
                      intro hall
                      apply hz0
                      rw [← HB.out]
                      exact all_upto hlt2 hx hall)
                    clear hz0 hx
                    go_wp2_with fail
                    go_quiet (fail)
                    clear hw1
                    go_wp2_with fail
                    refine (wrong_any q s a 0 4 _ (hR.drewN _)).mono ?_
                    rintro r w2 ⟨rfl, hR3, hO3⟩
                    have HR3 := Lib.hid hR3
                    have HO3 := Lib.hid ((HO.out.drew _).trans hO3)
                    clear hR3 hO3
                    go_wp2
                    go_ret
                    rw [HF2.out]
                    exact ⟨rfl, HR3.out, HO3.out⟩
                · have hk3 : k = pad m := by omega
                  have hzz := HZ.out
                  have HF2 := Lib.hid (show fixR m (s.data.toList.drop a) 0 = (⟨((s.data.toList.drop a).take m).toArray⟩, (s.data.toList.drop a).drop (m + pad m), 0) by
                    rw [HF.out, if_pos (by rw [← hk3]; exact HA.out)])
                  obtain ⟨y, hy⟩ : ∃ y : Nat, y = m + k := ⟨_, rfl⟩
                  rw [← hy]
                  have hyz : y = z := by omega
                  subst hyz
                  obtain ⟨d0, d1, d2, g1, g2⟩ := hR.cells
                  have hbb : a + y ≤ s.size := by omega
                  have HY := Lib.hid (show y = m + pad m by omega)
                  have HR := Lib.hid hR
                  clear hy hzz hR hk3 HZ
                  go_wp2
                  go_ret
                  rw [HF2.out]
                  refine ⟨ret_str (by rw [ext_take]), ⟨a + y, ⟨?_, hbb, hbig, fun h => absurd rfl h⟩, by rw [HY.out, List.drop_drop]⟩, HO.out.set 1 _⟩
                  rw [Int.natCast_add]
                  exact three_set1 HR.out.blk _
  · have hb : (e != 0) = true := by simp [he]
    obtain ⟨a, h, rfl⟩ := h
    have ha := h.bad he
    have hnil : s.data.toList.drop a = [] := List.drop_eq_nil_of_le (by rw [dat_len]; omega)
    have HF := Lib.hid (show fixR n (s.data.toList.drop a) e = (⟨#[]⟩, [], e) by rw [hnil]; exact fixR_nil n e he)
    have HR := Lib.hid (show RL w q s [] e from ⟨a, h, hnil.symm⟩)
    obtain ⟨c0, c1, c2, f1, f2⟩ := h.cells
    clear hnil h ha he
    go_enter Tryz.func32, Tryz.ntmps32
    go_wp2
    go_ret
    rw [HF.out]
    exact ⟨rfl, HR.out, Only.refl _ _⟩

set_option maxHeartbeats 400000 in
theorem refMost_any (p : Nat) (s : ByteArray) (l : List UInt8) (e : Int) (most : Int) (w : World) (h : RL w p s l e) :
    Calls Tryz.prog 31 #[.pointer (some ⟨p, 0, none⟩), .int .i64 most] w fun r w' => r = .returned (.string (opqR most l e).1) ∧ RL w' p s (opqR most l e).2.1 (opqR most l e).2.2 ∧ Only p w w' := by
  have hle := numR_le 4 l e
  obtain ⟨N, hN⟩ : ∃ N, N = numR 4 l e := ⟨_, rfl⟩
  rw [← hN] at hle
  have HN := Lib.hid hN
  clear hN
  go_enter Tryz.func31, Tryz.ntmps31
  go_wp2_with fail
  refine (rnumber_any p s l e 4 w h (by omega) (by omega)).mono ?_
  rintro r w1 ⟨rfl, hR, hO⟩
  rw [← HN.out] at hR ⊢
  have HO := Lib.hid hO
  clear hO
  obtain ⟨n, l1, e1⟩ := N
  obtain ⟨hn, hl1⟩ := hle
  simp only at hn hl1 hR
  have key : ∀ M : Int, (if most < 0 then 0 else most) = M → (M < n → opqR most l e = (⟨#[]⟩, [], failE e1 2)) ∧ (¬ M < n → opqR most l e = fixR n l1 e1) := by
    intro M hM
    unfold opqR
    rw [← HN.out, hM]
    exact ⟨fun h => if_pos h, fun h => if_neg h⟩
  have HK := Lib.hid key
  clear key
  by_cases hm : most < 0
  · by_cases h1 : 0 < n
    · have HF := Lib.hid ((HK.out 0 (if_pos hm)).1 h1)
      clear HK
      go_wp2_with fail
      refine (RL.wrong hR).mono ?_
      rintro r w2 ⟨rfl, hR2, hO2⟩
      have HR2 := Lib.hid hR2
      have HO2 := Lib.hid (HO.out.trans hO2)
      clear hR2 hO2 hR
      go_wp2
      go_ret
      rw [HF.out]
      exact ⟨rfl, HR2.out, HO2.out⟩
    · have HF := Lib.hid ((HK.out 0 (if_pos hm)).2 h1)
      clear HK
      go_wp2_with fail
      refine (refText_any p s l1 e1 n w1 hR hn).mono ?_
      rintro r w2 ⟨rfl, hR2, hO2⟩
      have HR2 := Lib.hid hR2
      have HO2 := Lib.hid (HO.out.trans hO2)
      clear hR2 hO2 hR
      go_wp2
      go_ret
      rw [HF.out]
      exact ⟨rfl, HR2.out, HO2.out⟩
  · by_cases h1 : most < n
    · have HF := Lib.hid ((HK.out most (if_neg hm)).1 h1)
      clear HK
      go_wp2_with fail
      refine (RL.wrong hR).mono ?_
      rintro r w2 ⟨rfl, hR2, hO2⟩
      have HR2 := Lib.hid hR2
      have HO2 := Lib.hid (HO.out.trans hO2)
      clear hR2 hO2 hR
      go_wp2
      go_ret
      rw [HF.out]
      exact ⟨rfl, HR2.out, HO2.out⟩
    · have HF := Lib.hid ((HK.out most (if_neg hm)).2 h1)
      clear HK
      go_wp2_with fail
      refine (refText_any p s l1 e1 n w1 hR hn).mono ?_
      rintro r w2 ⟨rfl, hR2, hO2⟩
      have HR2 := Lib.hid hR2
      have HO2 := Lib.hid (HO.out.trans hO2)
      clear hR2 hO2 hR
      go_wp2
      go_ret
      rw [HF.out]
      exact ⟨rfl, HR2.out, HO2.out⟩
end Go.Proofs.YtjogcdkebplcpaaGreatDoor.X
