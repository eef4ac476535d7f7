/-
  ScoreBest's walk: it answers true, and makes new blocks alone. Its condition: there are no more than 2^20 numbers in each list.
-/
import Derived.Test.YtdfpfdkpgokflaaTc
import Derived.Test.YtdfpfdkpgokflaaPickW
namespace Go.Proofs.Ytdfpfdkpgokflaa
open Go.RowKit Ieee

def IntsAt (w : World) (ao : Option Addr) (L : List Int) : Prop := ∀ i (_ : i < L.length), ∃ g off, ao = some ⟨g, off, none⟩ ∧ g < w.heap.size ∧ w.cell? ⟨g, off + i, none⟩ = some (.int .i64 L[i])
theorem IntsAt.below {w w' : World} {ao : Option Addr} {L : List Int} (h : IntsAt w ao L) (hb : Below w.heap.size w w') : IntsAt w' ao L := by
  intro i hi
  obtain ⟨g, off, e1, e2, e3⟩ := h i hi
  have := hb.size
  exact ⟨g, off, e1, by omega, (hb.cell (p := ⟨g, off + i, none⟩) e2).trans e3⟩

set_option maxRecDepth 100000 in
set_option maxHeartbeats 2000000 in
theorem best_walk (L M : List Int) (ao bo : Option Addr) (ca cb : Nat) (w : World) (hI : IntsAt w ao L) (hJ : IntsAt w bo M) (hl : L.length ≤ 1048576) (hm : M.length ≤ 1048576) :
    Calls Try.prog 8 #[.slice ao L.length ca, .slice bo M.length cb] w fun e w' => e = .returned (.bool true) ∧ Below w.heap.size w w' := by
  obtain ⟨i0, hi, hz0, hz1, hz2⟩ := info_parts Try.info28
  have HI := Lib.hid hI
  have HJ := Lib.hid hJ
  clear hI hJ
  go_enter Try.func8, Try.ntmps8
  go_wp2_with (go_at_call 9; refine (speaks_any _).mono ?_; rintro e w' ⟨o, n, rfl, rfl⟩)
  go_loopw [5, 7, 9] (fun v f i wr => ∃ k : Nat, k ≤ L.length ∧ i = .int .i64 k ∧ f = .int .i64 (fullV L k) ∧ Mk w wr 28 3 v k (segs ((sA L).take k))) (fun v f i _ => L.length - (intOf i).toNat)
  case atStart => exact ⟨0, Nat.zero_le _, rfl, rfl, Mk.start _ _ _ _ (below_step (Below.refl _ _) _ _ (Nat.le_refl _))⟩
  case round =>
    obtain ⟨k, hk, rfl, rfl, hM⟩ := hrel
    have HM := Lib.hid hM
    clear hM
    by_cases hlt : k < L.length
    · obtain ⟨g, off, rfl, hg, c1⟩ := (HI.out.below HM.out.below) k hlt
      have HT : Hid (segs ((sA L).take (k + 1)) = segs ((sA L).take k) ++ [.int .i64 (nA L[k] : Int), .int .i64 100, .int .i64 7]) := Lib.hid (by
        rw [List.take_succ_eq_append_getElem (by simpa [sA] using hlt), segs_snoc]
        simp [sA, segc])
      have HF := Lib.hid (fullV_step L k hlt)
      have hn := nA_eq L[k]
      generalize hnn : nA L[k] = n at *
      clear hnn
      generalize L[k] = x at *
      generalize fullV L k = q at *
      have hend : ∀ (v : Value) (w1 : World) (f : Int), fullV L (k + 1) = f → Mk w w1 28 3 v (k + 1) (segs ((sA L).take (k + 1))) →
          (∃ k_1 : Nat, k_1 ≤ L.length ∧ Value.int IntKind.i64 ((k : Int) + 1) = .int .i64 (k_1 : Int) ∧ Value.int .i64 f = .int .i64 (fullV L k_1) ∧ Mk w w1 28 3 v k_1 (segs ((sA L).take k_1))) ∧ L.length - (intOf (.int .i64 ((k : Int) + 1))).toNat < L.length - (intOf (.int .i64 (k : Int))).toNat := by
        intro v w1 f h1 h2
        exact ⟨⟨k + 1, by omega, by go_num, by rw [h1], h2⟩, by simp [intOf]; omega⟩
      have HEND := Lib.hid hend
      clear hend
      go_wp2_with (at_builtin; (refine wpList_append_lies _ rfl (.tmp 30) (.tmp 33) 35 rfl w.heap.size 28 i0 _ 3 24 Try.underlying35 hi hz0 hz1 hz2 rfl (by omega) u5 _ _ rfl (HM.out.own.alloc _) ⟨wr.heap.size, 0, none⟩ 1 1 [.int .i64 (n : Int), .int .i64 100, .int .i64 7] rfl rfl (World.news_of_block (cs := #[.int .i64 (n : Int), .int .i64 100, .int .i64 7]) (t := 28) (fr := (0, 0)) (heap_alloc_new wr _)) (by simp [Value.oneCell']) (by omega) (by unfold maxLen; omega) (by omega) (by have := HM.out.lt; simp; omega) (wr.heap.size + 1) (by simp) ?_); intro g2 cap2 w1 hown1 hgrow hat hglt; have HO := Lib.hid hown1; have HG := Lib.hid hgrow; clear hown1 hgrow hat)
      all_goals refine HEND.out _ _ _ ?_ (by rw [HT.out]; exact (HM.out.next ((Below.refl _ _).alloc (Nat.le_refl _) _)).push HG.out HO.out)
      all_goals rw [HF.out]
      all_goals (split <;> omega)
    · obtain rfl : k = L.length := by omega
      rw [show (sA L).take L.length = sA L from List.take_of_length_le (by simp [sA])] at HM
      go_wp2_with fail
      obtain ⟨wa, hwa⟩ : ∃ wa, wa = wr := ⟨_, rfl⟩
      rw [← hwa] at HM ⊢
      clear hwa
      go_loopw [6, 8, 11] (fun v f i wr => ∃ k : Nat, k ≤ M.length ∧ i = .int .i64 k ∧ f = .int .i64 (oldV M k) ∧ Mk wa wr 28 3 v k (segs ((sB M).take k))) (fun v f i _ => M.length - (intOf i).toNat)
      case atStart => exact ⟨0, Nat.zero_le _, rfl, rfl, Mk.start _ _ _ _ (Below.refl _ _)⟩
      case round =>
        obtain ⟨k, hk, rfl, rfl, hM2⟩ := hrel
        have HM2 := Lib.hid hM2
        clear hM2
        have HBW := Lib.hid (HM.out.below.trans (HM2.out.below.mono HM.out.below.size))
        by_cases hlt : k < M.length
        · obtain ⟨g, off, rfl, hg, c1⟩ := (HJ.out.below HBW.out) k hlt
          have HT : Hid (segs ((sB M).take (k + 1)) = segs ((sB M).take k) ++ [.int .i64 30, .int .i64 100, .int .i64 (nB M[k] : Int)]) := Lib.hid (by
            rw [List.take_succ_eq_append_getElem (by simpa [sB] using hlt), segs_snoc]
            simp [sB, segc])
          have HF := Lib.hid (oldV_step M k hlt)
          have hn := nB_eq M[k]
          generalize hnn : nB M[k] = n at *
          clear hnn
          generalize M[k] = x at *
          generalize oldV M k = q at *
          have hend : ∀ (v : Value) (w1 : World) (f : Int), oldV M (k + 1) = f → Mk wa w1 28 3 v (k + 1) (segs ((sB M).take (k + 1))) →
              (∃ k_1 : Nat, k_1 ≤ M.length ∧ Value.int IntKind.i64 ((k : Int) + 1) = .int .i64 (k_1 : Int) ∧ Value.int .i64 f = .int .i64 (oldV M k_1) ∧ Mk wa w1 28 3 v k_1 (segs ((sB M).take k_1))) ∧ M.length - (intOf (.int .i64 ((k : Int) + 1))).toNat < M.length - (intOf (.int .i64 (k : Int))).toNat := by
            intro v w1 f h1 h2
            exact ⟨⟨k + 1, by omega, by go_num, by rw [h1], h2⟩, by simp [intOf]; omega⟩
          have HEND := Lib.hid hend
          clear hend
          go_wp2_with (at_builtin; (refine wpList_append_lies _ rfl (.tmp 56) (.tmp 59) 35 rfl wa.heap.size 28 i0 _ 3 24 Try.underlying35 hi hz0 hz1 hz2 rfl (by omega) u6 _ _ rfl (HM2.out.own.alloc _) ⟨wr.heap.size, 0, none⟩ 1 1 [.int .i64 30, .int .i64 100, .int .i64 (n : Int)] rfl rfl (World.news_of_block (cs := #[.int .i64 30, .int .i64 100, .int .i64 (n : Int)]) (t := 28) (fr := (0, 0)) (heap_alloc_new wr _)) (by simp [Value.oneCell']) (by omega) (by unfold maxLen; omega) (by omega) (by have := HM2.out.lt; simp; omega) (wr.heap.size + 1) (by simp) ?_); intro g2 cap2 w1 hown1 hgrow hat hglt; have HO := Lib.hid hown1; have HG := Lib.hid hgrow; clear hown1 hgrow hat)
          all_goals refine HEND.out _ _ _ ?_ (by rw [HT.out]; exact (HM2.out.next ((Below.refl _ _).alloc (Nat.le_refl _) _)).push HG.out HO.out)
          all_goals rw [HF.out]
          all_goals (split <;> omega)
        · obtain rfl : k = M.length := by omega
          rw [show (sB M).take M.length = sB M from List.take_of_length_le (by simp [sB])] at HM2
          have hMa := HM.out.next HM2.out.below
          have hla : (sA L).length = L.length := by simp [sA]
          have hlb : (sB M).length = M.length := by simp [sB]
          obtain ⟨aoA, capA, rfl, hSA⟩ := hMa.seg
          obtain ⟨aoB, capB, rfl, hSB⟩ := HM2.out.seg
          rw [hla, hlb]
          have HSA := Lib.hid hSA
          have HSB := Lib.hid hSB
          clear hMa hSA hSB
          go_upto_region 19 with first
            | (go_at_call_of 17 (Value.slice aoA L.length capA); rw [← hla]; refine (pick_any (sA L) _ _ _ HSA.out (by omega)).mono ?_; rintro e w2 ⟨rfl, hB2⟩; have HB2 := Lib.hid hB2; clear hB2)
            | (go_at_call_of 17 (Value.slice aoB M.length capB); rw [← hlb]; refine (pick_any (sB M) _ _ _ (HSB.out.below HB2.out) (by omega)).mono ?_; rintro e w3 ⟨rfl, hB3⟩; have HB3 := Lib.hid hB3; clear hB3)
          have HBL := Lib.hid (HB2.out.trans (HB3.out.mono HB2.out.size))
          have HFIN := Lib.hid (HBW.out.trans (HBL.out.mono HBW.out.size))
          have HSA3 := Lib.hid (HSA.out.below HBL.out)
          have HSB3 := Lib.hid (HSB.out.below HBL.out)
          have hfa : L.length = 0 ∨ ∃ b : Nat, bst (sA L) L.length = b ∧ (b : Int) < L.length ∧ ∃ g off, aoA = some ⟨g, off, none⟩ ∧ w3.cell? ⟨g, off + b * 3, none⟩ = some (.int .i64 (fullV L L.length)) := by
            by_cases h0 : L.length = 0
            · exact .inl h0
            · right
              obtain ⟨b, hb, hbl⟩ := bst_nat (sA L) L.length (by omega)
              obtain ⟨g, off, e1, e2, e3, _, _⟩ := HSA3.out b (by omega)
              refine ⟨b, hb, by omega, g, off, e1, ?_⟩
              rw [e3]
              unfold fullV
              rw [if_neg h0, hb, Int.toNat_natCast]
              simp [List.getD_eq_getElem?_getD, List.getElem?_eq_getElem (show b < (sA L).length by omega)]
          have hfb : M.length = 0 ∨ ∃ b : Nat, bst (sB M) M.length = b ∧ (b : Int) < M.length ∧ ∃ g off, aoB = some ⟨g, off, none⟩ ∧ w3.cell? ⟨g, off + b * 3 + 2, none⟩ = some (.int .i64 (oldV M M.length)) := by
            by_cases h0 : M.length = 0
            · exact .inl h0
            · right
              obtain ⟨b, hb, hbl⟩ := bst_nat (sB M) M.length (by omega)
              obtain ⟨g, off, e1, e2, _, _, e3⟩ := HSB3.out b (by omega)
              refine ⟨b, hb, by omega, g, off, e1, ?_⟩
              rw [e3]
              unfold oldV
              rw [if_neg h0, hb, Int.toNat_natCast]
              simp [List.getD_eq_getElem?_getD, List.getElem?_eq_getElem (show b < (sB M).length by omega)]
          clear HB2 HB3 HBL HSA HSB HSA3 HSB3 hi hz0 hz1 hz2
          have HEND : Hid (∀ x : Bool, x = true → Ending.returned (Value.bool x) = .returned (.bool true)) := Lib.hid (fun x h => by rw [h])
          rcases hfa with hLz | ⟨ba, hba, hbl, ga, offa, rfl, ca1⟩
          · have e1 : bst (sA L) L.length = -1 := by rw [hLz]; rfl
            rcases hfb with hMz | ⟨bb, hbb, hbm, gb, offb, rfl, cb1⟩
            · have e2 : bst (sB M) M.length = -1 := by rw [hMz]; rfl
              rw [e1, e2, hLz, hMz]
              clear hla hlb
              go_wp2
              go_ret
              exact ⟨rfl, HFIN.out⟩
            · rw [e1, hbb, hLz]
              have hd : ((M.length : Int) == 0) = false := beq_eq_false_iff_ne.2 (by omega)
              have hd2 : decide ((0 : Int) < (M.length : Int)) = true := decide_eq_true (by omega)
              generalize oldV M M.length = q at *
              clear hla hlb e1 hLz
              generalize M.length = m at *
              go_wp2
              go_ret
              exact ⟨rfl, HFIN.out⟩
          · have hd : ((L.length : Int) == 0) = false := beq_eq_false_iff_ne.2 (by omega)
            have hd2 : decide ((0 : Int) < (L.length : Int)) = true := decide_eq_true (by omega)
            generalize fullV L L.length = p at *
            rcases hfb with hMz | ⟨bb, hbb, hbm, gb, offb, rfl, cb1⟩
            · have e2 : bst (sB M) M.length = -1 := by rw [hMz]; rfl
              rw [hba, e2, hMz]
              clear hla hlb e2 hMz
              generalize L.length = l at *
              go_wp2
              go_ret
              exact ⟨rfl, HFIN.out⟩
            · rw [hba, hbb]
              have he : ((M.length : Int) == 0) = false := beq_eq_false_iff_ne.2 (by omega)
              have he2 : decide ((0 : Int) < (M.length : Int)) = true := decide_eq_true (by omega)
              generalize oldV M M.length = q at *
              clear hla hlb
              generalize L.length = l at *
              generalize M.length = m at *
              go_wp2
              go_ret
              exact ⟨rfl, HFIN.out⟩
end Go.Proofs.Ytdfpfdkpgokflaa
