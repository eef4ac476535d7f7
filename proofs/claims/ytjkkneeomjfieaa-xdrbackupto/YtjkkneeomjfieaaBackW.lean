/-
  XdrBack's walk. Its condition: what came in is of bulk at most 2^20.
-/
import Derived.Test.YtjkkneeomjfieaaRdOk
import Derived.Deep.DeepCutAuto
import Derived.Deep.RegionHeld3
import Derived.Test.YtjkkneeomjfieaaSpeaks
namespace Go.Proofs.Ytjkkneeomjfieaa
open Go.RowKit

theorem put_step {L : List It} {k P : Nat} {w wr w2 : World} {v v2 : Value} {o : Obj} {E : List UInt8} (hk : k < L.length) (hE : encIt L[k] = E) (hW2 : Wr w2 P v2 (encAll (L.take k) ++ E)) (hC : Chg P v v2 (wr.alloc o) w2)
    (hB : Below w.heap.size w wr) (hv : ∀ j, v.ownBlock = some j → w.heap.size ≤ j) (hP : w.heap.size ≤ P) :
    ∃ v, Wr w2 P v (encAll (L.take (k + 1))) ∧ (∀ j, v.ownBlock = some j → w.heap.size ≤ j) ∧ Below w.heap.size w w2 := by
  have hs := hB.size
  refine ⟨v2, by rw [encAll_take hk, hE]; exact hW2, ?_, (hB.alloc hs o).trans (hC.below (by simp; omega) hP hv)⟩
  intro j hj
  rcases hC.own with e | ⟨g, e, hg⟩
  · exact hv j (by rw [← e]; exact hj)
  · rw [hj] at e; have : j = g := by simpa using e
    simp at hg; omega
theorem encDrop_le {L : List It} (hB : bulkL L ≤ 1048576) (k : Nat) : (encAll (L.drop k)).length ≤ 2097152 := by
  have h1 := encAll_length L
  have h2 := congrArg List.length (encAll_split L k)
  rw [List.length_append] at h2
  omega
theorem TInv.len {L : List It} {cut k : Nat} {l : List UInt8} {e : Int} (h : TInv L cut k l e) (hl : (encAll L).length ≤ 2097152) : l.length ≤ 2097152 := by
  rcases h with ⟨_, _, rfl⟩ | ⟨_, rfl, _⟩
  · simp; omega
  · simp
theorem and_mask (n : Int) : bits .and .i64 n 4294967295 = n % 4294967296 := by
  have e : (BitVec.ofInt 64 n &&& BitVec.ofInt 64 4294967295).toNat = (n % 4294967296).toNat := by
    rw [BitVec.toNat_and]
    have e3 : (BitVec.ofInt 64 4294967295).toNat = 2 ^ 32 - 1 := by decide
    rw [e3, Nat.and_two_pow_sub_one_eq_mod, BitVec.toNat_ofInt]
    omega
  unfold bits
  show IntKind.i64.wrap (((BitVec.ofInt 64 n &&& BitVec.ofInt 64 4294967295).toNat : Nat) : Int) = _
  rw [e, IntWalk.i64_in _ (by omega)]
  omega
theorem Only.undrew {p : Nat} {w w' : World} (h : Only p w.drew w') : Only p w w' := ⟨h.os, h.tape, h.output, h.size, h.block⟩
theorem encIt0 {x : It} (h : kd x.kind = 0) : encIt x = numBytes x.n 4 := by simp [encIt, h]
theorem encIt1 {x : It} (h : kd x.kind = 1) : encIt x = numBytes x.n 8 := by simp [encIt, h]
theorem encIt2 {x : It} (h : kd x.kind = 2) : encIt x = numBytes (if (x.n.tmod 2 == 0) then 1 else 0) 4 := by simp [encIt, h, even]
theorem encIt3 {x : It} (h : kd x.kind = 3) : encIt x = opaqueOf x.text := by simp [encIt, h]
theorem encIt4 {x : It} (h : kd x.kind = 4) : encIt x = fixedOf x.text := by simp [encIt, h]

set_option maxRecDepth 100000 in
set_option maxHeartbeats 2000000 in
theorem back_walk (L : List It) (ao : Option Addr) (cap : Nat) (cut : Int) (w : World) (hI : ItemsAt w ao L) (hB : bulkL L ≤ 1048576) (hgd : ∀ k (h : k < L.length), -9223372036854775808 ≤ L[k].n ∧ L[k].n ≤ 9223372036854775807) :
    Calls Try.prog 5 #[.slice ao L.length cap, .int .i64 cut] w fun e w' => e = .returned (.bool true) ∧ Below w.heap.size w w' := by
  have hLl := length_bulk L
  have hgood : ∀ k (h : k < L.length), Good L[k] := fun k h => ⟨hgd k h, by have := bulkL_at h; omega⟩
  have HI := Lib.hid hI
  have HGd := Lib.hid hgood
  clear hI hgd hgood
  go_enter Try.func5, Try.ntmps5
  go_wp2_with fail
  refine (speaks_any _).mono ?_
  rintro e w0 ⟨rfl, HB0⟩
  have HB1 := Lib.hid (HB0.alloc HB0.size (.cells #[.slice none 0 0] 26))
  have hW0 := Wr.new w0
  have hsz : w.heap.size ≤ w0.heap.size := HB0.size
  clear HB0
  go_wp2_with fail
  go_loopw [6] (fun i wr => ∃ k : Nat, k ≤ L.length ∧ i = .int .i64 k ∧ ∃ v, Wr wr w0.heap.size v (encAll (L.take k)) ∧ (∀ j, v.ownBlock = some j → w.heap.size ≤ j) ∧ Below w.heap.size w wr) (fun i _ => L.length - (intOf i).toNat)
  case atStart => exact ⟨0, Nat.zero_le _, rfl, .slice none 0 0, hW0, (fun j hj => by cases hj), HB1.out⟩
  case round =>
    obtain ⟨k, hk, rfl, v, hW, hv, hBe⟩ := hrel
    clear hW0 HB1
    have HV := Lib.hid hv
    have HBe := Lib.hid hBe
    clear hv hBe
    by_cases hlt : k < L.length
    · obtain ⟨g, off, rfl, hg, c0, c1, c2⟩ := HI.out k hlt
      rw [← HBe.out.cell (p := ⟨g, _, none⟩) hg] at c0 c1 c2
      obtain ⟨x, hx⟩ : ∃ x, x = L[k] := ⟨_, rfl⟩
      rw [← hx] at c0 c1 c2
      have HX := Lib.hid hx
      clear hx
      go_wp2_with fail
      refine (kind_any x.kind _).mono ?_
      rintro e w' ⟨rfl, rfl⟩
      have hbk := bulkL_at hlt
      rw [← HX.out] at hbk
      have hWa := hW.alloc (.cells #[.int .i64 x.kind, .int .i64 x.n, .string x.text] 29)
      clear hW c0 c1 c2
      rcases kd_cases x.kind with hkd | hkd | hkd | hkd | hkd
      · rw [hkd]
        have HE := Lib.hid ((congrArg encIt HX.out.symm).trans (encIt0 hkd))
        clear hkd
        go_wp2_with fail
        refine (uint_any _ v _ x.n _ hWa (by omega)).mono ?_
        rintro e w2 ⟨rfl, v2, hW2, hC2⟩
        have HR := Lib.hid (put_step hlt HE.out hW2 hC2 HBe.out HV.out hsz)
        clear hW2 hC2 HE
        go_wp2
        go_roundw
        case rel => exact ⟨k + 1, by omega, by go_num, HR.out⟩
        case measure => simp [intOf]; omega
      · rw [hkd]
        have HE := Lib.hid ((congrArg encIt HX.out.symm).trans (encIt1 hkd))
        clear hkd
        go_wp2_with fail
        refine (hyper_any _ v _ x.n _ hWa (by omega)).mono ?_
        rintro e w2 ⟨rfl, v2, hW2, hC2⟩
        have HR := Lib.hid (put_step hlt HE.out hW2 hC2 HBe.out HV.out hsz)
        clear hW2 hC2 HE
        go_wp2
        go_roundw
        case rel => exact ⟨k + 1, by omega, by go_num, HR.out⟩
        case measure => simp [intOf]; omega
      · rw [hkd]
        have HE := Lib.hid ((congrArg encIt HX.out.symm).trans (encIt2 hkd))
        clear hkd
        go_wp2_with fail
        refine (bool_any _ v _ (x.n.tmod 2 == 0) _ hWa (by omega)).mono ?_
        rintro e w2 ⟨rfl, v2, hW2, hC2⟩
        have HR := Lib.hid (put_step hlt HE.out hW2 hC2 HBe.out HV.out hsz)
        clear hW2 hC2 HE
        go_wp2
        go_roundw
        case rel => exact ⟨k + 1, by omega, by go_num, HR.out⟩
        case measure => simp [intOf]; omega
      · rw [hkd]
        have HE := Lib.hid ((congrArg encIt HX.out.symm).trans (encIt3 hkd))
        clear hkd
        go_wp2_with fail
        refine (opaque_any _ v _ x.text _ hWa (by omega)).mono ?_
        rintro e w2 ⟨rfl, v2, hW2, hC2⟩
        have HR := Lib.hid (put_step hlt HE.out hW2 hC2 HBe.out HV.out hsz)
        clear hW2 hC2 HE
        go_wp2
        go_roundw
        case rel => exact ⟨k + 1, by omega, by go_num, HR.out⟩
        case measure => simp [intOf]; omega
      · rw [hkd]
        have HE := Lib.hid ((congrArg encIt HX.out.symm).trans (encIt4 hkd))
        clear hkd
        go_wp2_with fail
        refine (fixed_any _ v _ x.text _ hWa (by omega)).mono ?_
        rintro e w2 ⟨rfl, v2, hW2, hC2⟩
        have HR := Lib.hid (put_step hlt HE.out hW2 hC2 HBe.out HV.out hsz)
        clear hW2 hC2 HE
        go_wp2
        go_roundw
        case rel => exact ⟨k + 1, by omega, by go_num, HR.out⟩
        case measure => simp [intOf]; omega
    · have hk' : k = L.length := by omega
      subst hk'
      rw [List.take_length] at hW
      clear hk hlt
      have h4 : (((encAll L).length : Int) % 4 != 0) = false := by
        have := encAll_four L
        rw [bne_eq_false_iff_eq]; omega
      have hSl := encAll_length L
      go_wp2_with fail
      refine (bytes_any _ v _ wr hW).mono ?_
      rintro e w' ⟨rfl, rfl⟩
      obtain ⟨S, hS⟩ : ∃ S, S = encAll L := ⟨_, rfl⟩
      rw [← hS] at h4 hSl ⊢
      have HS := Lib.hid hS
      have HW := Lib.hid hW
      clear hS hW
      go_upto_region 21 with (fail)
      go_cut [66] (fun s66 wc => s66 = .bool (decide (cut < 0 ∨ (S.length : Int) < cut)) ∧ wr = wc)
      case first =>
        by_cases hc0 : cut < 0
        · go_wp2
          go_meet
          exact ⟨by simp [hc0], rfl⟩
        · by_cases hc1 : (S.length : Int) < cut
          · go_wp2
            go_meet
            exact ⟨by simp [hc1], rfl⟩
          · go_wp2
            go_meet
            exact ⟨by simp; omega, rfl⟩
      case rest =>
        obtain ⟨rfl, rfl⟩ := hcut
        go_upto_if 66 with (fail)
        go_cut [1] (fun c1 wc => ∃ c : Nat, c ≤ S.length ∧ c1 = .int .i64 c ∧ wr = wc)
        case first =>
          by_cases hcc : cut < 0 ∨ (S.length : Int) < cut
          · have hd : decide (cut < 0 ∨ (S.length : Int) < cut) = true := by simp [hcc]
            go_wp2
            all_goals (go_meet; first | exact ⟨S.length, Nat.le_refl _, rfl, rfl⟩ | (exfalso; omega))
          · have hd : decide (cut < 0 ∨ (S.length : Int) < cut) = false := by simp; omega
            have hcn : 0 ≤ cut ∧ cut ≤ (S.length : Int) := by omega
            clear hcc
            go_wp2
            all_goals (go_meet; first | exact ⟨cut.toNat, by omega, by rw [Int.toNat_of_nonneg hcn.1], rfl⟩ | (exfalso; omega))
        case rest =>
          obtain ⟨c, hc, rfl, rfl⟩ := hcut
          have hmx : S.length ≤ maxLen := by unfold maxLen; omega
          go_upto_region 23 with (fail)
          go_cut [9, 10] (fun a b wc => ∃ p1 p2 : Nat, a = .pointer (some ⟨p1, 0, none⟩) ∧ b = .pointer (some ⟨p2, 0, none⟩) ∧ p1 ≠ p2 ∧ w.heap.size ≤ p1 ∧ w.heap.size ≤ p2 ∧ Rd wc p1 S 0 ∧ Rd wc p2 (S.take c) 0 ∧ Below w.heap.size w wc)
          case first =>
            go_region_with (go_at_call 21; refine (open_any _ _ (by simp [ByteArray.size]; omega)).mono ?_; rintro e w' ⟨rfl, hR, hBl, hsz2⟩)
            all_goals go_wp2_with fail
            all_goals go_meet
            rename_i wA hRA hBA hsA
            have hBe2 := HBe.out
            have hwl := hBe2.size
            have hA : Below w.heap.size w wA := hBe2.drew.trans (hBA.mono (by simp; omega))
            refine ⟨_, _, rfl, rfl, by omega, by omega, by omega, hRA.below hBl, ?_, hA.trans (hBl.mono (by simp at hsA; omega))⟩
            have e1 : (({ data := S.toArray } : ByteArray).extract 0 c).data.toList = S.take c := by simp
            rw [e1, hsA] at hR
            exact hR
          case rest =>
            obtain ⟨p1, p2, rfl, rfl, hp12, hp1, hp2, hR, hT, hBc⟩ := hcut
            have HR0 := Lib.hid hR
            have HT0 := Lib.hid hT
            have HBc := Lib.hid hBc
            clear hR hT hBc
            go_wp2_with fail
            go_loopw [11] (fun i wr => ∃ k : Nat, k ≤ L.length ∧ i = .int .i64 k ∧ Rd wr p1 (encAll (L.drop k)) 0 ∧ ∃ lt et, Rd wr p2 lt et ∧ TInv L c k lt et ∧ Below w.heap.size w wr) (fun i _ => L.length - (intOf i).toNat)
            case atStart =>
              refine ⟨0, Nat.zero_le _, rfl, ?_, S.take c, 0, HT0.out, ?_, HBc.out⟩
              · rw [List.drop_zero, ← HS.out]; exact HR0.out
              · rw [HS.out]; exact TInv.start L c
            case round =>
              clear HR0 HT0 HBc
              obtain ⟨k, hk, rfl, hR, lt, et, hT, hTI, hBe3⟩ := hrel
              have HTI := Lib.hid hTI
              have HBe3 := Lib.hid hBe3
              clear hTI hBe3
              by_cases hlt : k < L.length
              · obtain ⟨g, off, rfl, hg, c0, c1, c2⟩ := HI.out k hlt
                rw [← HBe3.out.cell (p := ⟨g, _, none⟩) hg] at c0 c1 c2
                have HG := Lib.hid (HGd.out k hlt)
                obtain ⟨x, hx⟩ : ∃ x, x = L[k] := ⟨_, rfl⟩
                rw [← hx] at c0 c1 c2
                have HX := Lib.hid hx
                clear hx
                have hp1l := hR.lt
                have hp2l := hT.lt
                have hR1a := hR.alloc (.cells #[.int .i64 x.kind, .int .i64 x.n, .string x.text] 29)
                have hT1 := hT.alloc (.cells #[.int .i64 x.kind, .int .i64 x.n, .string x.text] 29)
                have hmask := and_mask x.n
                have hxg : Good x := by rw [HX.out]; exact HG.out
                have hxn := hxg.1
                have hxt := hxg.2
                have hrl : (encAll (L.drop (k + 1))).length ≤ 2097152 := encDrop_le hB (k + 1)
                have hrl2 : (encIt x).length ≤ x.text.size + 8 := encIt_length x
                have hltl : lt.length ≤ 2097152 := TInv.len HTI.out (by rw [← HS.out]; omega)
                clear hxg hR hT
                go_wp2_with fail
                refine (kind_any x.kind _).mono ?_
                rintro e w' ⟨rfl, rfl⟩
                clear c0 c1 c2
                rcases kd_cases x.kind with hkd | hkd | hkd | hkd | hkd
                · rw [hkd]
                  have HE := Lib.hid ((congrArg encIt HX.out.symm).trans (encIt0 hkd))
                  have hR1 := hR1a
                  rw [encAll_drop hlt, HE.out] at hR1
                  have HST := Lib.hid (show ∀ l e, stIt x l e = (numR 4 l e).2 from fun l e => by simp [stIt, hkd])
                  clear hkd hR1a
                  go_wp2_with fail
                  go_region_held3 (fun w' => w'.cell? ⟨wr.heap.size, 1, none⟩ = some (.int .i64 x.n)) (first | go_keep | (rw [World.cell?_of_block (hO2.block _ (by simp; omega))]; assumption))
                    ((go_at_call 22; refine (ruint_ok p1 _ _ x.n (by exact hR1) (by omega)).mono ?_; rintro e w2 ⟨rfl, hR2, hO2d⟩; have hO2 := Only.undrew hO2d; clear hO2d))
                  have hT2 := hT1.other hR1 hO2 (Ne.symm hp12)
                  have HO2 := Lib.hid hO2
                  have HR2 := Lib.hid hR2
                  have hcx : w2.cell? ⟨wr.heap.size, 1, none⟩ = some (.int .i64 x.n) := by
                    rw [World.cell?_of_block (hO2.block _ (by simp; omega))]
                    simp [World.cell?_alloc_at]
                  clear hO2 hR2 hR1 hT1
                  go_wp2_with fail
                  refine (ruint_any p2 _ _ _ hT2 (by omega)).mono ?_
                  rintro e w3 ⟨rfl, hT3, hO3⟩
                  have HT3 := Lib.hid hT3
                  have HO3 := Lib.hid hO3
                  have HR3 := Lib.hid (HR2.out.other hT2 hO3 hp12)
                  clear hT3 hO3 hT2 hcx
                  go_wp2
                  go_roundw
                  case rel =>
                    refine ⟨k + 1, by omega, by go_num, HR3.out, _, _, HT3.out, ?_, ?_⟩
                    · have hst := HTI.out.step hlt HG.out
                      rw [← HX.out, HST.out] at hst
                      exact hst
                    · exact ((HBe3.out.alloc HBe3.out.size _).trans (HO2.out.below hp1)).trans (HO3.out.below hp2)
                  case measure => simp [intOf]; omega
                · rw [hkd]
                  have HE := Lib.hid ((congrArg encIt HX.out.symm).trans (encIt1 hkd))
                  have hR1 := hR1a
                  rw [encAll_drop hlt, HE.out] at hR1
                  have HST := Lib.hid (show ∀ l e, stIt x l e = (numR 8 l e).2 from fun l e => by simp [stIt, hkd])
                  clear hkd hR1a
                  go_wp2_with fail
                  go_region_held3 (fun w' => w'.cell? ⟨wr.heap.size, 1, none⟩ = some (.int .i64 x.n)) (first | go_keep | (rw [World.cell?_of_block (hO2.block _ (by simp; omega))]; assumption))
                    ((go_at_call 24; refine (rhyper_ok p1 _ _ x.n hxn (by exact hR1) (by omega)).mono ?_; rintro e w2 ⟨rfl, hR2, hO2d⟩; have hO2 := Only.undrew hO2d; clear hO2d))
                  have hT2 := hT1.other hR1 hO2 (Ne.symm hp12)
                  have HO2 := Lib.hid hO2
                  have HR2 := Lib.hid hR2
                  have hcx : w2.cell? ⟨wr.heap.size, 1, none⟩ = some (.int .i64 x.n) := by
                    rw [World.cell?_of_block (hO2.block _ (by simp; omega))]
                    simp [World.cell?_alloc_at]
                  clear hO2 hR2 hR1 hT1
                  go_wp2_with fail
                  refine (rhyper_any p2 _ _ _ hT2 (by omega)).mono ?_
                  rintro e w3 ⟨rfl, hT3, hO3⟩
                  have HT3 := Lib.hid hT3
                  have HO3 := Lib.hid hO3
                  have HR3 := Lib.hid (HR2.out.other hT2 hO3 hp12)
                  clear hT3 hO3 hT2 hcx
                  go_wp2
                  go_roundw
                  case rel =>
                    refine ⟨k + 1, by omega, by go_num, HR3.out, _, _, HT3.out, ?_, ?_⟩
                    · have hst := HTI.out.step hlt HG.out
                      rw [← HX.out, HST.out] at hst
                      exact hst
                    · exact ((HBe3.out.alloc HBe3.out.size _).trans (HO2.out.below hp1)).trans (HO3.out.below hp2)
                  case measure => simp [intOf]; omega
                · rw [hkd]
                  have HE := Lib.hid ((congrArg encIt HX.out.symm).trans (encIt2 hkd))
                  have hR1 := hR1a
                  rw [encAll_drop hlt, HE.out] at hR1
                  have HST := Lib.hid (show ∀ l e, stIt x l e = (boolR l e).2 from fun l e => by simp [stIt, hkd])
                  clear hkd hR1a
                  go_wp2_with fail
                  go_region_held3 (fun w' => w'.cell? ⟨wr.heap.size, 1, none⟩ = some (.int .i64 x.n)) (first | go_keep | (rw [World.cell?_of_block (hO2.block _ (by simp; omega))]; assumption))
                    ((go_at_call 25; refine (rbool_ok p1 _ _ (x.n.tmod 2 == 0) (by exact hR1) (by omega)).mono ?_; rintro e w2 ⟨rfl, hR2, hO2d⟩; have hO2 := Only.undrew hO2d; clear hO2d))
                  have hT2 := hT1.other hR1 hO2 (Ne.symm hp12)
                  have HO2 := Lib.hid hO2
                  have HR2 := Lib.hid hR2
                  have hcx : w2.cell? ⟨wr.heap.size, 1, none⟩ = some (.int .i64 x.n) := by
                    rw [World.cell?_of_block (hO2.block _ (by simp; omega))]
                    simp [World.cell?_alloc_at]
                  clear hO2 hR2 hR1 hT1
                  go_wp2_with fail
                  refine (rbool_any p2 _ _ _ hT2 (by omega)).mono ?_
                  rintro e w3 ⟨rfl, hT3, hO3⟩
                  have HT3 := Lib.hid hT3
                  have HO3 := Lib.hid hO3
                  have HR3 := Lib.hid (HR2.out.other hT2 hO3 hp12)
                  clear hT3 hO3 hT2 hcx
                  go_wp2
                  go_roundw
                  case rel =>
                    refine ⟨k + 1, by omega, by go_num, HR3.out, _, _, HT3.out, ?_, ?_⟩
                    · have hst := HTI.out.step hlt HG.out
                      rw [← HX.out, HST.out] at hst
                      exact hst
                    · exact ((HBe3.out.alloc HBe3.out.size _).trans (HO2.out.below hp1)).trans (HO3.out.below hp2)
                  case measure => simp [intOf]; omega
                · rw [hkd]
                  have HE := Lib.hid ((congrArg encIt HX.out.symm).trans (encIt3 hkd))
                  have hR1 := hR1a
                  rw [encAll_drop hlt, HE.out] at hR1
                  have HST := Lib.hid (show ∀ l e, stIt x l e = (opqR x.text.size l e).2 from fun l e => by simp [stIt, hkd])
                  clear hkd hR1a
                  go_wp2_with fail
                  go_region_held3 (fun w' => w'.cell? ⟨wr.heap.size, 2, none⟩ = some (.string x.text)) (first | go_keep | (rw [World.cell?_of_block (hO2.block _ (by simp; omega))]; assumption))
                    ((go_at_call 27; refine (ropaque_ok p1 _ _ x.text hxt (by exact hR1) (by rw [List.length_append, ← HE.out, HX.out.symm]; omega)).mono ?_; rintro e w2 ⟨rfl, hR2, hO2d⟩; have hO2 := Only.undrew hO2d; clear hO2d))
                  have hT2 := hT1.other hR1 hO2 (Ne.symm hp12)
                  have HO2 := Lib.hid hO2
                  have HR2 := Lib.hid hR2
                  have hcx : w2.cell? ⟨wr.heap.size, 2, none⟩ = some (.string x.text) := by
                    rw [World.cell?_of_block (hO2.block _ (by simp; omega))]
                    simp [World.cell?_alloc_at]
                  clear hO2 hR2 hR1 hT1
                  go_wp2_with fail
                  refine (ropaque_any p2 _ _ x.text.size _ hT2 (by omega)).mono ?_
                  rintro e w3 ⟨rfl, hT3, hO3⟩
                  have HT3 := Lib.hid hT3
                  have HO3 := Lib.hid hO3
                  have HR3 := Lib.hid (HR2.out.other hT2 hO3 hp12)
                  clear hT3 hO3 hT2 hcx
                  go_wp2
                  go_roundw
                  case rel =>
                    refine ⟨k + 1, by omega, by go_num, HR3.out, _, _, HT3.out, ?_, ?_⟩
                    · have hst := HTI.out.step hlt HG.out
                      rw [← HX.out, HST.out] at hst
                      exact hst
                    · exact ((HBe3.out.alloc HBe3.out.size _).trans (HO2.out.below hp1)).trans (HO3.out.below hp2)
                  case measure => simp [intOf]; omega
                · rw [hkd]
                  have HE := Lib.hid ((congrArg encIt HX.out.symm).trans (encIt4 hkd))
                  have hR1 := hR1a
                  rw [encAll_drop hlt, HE.out] at hR1
                  have HST := Lib.hid (show ∀ l e, stIt x l e = (fixR x.text.size l e).2 from fun l e => by simp [stIt, hkd])
                  clear hkd hR1a
                  go_wp2_with fail
                  go_region_held3 (fun w' => w'.cell? ⟨wr.heap.size, 2, none⟩ = some (.string x.text)) (first | go_keep | (rw [World.cell?_of_block (hO2.block _ (by simp; omega))]; assumption))
                    ((go_at_call 29; refine (rfixed_ok p1 _ _ x.text hxt (by exact hR1) (by rw [List.length_append, ← HE.out, HX.out.symm]; omega)).mono ?_; rintro e w2 ⟨rfl, hR2, hO2d⟩; have hO2 := Only.undrew hO2d; clear hO2d))
                  have hT2 := hT1.other hR1 hO2 (Ne.symm hp12)
                  have HO2 := Lib.hid hO2
                  have HR2 := Lib.hid hR2
                  have hcx : w2.cell? ⟨wr.heap.size, 2, none⟩ = some (.string x.text) := by
                    rw [World.cell?_of_block (hO2.block _ (by simp; omega))]
                    simp [World.cell?_alloc_at]
                  clear hO2 hR2 hR1 hT1
                  go_wp2_with fail
                  refine (rfixed_any p2 _ _ x.text.size _ hT2 (by omega) (by omega)).mono ?_
                  rintro e w3 ⟨rfl, hT3, hO3⟩
                  have HT3 := Lib.hid hT3
                  have HO3 := Lib.hid hO3
                  have HR3 := Lib.hid (HR2.out.other hT2 hO3 hp12)
                  clear hT3 hO3 hT2 hcx
                  go_wp2
                  go_roundw
                  case rel =>
                    refine ⟨k + 1, by omega, by go_num, HR3.out, _, _, HT3.out, ?_, ?_⟩
                    · have hst := HTI.out.step hlt HG.out
                      rw [← HX.out, HST.out] at hst
                      exact hst
                    · exact ((HBe3.out.alloc HBe3.out.size _).trans (HO2.out.below hp1)).trans (HO3.out.below hp2)
                  case measure => simp [intOf]; omega
              · have hk' : k = L.length := by omega
                subst hk'
                rw [List.drop_length] at hR
                have hdone : (endR lt et == 5) = decide (c < S.length) := by
                  have := HTI.out.done (by rw [← HS.out]; exact hc)
                  rw [← HS.out] at this; exact this
                obtain ⟨E, hE⟩ : ∃ E, E = endR lt et := ⟨_, rfl⟩
                rw [← hE] at hdone
                have HE := Lib.hid hE
                clear hE hk hlt
                go_wp2_with fail
                refine (end_any p1 _ 0 wr hR).mono ?_
                rintro e w' ⟨rfl, rfl⟩
                rw [show endR (encAll []) 0 = 0 from rfl]
                go_wp2_with fail
                refine (end_any p2 lt et wr hT).mono ?_
                rintro e w' ⟨rfl, rfl⟩
                rw [← HE.out]
                go_wp2
                all_goals
                  go_ret
                  refine ⟨?_, HBe3.out⟩
                  first | rfl | simp [hdone]
end Go.Proofs.Ytjkkneeomjfieaa
