/-
  SectorAll's walk: a loss of power that keeps all is a flush, one that keeps nothing is as if nothing had been written. Its conditions: the lists lie in memory.
-/
import Derived.Test.YthomjcndaddbbaaTrio
import Derived.Deep.DeepCutAuto
import Derived.Deep.RegionWith
namespace Go.Proofs.Ythomjcndaddbbaa
open Go.RowKit

theorem new_calm : Calm (Dk.new 6) 0 := ⟨rfl, rfl, Nat.le_refl 0, Int.le_refl 0, Int.le_refl 0, Int.le_refl 0, Int.le_refl 0⟩

set_option maxRecDepth 100000 in
set_option maxHeartbeats 4000000 in
theorem all_walk (F G : List ByteArray) (fo go : Option Addr) (fc gc : Nat) (w : World) (hF : StrAt w fo F) (hG : StrAt w go G) :
    Calls Try.prog 6 #[.slice fo F.length fc, .slice go G.length gc] w fun e w' => e = .returned (.bool true) ∧ Below w.heap.size w w' := by
  have HF := Lib.hid hF
  have HG := Lib.hid hG
  clear hF hG
  obtain ⟨N1, hN1⟩ : ∃ N1, N1 = min F.length 50 := ⟨_, rfl⟩
  have HN1 := Lib.hid hN1
  obtain ⟨D1, hD1⟩ : ∃ D1, D1 = (wrs F 0 (Dk.new 6) N1).flushed := ⟨_, rfl⟩
  have HD1 := Lib.hid hD1
  clear hD1 hN1
  go_enter Try.func6, Try.ntmps6
  go_wp2_with fail
  refine (speaks_any w).mono ?_
  rintro e w0 ⟨rfl, hB0⟩
  have HB0 := Lib.hid hB0
  clear hB0
  obtain ⟨A, hA⟩ : ∃ A, A = w0.heap.size := ⟨_, rfl⟩
  have HA := Lib.hid hA
  clear hA
  go_wp2
  rw [← HA.out]
  have HT0 : Hid (Trio w0 (w0.alloc (.cells #[.pointer none, .pointer none, .pointer none] 56)) A 0 (fun _ => ⟨0, 0, 0, 0, []⟩) (fun _ => .slice none 0 0) (fun _ => D1)) := by
    refine Lib.hid ⟨?_, fun j hj => absurd hj (by omega), fun i j hi => absurd hi (by omega), by rw [HA.out]; exact Nat.le_refl _, (Below.refl _ _).alloc (Nat.le_refl _) _⟩
    rw [HA.out]; exact heap_alloc_new w0 _
  generalize w0.alloc (.cells #[.pointer none, .pointer none, .pointer none] 56) = W0 at *
  go_loopw [6] (fun i wr => ∃ k : Nat, k ≤ 3 ∧ i = .int .i64 k ∧ ∃ l v, Trio w0 wr A k l v (fun _ => D1)) (fun i _ => 3 - (intOf i).toNat)
  case atStart => exact ⟨0, by omega, rfl, _, _, HT0.out⟩
  case round =>
    obtain ⟨k, hk3, rfl, l, v, hT⟩ := hrel
    have HT := Lib.hid hT
    clear hT HT0
    by_cases hlt : k < 3
    · go_wp2_with fail
      refine (my_new (n := 6) wr (by decide) (by decide)).mono ?_
      rintro e w1 ⟨l1, rfl, v1, h1⟩
      have HT1 := Lib.hid (HT.out.more hlt h1)
      have hrow : w1.heap[A]? = some (.cells #[ptrOf l k 0, ptrOf l k 1, ptrOf l k 2] 56 (0, 0)) := (h1.below.block A HT.out.ltA).trans HT.out.row
      have hcA : w1.cell? ⟨A, k, none⟩ = some (.pointer none) := by
        rw [cell_of_row w1 A k _ _ _ hrow]
        match k, hlt with
        | 0, _ => rfl
        | 1, _ => rfl
        | 2, _ => rfl
      have hfA : w1.frozen? ⟨A, k, none⟩ = false := Lib.frozen_of_heap hrow _
      clear h1 hrow
      go_wp2
      generalize w1.setCell ⟨A, k, none⟩ (.pointer (some ⟨l1.p, 0, none⟩)) = W1 at *
      clear hcA hfA
      go_loopw [7] (fun x wr => ∃ i : Nat, i ≤ 50 ∧ i ≤ F.length ∧ x = .int .i64 i ∧ ∃ v, Trio w0 wr A (k + 1) (upd l k l1) v (upd (fun _ => D1) k (wrs F 0 (Dk.new 6) i))) (fun x _ => 50 - (intOf x).toNat)
      case atStart => exact ⟨0, by omega, by omega, rfl, _, HT1.out⟩
      case round =>
        obtain ⟨i, hi1, hi2, rfl, vi, hTi⟩ := hrel
        have HTi := Lib.hid hTi
        have hcA := hTi.cell k (by omega) hlt
        rw [upd_same] at hcA
        clear hTi HT1
        by_cases hlt2 : i < F.length ∧ i < 50
        · obtain ⟨hlt3, hlt4⟩ := hlt2
          obtain ⟨g, off, rfl, hg, hc⟩ := (HF.out.below (HB0.out.trans (HTi.out.below.mono HB0.out.size))) i hlt3
          obtain ⟨s, hs⟩ : ∃ s, s = F[i] := ⟨_, rfl⟩
          rw [← hs] at hc
          have HS := Lib.hid hs
          clear hs
          have hmk := HTi.out.mine k (by omega)
          rw [upd_same, upd_same] at hmk
          have HMk := Lib.hid hmk
          clear hmk
          have hcl := Lib.hid (wrs_calm new_calm F 0 i)
          go_wp2
          go_region_with (go_at_call 11; refine (any_write HMk.out.drew (i % 6) s (by omega) _ hcl.out (by omega)).mono ?_; rintro e w2 ⟨⟨c, rfl⟩, v2, h2, hC2⟩)
          all_goals
            have HT2 := Lib.hid ((HTi.out.belowed ((Below.refl _ _).drew)).step (j := k) (by omega) (v' := v2) (d' := wstep (wrs F 0 (Dk.new 6) i) (i % 6) s) (by rw [upd_same]; exact h2) (by rw [upd_same]; exact hC2))
            clear h2 hC2 hcA hc hg
            go_wp2
            go_roundw
            case rel =>
              refine ⟨i + 1, by omega, by omega, by go_num, _, HT2.out.ext ?_⟩
              intro j hj
              by_cases e : j = k
              · rw [e, upd_same, upd_same]
                show wstep _ _ (F.getD i ⟨#[]⟩) = _
                rw [HS.out]; simp [List.getD_eq_getElem?_getD, List.getElem?_eq_getElem hlt3]
              · rw [upd_ne _ e, upd_ne _ e, upd_ne _ e]
            case measure => simp [intOf]; omega
        · by_cases h1 : i < F.length
          · have hd : decide ((i : Int) < 50) = false := decide_eq_false (by omega)
            have he : i = N1 := by rw [HN1.out]; omega
            subst he
            have hmk := HTi.out.mine k (by omega)
            rw [upd_same, upd_same] at hmk
            have HMk := Lib.hid hmk
            clear hmk
            have hcl := wrs_calm new_calm F 0 i
            have hf0 := hcl.fl0
            have hf1 := hcl.fl1
            go_wp2_with fail
            refine (my2_flush HMk.out hcl.off hcl.cut hf0 (by omega)).mono ?_
            rintro e w3 ⟨rfl, v3, h3, hC3⟩
            have HT3 := Lib.hid (HTi.out.step (j := k) (by omega) (v' := v3) (d' := (wrs F 0 (Dk.new 6) i).flushed) (by rw [upd_same]; exact h3) (by rw [upd_same]; exact hC3))
            clear h3 hC3 hcl hf0 hf1
            go_wp2
            go_roundw
            case rel =>
              refine ⟨k + 1, by omega, by go_num, _, _, HT3.out.ext ?_⟩
              intro j hj
              by_cases e : j = k
              · rw [e, upd_same]; exact HD1.out
              · rw [upd_ne _ e, upd_ne _ e]
            case measure => simp [intOf]; omega
          ·
            have he : i = N1 := by rw [HN1.out]; omega
            subst he
            have hmk := HTi.out.mine k (by omega)
            rw [upd_same, upd_same] at hmk
            have HMk := Lib.hid hmk
            clear hmk
            have hcl := wrs_calm new_calm F 0 i
            have hf0 := hcl.fl0
            have hf1 := hcl.fl1
            go_wp2_with fail
            refine (my2_flush HMk.out hcl.off hcl.cut hf0 (by omega)).mono ?_
            rintro e w3 ⟨rfl, v3, h3, hC3⟩
            have HT3 := Lib.hid (HTi.out.step (j := k) (by omega) (v' := v3) (d' := (wrs F 0 (Dk.new 6) i).flushed) (by rw [upd_same]; exact h3) (by rw [upd_same]; exact hC3))
            clear h3 hC3 hcl hf0 hf1
            go_wp2
            go_roundw
            case rel =>
              refine ⟨k + 1, by omega, by go_num, _, _, HT3.out.ext ?_⟩
              intro j hj
              by_cases e : j = k
              · rw [e, upd_same]; exact HD1.out
              · rw [upd_ne _ e, upd_ne _ e]
            case measure => simp [intOf]; omega
    · have hk : k = 3 := by omega
      have HT3 : Hid (Trio w0 wr A 3 l v (fun _ => D1)) := Lib.hid (by rw [← hk]; exact HT.out)
      clear HT
      have HT := HT3
      have hd3 : decide ((k : Int) < 3) = false := decide_eq_false (by omega)
      clear HT3 hk
      obtain ⟨WB, hWB⟩ : ∃ WB, WB = wr.heap.size := ⟨_, rfl⟩
      have hWB' : w0.heap.size ≤ WB := by have := HT.out.below.size; omega
      have HWB := Lib.hid hWB
      clear hWB
      go_wp2
      rw [← HWB.out]
      have HT1 := Lib.hid (HT.out.belowed ((Below.refl _ _).alloc (Nat.le_refl _) (.cells #[.string ⟨#[]⟩, .string ⟨#[]⟩, .string ⟨#[]⟩, .string ⟨#[]⟩, .string ⟨#[]⟩, .string ⟨#[]⟩] 57)))
      have HA1 : Hid (Arr 57 (wr.alloc (.cells #[.string ⟨#[]⟩, .string ⟨#[]⟩, .string ⟨#[]⟩, .string ⟨#[]⟩, .string ⟨#[]⟩, .string ⟨#[]⟩] 57)) WB (List.replicate 6 ⟨#[]⟩)) := Lib.hid (by rw [HWB.out]; exact heap_alloc_new wr _)
      generalize wr.alloc (.cells #[.string ⟨#[]⟩, .string ⟨#[]⟩, .string ⟨#[]⟩, .string ⟨#[]⟩, .string ⟨#[]⟩, .string ⟨#[]⟩] 57) = W1 at *
      clear HT HWB
      go_loopw [9] (fun x wr => ∃ i : Nat, i ≤ 6 ∧ x = .int .i64 i ∧ ∃ O, Trio w0 wr A 3 l v (fun _ => D1) ∧ Arr 57 wr WB O ∧ O.length = 6 ∧ ∀ j, j < i → O[j]? = some (D1.S.getD j ⟨#[]⟩)) (fun x _ => 6 - (intOf x).toNat)
      case atStart => exact ⟨0, by omega, rfl, _, HT1.out, HA1.out, rfl, fun j hj => absurd hj (by omega)⟩
      case round =>
        obtain ⟨i, hi1, rfl, O, hTi, hAi, hOl, hOj⟩ := hrel
        have HTi := Lib.hid hTi
        have HAi := Lib.hid hAi
        have HOl := Lib.hid hOl
        have HOj := Lib.hid hOj
        have hcA := hTi.cell 0 (by omega) (by omega)
        clear hTi hAi hOl hOj HT1 HA1
        by_cases hlt2 : i < 6
        · have hac := HAi.out.cell i (by rw [HOl.out]; exact hlt2)
          have haf := HAi.out.free i
          obtain ⟨z, hz⟩ : ∃ z, z = O[i]'(by rw [HOl.out]; exact hlt2) := ⟨_, rfl⟩
          rw [← hz] at hac
          clear hz
          obtain ⟨y, hy⟩ : ∃ y, D1.S.getD i ⟨#[]⟩ = y := ⟨_, rfl⟩
          have HY := Lib.hid hy
          clear hy
          go_wp2_with fail
          refine (my_read (HTi.out.mine 0 (by omega)) i hlt2 (by rw [HD1.out]; exact (wrs_calm new_calm F 0 N1).off) y HY.out).mono ?_
          rintro e w' ⟨rfl, rfl⟩
          have HT2 := Lib.hid (HTi.out.arr HAi.out (by decide) (by decide) hWB' i (.string y))
          have HA2 := Lib.hid (HAi.out.set i y)
          go_wp2
          go_roundw
          case rel =>
            refine ⟨i + 1, by omega, by go_num, _, HT2.out, HA2.out, by rw [List.length_set]; exact HOl.out, ?_⟩
            intro j hj
            by_cases e : j = i
            · subst e; rw [List.getElem?_set_self (by rw [HOl.out]; exact hlt2), HY.out]
            · rw [List.getElem?_set_ne (fun e2 => e e2.symm)]; exact HOj.out j (by omega)
          case measure => simp [intOf]; omega
        · have HO6 : Hid (∀ j, j < 6 → O[j]? = some (D1.S.getD j ⟨#[]⟩)) := Lib.hid (fun j hj => HOj.out j (by omega))
          have hd6 : decide ((i : Int) < 6) = false := decide_eq_false (by omega)
          clear hcA HOj
          obtain ⟨N2, hN2⟩ : ∃ N2, N2 = min G.length 50 := ⟨_, rfl⟩
          have HN2 := Lib.hid hN2
          obtain ⟨D2, hD2⟩ : ∃ D2, D2 = wrs G 2 D1 N2 := ⟨_, rfl⟩
          have HD2 := Lib.hid hD2
          clear hD2 hN2
          have HC1 : Hid (Calm D1 51) := by
            refine Lib.hid ?_
            have h50 : N1 ≤ 50 := by rw [HN1.out]; omega
            have h := flushed_calm (wrs_calm new_calm F 0 N1)
            rw [← HD1.out] at h
            have h1 := h.q; have h2 := h.wr1; have h3 := h.fl1
            exact ⟨h.off, h.cut, by omega, h.wr0, by omega, h.fl0, by omega⟩
          go_wp2
          go_loopw [10] (fun x wr => ∃ k : Nat, k ≤ 3 ∧ x = .int .i64 k ∧ ∃ v, Trio w0 wr A 3 l v (fun j => if j < k then D2 else D1) ∧ Arr 57 wr WB O) (fun x _ => 3 - (intOf x).toNat)
          case atStart => exact ⟨0, by omega, rfl, v, HTi.out.ext (fun j _ => by rw [if_neg (by omega)]), HAi.out⟩
          case round =>
            obtain ⟨k, hk3, rfl, vk, hTk, hAk⟩ := hrel
            have HTk := Lib.hid hTk
            have HAk := Lib.hid hAk
            clear hTk hAk
            by_cases hlt : k < 3
            · have hdk : decide ((k : Int) < 3) = true := decide_eq_true (by omega)
              go_wp2
              go_loopw [11] (fun x wr => ∃ i : Nat, i ≤ 50 ∧ i ≤ G.length ∧ x = .int .i64 i ∧ ∃ v, Trio w0 wr A 3 l v (upd (fun j => if j < k then D2 else D1) k (wrs G 2 D1 i)) ∧ Arr 57 wr WB O) (fun x _ => 50 - (intOf x).toNat)
              case atStart =>
                refine ⟨0, by omega, by omega, rfl, vk, HTk.out.ext ?_, HAk.out⟩
                intro j _
                by_cases e : j = k
                · rw [e, upd_same, if_neg (by omega)]; rfl
                · rw [upd_ne _ e]
              case round =>
                obtain ⟨i, hi1, hi2, rfl, vi, hTi, hAi⟩ := hrel
                have HTi := Lib.hid hTi
                have HAi := Lib.hid hAi
                have hcA := hTi.cell k hlt hlt
                clear hTi hAi
                by_cases hlt2 : i < G.length ∧ i < 50
                · obtain ⟨hlt3, hlt4⟩ := hlt2
                  obtain ⟨g, off, rfl, hg, hc⟩ := (HG.out.below (HB0.out.trans (HTi.out.below.mono HB0.out.size))) i hlt3
                  obtain ⟨s, hs⟩ : ∃ s, s = G[i] := ⟨_, rfl⟩
                  rw [← hs] at hc
                  have HS := Lib.hid hs
                  clear hs
                  have hmk := HTi.out.mine k hlt
                  rw [upd_same] at hmk
                  have HMk := Lib.hid hmk
                  clear hmk
                  have hcl := Lib.hid (wrs_calm HC1.out G 2 i)
                  have hwr2 : IntKind.i64.wrap ((i : Int) + 2) = (i : Int) + 2 := IntWalk.i64_in _ (by omega)
                  go_wp2
                  go_region_with (go_at_call 11; refine (any_write HMk.out.drew ((i + 2) % 6) s (by omega) _ hcl.out (by omega)).mono ?_; rintro e w2 ⟨⟨c, rfl⟩, v2, h2, hC2⟩)
                  all_goals
                    have HT2 := Lib.hid ((HTi.out.belowed ((Below.refl _ _).drew)).step (j := k) hlt (v' := v2) (d' := wstep (wrs G 2 D1 i) ((i + 2) % 6) s) h2 hC2)
                    have HA2 := Lib.hid ((HAi.out.below ((Below.refl _ _).drew)).kept (by decide) HMk.out.drew.disk hC2)
                    clear h2 hC2 hcA hc hg
                    go_wp2
                    go_roundw
                    case rel =>
                      refine ⟨i + 1, by omega, by omega, by go_num, _, HT2.out.ext ?_, HA2.out⟩
                      intro j hj
                      by_cases e : j = k
                      · rw [e, upd_same, upd_same]
                        show wstep _ _ (G.getD i ⟨#[]⟩) = _
                        rw [HS.out]; simp [List.getD_eq_getElem?_getD, List.getElem?_eq_getElem hlt3]
                      · rw [upd_ne _ e, upd_ne _ e, upd_ne _ e]
                    case measure => simp [intOf]; omega
                · by_cases h1 : i < G.length
                  · have hd : decide ((i : Int) < 50) = false := decide_eq_false (by omega)
                    have he : i = N2 := by rw [HN2.out]; omega
                    subst he
                    have HT5 := Lib.hid (HTi.out)
                    go_wp2
                    go_roundw
                    case rel =>
                      refine ⟨k + 1, by omega, by go_num, vi, HT5.out.ext ?_, HAi.out⟩
                      intro j hj
                      by_cases e : j = k
                      · rw [e, upd_same, if_pos (by omega)]; exact HD2.out
                      · rw [upd_ne _ e]
                        by_cases e2 : j < k
                        · rw [if_pos e2, if_pos (by omega)]
                        · rw [if_neg e2, if_neg (by omega)]
                    case measure => simp [intOf]; omega
                  ·
                    have he : i = N2 := by rw [HN2.out]; omega
                    subst he
                    have HT5 := Lib.hid (HTi.out)
                    go_wp2
                    go_roundw
                    case rel =>
                      refine ⟨k + 1, by omega, by go_num, vi, HT5.out.ext ?_, HAi.out⟩
                      intro j hj
                      by_cases e : j = k
                      · rw [e, upd_same, if_pos (by omega)]; exact HD2.out
                      · rw [upd_ne _ e]
                        by_cases e2 : j < k
                        · rw [if_pos e2, if_pos (by omega)]
                        · rw [if_neg e2, if_neg (by omega)]
                    case measure => simp [intOf]; omega
            · have HT3 : Hid (Trio w0 wr A 3 l vk (fun _ => D2)) := Lib.hid (HTk.out.ext (fun j hj => by rw [if_pos (by omega)]))
              have HC2 : Hid (Calm D2 101) := by
                refine Lib.hid ?_
                have h50 : N2 ≤ 50 := by rw [HN2.out]; omega
                have h := wrs_calm HC1.out G 2 N2
                rw [← HD2.out] at h
                have h1 := h.q; have h2 := h.wr1; have h3 := h.fl1
                exact ⟨h.off, h.cut, by omega, h.wr0, by omega, h.fl0, by omega⟩
              have hf0 := HC2.out.fl0
              have hf1 := HC2.out.fl1
              have hc0 := HT3.out.cell 0 (by omega) (by omega)
              go_wp2_with fail
              refine (my2_flush (HT3.out.mine 0 (by omega)) HC2.out.off HC2.out.cut hf0 (by omega)).mono ?_
              rintro e w5 ⟨rfl, v5, h5, hC5⟩
              have HT5 := Lib.hid (HT3.out.step (j := 0) (by omega) h5 hC5)
              have HA5 := Lib.hid (HAk.out.kept (by decide) (HT3.out.mine 0 (by omega)).disk hC5)
              clear h5 hC5 hc0
              have hc1 := HT5.out.cell 1 (by omega) (by omega)
              have hm1 := HT5.out.mine 1 (by omega)
              rw [upd_ne _ (by omega), upd_ne _ (by omega)] at hm1
              have HM1 := Lib.hid hm1
              clear hm1
              go_wp2_with fail
              refine (my2_crash HM1.out (-1)).mono ?_
              rintro e w6 ⟨rfl, v6, h6, hC6⟩
              have HT6 := Lib.hid (HT5.out.step (j := 1) (by omega) (v' := v6) (d' := D2.crash (-1)) h6 (by rw [upd_ne _ (by omega)]; exact hC6))
              have HA6 := Lib.hid (HA5.out.kept (by decide) HM1.out.disk hC6)
              clear h6 hC6 hc1
              have hc2 := HT6.out.cell 2 (by omega) (by omega)
              have hm2 := HT6.out.mine 2 (by omega)
              rw [upd_ne _ (by omega), upd_ne _ (by omega), upd_ne _ (by omega), upd_ne _ (by omega)] at hm2
              have HM2 := Lib.hid hm2
              clear hm2
              go_wp2_with fail
              refine (my2_crash HM2.out 0).mono ?_
              rintro e w7 ⟨rfl, v7, h7, hC7⟩
              have HT7 := Lib.hid (HT6.out.step (j := 2) (by omega) (v' := v7) (d' := D2.crash 0) h7 (by rw [upd_ne _ (by omega), upd_ne _ (by omega)]; exact hC7))
              have HA7 := Lib.hid (HA6.out.kept (by decide) HM2.out.disk hC7)
              clear h7 hC7 hc2
              have HE : Hid (∀ j, j < 6 → D2.flushed.S.getD j ⟨#[]⟩ = D2.S.getD j ⟨#[]⟩ ∧ (D2.crash (-1)).S.getD j ⟨#[]⟩ = D2.S.getD j ⟨#[]⟩ ∧ (D2.crash 0).S.getD j ⟨#[]⟩ = D1.S.getD j ⟨#[]⟩) := by
                refine Lib.hid fun j _ => ⟨rfl, ?_, ?_⟩
                · show (loseL (-1) D2.Q 0 D2.L).getD j _ = _
                  rw [loseL_all, ← (HT3.out.mine 0 (by omega)).ok.seen]
                · show (loseL 0 D2.Q 0 D2.L).getD j _ = _
                  rw [loseL_none, HD2.out, wrs_L, HD1.out]
                  rfl
              generalize upd (upd (upd vk 0 v5) 1 v6) 2 v7 = vf at *
              have HTf : Hid (Trio w0 w7 A 3 l vf (upd (upd (upd (fun _ => D2) 0 D2.flushed) 1 (D2.crash (-1))) 2 (D2.crash 0))) := HT7
              go_wp2
              go_loopw [12] (fun x wr => ∃ i : Nat, i ≤ 6 ∧ x = .int .i64 i ∧ Trio w0 wr A 3 l vf (upd (upd (upd (fun _ => D2) 0 D2.flushed) 1 (D2.crash (-1))) 2 (D2.crash 0)) ∧ Arr 57 wr WB O) (fun x _ => 6 - (intOf x).toNat)
              case atStart => exact ⟨0, by omega, rfl, HTf.out, HA7.out⟩
              case round =>
                obtain ⟨i, hi1, rfl, hTi, hAi⟩ := hrel
                have HTi := Lib.hid hTi
                have HAi := Lib.hid hAi
                have hc0 := hTi.cell 0 (by omega) (by omega)
                have hc1 := hTi.cell 1 (by omega) (by omega)
                have hc2 := hTi.cell 2 (by omega) (by omega)
                have hm0 := hTi.mine 0 (by omega)
                have hm1 := hTi.mine 1 (by omega)
                have hm2 := hTi.mine 2 (by omega)
                rw [upd_ne _ (by omega), upd_ne _ (by omega), upd_same] at hm0
                rw [upd_ne _ (by omega), upd_same] at hm1
                rw [upd_same] at hm2
                have HM0 := Lib.hid hm0
                have HM1 := Lib.hid hm1
                have HM2 := Lib.hid hm2
                clear hTi hAi hm0 hm1 hm2
                by_cases hlt2 : i < 6
                · obtain ⟨e0, e1, e2⟩ := HE.out i hlt2
                  obtain ⟨a, ha⟩ : ∃ a, D2.S.getD i ⟨#[]⟩ = a := ⟨_, rfl⟩
                  obtain ⟨b, hb⟩ : ∃ b, D1.S.getD i ⟨#[]⟩ = b := ⟨_, rfl⟩
                  rw [ha] at e0 e1
                  rw [hb] at e2
                  have hac := HAi.out.cell i (by rw [HOl.out]; exact hlt2)
                  have hOb : O[i]'(by rw [HOl.out]; exact hlt2) = b := by
                    have := HO6.out i hlt2
                    rw [List.getElem?_eq_getElem (by rw [HOl.out]; exact hlt2), hb] at this
                    simpa using this
                  rw [hOb] at hac
                  have E0 := Lib.hid e0
                  have E1 := Lib.hid e1
                  have E2 := Lib.hid e2
                  clear e0 e1 e2 ha hb hOb
                  go_wp2_with fail
                  refine (my_read HM0.out i hlt2 HC2.out.off a E0.out).mono ?_
                  rintro e w' ⟨rfl, rfl⟩
                  go_wp2_with fail
                  refine (my_read HM1.out i hlt2 rfl a E1.out).mono ?_
                  rintro e w' ⟨rfl, rfl⟩
                  go_wp2_with fail
                  refine (my_read HM2.out i hlt2 rfl b E2.out).mono ?_
                  rintro e w' ⟨rfl, rfl⟩
                  go_wp2
                  go_roundw
                  case rel => exact ⟨i + 1, by omega, by go_num, HTi.out, HAi.out⟩
                  case measure => simp [intOf]; omega
                · go_wp2
                  go_ret
                  exact ⟨rfl, HB0.out.trans (HTi.out.below.mono HB0.out.size)⟩
end Go.Proofs.Ythomjcndaddbbaa
