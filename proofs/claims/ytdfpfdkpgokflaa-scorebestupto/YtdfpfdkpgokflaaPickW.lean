/-
  ScorePicks' walk: it answers true, and makes new blocks alone. Its condition: there are no more than a slice holds.
-/
import Derived.Test.YtdfpfdkpgokflaaPk
import Derived.Deep.DeepCutAuto
namespace Go.Proofs.Ytdfpfdkpgokflaa
open Go.RowKit Ieee
theorem Try.info28 : (Try.prog.info? 28).map (fun i => (i.zero, i.size, i.bytes)) = some (some (.agg #[.int .i64 0, .int .i64 0, .int .i64 0]), 3, 24) := by kernel_rfl
def segs (S : List Seg) : List Value := S.flatMap segc
theorem segs_snoc (S : List Seg) (x : Seg) : segs (S ++ [x]) = segs S ++ segc x := by simp [segs]
theorem segs_length : ∀ S : List Seg, (segs S).length = 3 * S.length
  | [] => rfl
  | x :: r => by
    have := segs_length r
    unfold segs at this ⊢
    simp [List.flatMap_cons, this, segc]; omega
theorem segs_get : ∀ (S : List Seg) (i : Nat) (h : i < S.length) (j : Nat) (_ : j < 3), (segs S)[i * 3 + j]? = (segc S[i])[j]?
  | [], i, h, _, _ => absurd h (by simp)
  | x :: r, 0, h, j, hj => by
    show (segc x ++ segs r)[0 * 3 + j]? = _
    rw [List.getElem?_append_left (by simp [segc]; omega)]
    simp
  | x :: r, i + 1, h, j, hj => by
    show (segc x ++ segs r)[(i + 1) * 3 + j]? = _
    have : (segc x).length = 3 := rfl
    rw [List.getElem?_append_right (by omega), this, show (i + 1) * 3 + j - 3 = i * 3 + j from by omega, segs_get r i (by simpa using h) j hj]
    rfl
theorem Mk.seg {w0 w : World} {v : Value} {n : Nat} {S : List Seg} (h : Mk w0 w 28 3 v n (segs S)) : ∃ ao cap, v = .slice ao S.length cap ∧ SegAt w ao S := by
  have hl := h.own.1
  have hn : n = S.length := by rw [segs_length] at hl; omega
  subst hn
  obtain ⟨ao, cap, rfl⟩ := h.form
  refine ⟨ao, cap, rfl, ?_⟩
  intro i hi
  obtain ⟨g, cap', e1, e2, e3, e4⟩ := h.cell (i * 3 + 0) (.int .i64 S[i].l) (by rw [segs_get S i hi 0 (by omega)]; rfl)
  obtain ⟨g2, cap2, f1, f2, f3, f4⟩ := h.cell (i * 3 + 1) (.int .i64 S[i].s) (by rw [segs_get S i hi 1 (by omega)]; rfl)
  obtain ⟨g3, cap3, h1, h2, h3, h4⟩ := h.cell (i * 3 + 2) (.int .i64 S[i].a) (by rw [segs_get S i hi 2 (by omega)]; rfl)
  injection e1 with e1 _ _
  injection f1 with f1 _ _
  injection h1 with h1 _ _
  subst e1
  injection f1 with f1
  injection h1 with h1
  injection f1 with f1
  injection h1 with h1
  subst f1 h1
  exact ⟨g, 0, rfl, e3, by rw [Nat.zero_add]; exact e4, by rw [Nat.zero_add]; exact f4, by rw [Nat.zero_add]; exact h4⟩

set_option maxRecDepth 100000 in
set_option maxHeartbeats 2000000 in
theorem picks_walk (S : List Seg) (ao : Option Addr) (cap : Nat) (w : World) (hI : SegAt w ao S) (hl : S.length * 24 ≤ 140737488355328) :
    Calls Try.prog 5 #[.slice ao S.length cap] w fun e w' => e = .returned (.bool true) ∧ Below w.heap.size w w' := by
  obtain ⟨i0, hi, hz0, hz1, hz2⟩ := info_parts Try.info28
  have HI := Lib.hid hI
  clear hI
  go_enter Try.func5, Try.ntmps5
  go_wp2_with (go_at_call 9; refine (speaks_any _).mono ?_; rintro e w' ⟨o, n, rfl, rfl⟩)
  go_loopw [3, 4, 5, 6] (fun v b f i wr => ∃ k r : Nat, k ≤ S.length ∧ i = .int .i64 k ∧ b = .int .i64 (bst S k) ∧ f = .float .f64 r ∧ (0 ≤ bst S k → FV (S.getD (bst S k).toNat default).ben r) ∧ Mk w wr 28 3 v k (segs (S.take k))) (fun v b f i _ => S.length - (intOf i).toNat)
  case atStart => exact ⟨0, 0, Nat.zero_le _, rfl, rfl, rfl, fun h => absurd h (by show ¬ (0 : Int) ≤ -1; decide), Mk.start _ _ _ _ (below_step (Below.refl _ _) _ _ (Nat.le_refl _))⟩
  case round =>
    obtain ⟨k, r, hk, rfl, rfl, rfl, hr, hM⟩ := hrel
    have HM := Lib.hid hM
    have HR := Lib.hid hr
    clear hM hr
    by_cases hlt : k < S.length
    · obtain ⟨g, off, rfl, hg, c1, c2, c3⟩ := (HI.out.below HM.out.below) k hlt
      have HX : Hid (S[k] = S.getD k default) := Lib.hid (by simp [List.getD_eq_getElem?_getD, List.getElem?_eq_getElem hlt])
      have HT : Hid (segs (S.take (k + 1)) = segs (S.take k) ++ segc S[k]) := Lib.hid (by rw [List.take_succ_eq_append_getElem hlt, segs_snoc])
      generalize S[k] = x at *
      have HN : Hid (bst S (k + 1) = if bst S k < 0 ∨ lessO (S.getD (bst S k).toNat default).ben x.ben = true then (k : Int) else bst S k) := Lib.hid (by rw [HX.out]; rfl)
      have hkl : (k : Int) < (S.length : Int) := by omega
      go_upto_region 9 with (fail)
      go_cut [3] (fun v wc => Mk w wc 28 3 v (k + 1) (segs (S.take (k + 1))))
      case first =>
        go_region_law
          ((refine step_append_lies _ (by rfl) _ _ _ (by rfl) w.heap.size 28 i0 _ 3 24 Try.underlying35 hi hz0 hz1 hz2 rfl (by omega) u3 _ _ (by rfl) ((HM.out.own.alloc _).drew)
              ⟨wr.heap.size, 0, none⟩ 1 1 [.int .i64 x.l, .int .i64 x.s, .int .i64 x.a] (by rfl) (by rfl) (World.news_of_block (cs := #[.int .i64 x.l, .int .i64 x.s, .int .i64 x.a]) (t := 28) (fr := (0, 0)) (heap_alloc_new wr _)) (by simp [Value.oneCell'])
              (by omega) (by unfold maxLen; omega) (by omega) (by have := HM.out.lt; simp; omega) (wr.heap.size + 1) (by simp) ?_; intro g2 cap2 w1 hown1 hgrow hat hglt; have HO := Lib.hid hown1; have HG := Lib.hid hgrow; clear hown1 hgrow hat))
        all_goals (go_wp2_with fail; go_meet)
        all_goals rw [HT.out]
        all_goals exact (HM.out.next (((Below.refl _ _).alloc (Nat.le_refl _) _).drew)).push HG.out HO.out
      case rest =>
        have HM2 := Lib.hid hcut
        clear hcut HM HT c1 c2 c3 hg
        obtain ⟨g3, off3, hg3, hg, c1, c2, c3⟩ := (HI.out.below HM2.out.below) k hlt
        injection hg3 with hg3
        injection hg3 with hg3 hoff3
        subst hg3 hoff3
        rw [show S[k] = x from by rw [HX.out]; simp [List.getD_eq_getElem?_getD, List.getElem?_eq_getElem hlt]] at c1 c2 c3
        go_upto_region 10 with (fail)
        go_cut [7] (fun f wc => ∃ r2 : Nat, f = .float .f64 r2 ∧ FV x.ben r2 ∧ Mk w wc 28 3 u3 (k + 1) (segs (S.take (k + 1))))
        case first =>
          go_region_with (go_at_call 13; refine (refben_any _ _ _ _).mono ?_; rintro e w' ⟨r2, n2, rfl, hr2, rfl⟩)
          all_goals (go_wp2_with fail; go_meet)
          all_goals exact ⟨r2, rfl, hr2, HM2.out.next (below_drewN (Below.refl _ _) _)⟩
        case rest =>
          obtain ⟨r2, rfl, hr2, hM3⟩ := hcut
          have HM3 := Lib.hid hM3
          have HF := Lib.hid hr2
          clear hM3 hr2 c1 c2 c3 hg HM2
          by_cases hz : bst S k < 0
          · have hd : decide (bst S k < 0) = true := decide_eq_true hz
            have HE : Hid (bst S (k + 1) = (k : Int)) := Lib.hid (by rw [HN.out, if_pos (.inl hz)])
            go_wp2_with fail
            refine ⟨⟨k + 1, r2, by omega, by go_num, by rw [HE.out], rfl, ?_, HM3.out⟩, by simp [intOf]; omega⟩
            rw [HE.out, Int.toNat_natCast, ← HX.out]
            exact fun _ => HF.out
          · have hd : decide (bst S k < 0) = false := decide_eq_false hz
            have hR := HR.out (by omega)
            have HL := Lib.hid (ben_less hR HF.out)
            have hlt1 := ben_lt hR
            have hlt2 := ben_lt HF.out
            have HRR := Lib.hid hR
            clear hR
            generalize hy : S.getD (bst S k).toNat default = y at *
            have hy := Lib.hid hy
            generalize lessO y.ben x.ben = t at *
            cases t with
            | true =>
              have HE : Hid (bst S (k + 1) = (k : Int)) := Lib.hid (by rw [HN.out, if_pos (.inr rfl)])
              go_wp2_with (go_at_call 16; refine (refless_any _ _ _ hlt1 hlt2).mono ?_; rintro e w' ⟨rfl, rfl⟩; rw [HL.out])
              refine ⟨⟨k + 1, r2, by omega, by go_num, by rw [HE.out], rfl, ?_, HM3.out⟩, by simp [intOf]; omega⟩
              rw [HE.out, Int.toNat_natCast, ← HX.out]
              exact fun _ => HF.out
            | false =>
              have HE : Hid (bst S (k + 1) = bst S k) := Lib.hid (by rw [HN.out, if_neg (fun h => h.elim (fun h => hz h) (fun h => by cases h))])
              go_wp2_with (go_at_call 16; refine (refless_any _ _ _ hlt1 hlt2).mono ?_; rintro e w' ⟨rfl, rfl⟩; rw [HL.out])
              refine ⟨⟨k + 1, r, by omega, by go_num, by rw [HE.out], rfl, ?_, HM3.out⟩, by simp [intOf]; omega⟩
              rw [HE.out, hy.out]
              exact fun _ => HRR.out
    · obtain rfl : k = S.length := by omega
      rw [List.take_length] at HM
      obtain ⟨ao2, cap2, rfl, hF⟩ := HM.out.seg
      have HF := Lib.hid hF
      clear hF HR
      go_wp2_with (go_at_call 17; refine (pick_any S _ _ _ HF.out (by omega)).mono ?_; rintro e w2 ⟨rfl, hB2⟩; have HM2 := Lib.hid (HM.out.next hB2); have HF2 := Lib.hid (HF.out.below hB2); clear hB2 HM HF)
      have HI2 := Lib.hid (HI.out.below HM2.out.below)
      go_loopw [8] (fun i wq => ∃ k : Nat, k ≤ S.length ∧ i = .int .i64 k ∧ ∃ n, wq = w2.drewN n) (fun i _ => S.length - (intOf i).toNat)
      case atStart => exact ⟨0, Nat.zero_le _, rfl, 0, rfl⟩
      case round =>
        obtain ⟨k, hk, rfl, m, rfl⟩ := hrel
        by_cases hlt : k < S.length
        · obtain ⟨g, off, rfl, hg, c1, c2, c3⟩ := HI2.out k hlt
          obtain ⟨g2, off2, rfl, hg2, d1, d2, d3⟩ := HF2.out k hlt
          generalize S[k] = x at *
          have hkl : (k : Int) < (S.length : Int) := by omega
          go_wp2_with fail
          go_quiet (fail)
          go_wp2
          exact ⟨⟨k + 1, by omega, by go_num, _, rfl⟩, by simp [intOf]; omega⟩
        · go_wp2
          go_ret
          exact ⟨rfl, below_drewN HM2.out.below _⟩
end Go.Proofs.Ytdfpfdkpgokflaa
