/-
  ScoreMeans' walk: it answers true, and makes new blocks alone. Its conditions: the words fit into 64 bits, and there are no more than a slice holds.
-/
import Derived.Test.YtdfpfdkpgokflaaMn
import Derived.Test.YtdfpfdkpgokflaaOwn
namespace Go.Proofs.Ytdfpfdkpgokflaa
open Go.RowKit Ieee
theorem Try.info24 : (Try.prog.info? 24).map (fun i => (i.zero, i.size, i.bytes)) = some (some (.float .f64 0), 1, 8) := by kernel_rfl
def flts (L : List Nat) : List Value := L.map (Value.float .f64)
theorem Mk.flt {w0 w : World} {v : Value} {n : Nat} {L : List Nat} (h : Mk w0 w 24 1 v n (flts L)) (hL : ∀ x ∈ L, x < 18446744073709551616) : ∃ ao cap, v = .slice ao L.length cap ∧ FltAt w ao L := by
  have hl := h.own.1
  have hn : n = L.length := by simpa [flts] using hl.symm
  subst hn
  obtain ⟨ao, cap, rfl⟩ := h.form
  refine ⟨ao, cap, rfl, ?_⟩
  intro i hi
  obtain ⟨g, cap', e1, e2, e3, e4⟩ := h.cell i (.float .f64 L[i]) (by simp [flts, hi])
  injection e1 with e1 _ _
  exact ⟨g, 0, e1, e3, by rw [Nat.zero_add]; exact e4, hL _ (List.getElem_mem hi)⟩

set_option maxRecDepth 100000 in
set_option maxHeartbeats 1000000 in
theorem means_walk (L : List Nat) (ao : Option Addr) (cap : Nat) (w : World) (hI : WrdAt w ao L) (hl : L.length * 8 ≤ 140737488355328) :
    Calls Try.prog 6 #[.slice ao L.length cap] w fun e w' => e = .returned (.bool true) ∧ Below w.heap.size w w' := by
  obtain ⟨i0, hi, hz0, hz1, hz2⟩ := info_parts Try.info24
  have HI := Lib.hid hI
  clear hI
  have HX : Hid (∀ x ∈ L, x < 18446744073709551616) := Lib.hid (by
    intro x hx
    obtain ⟨i, hi, rfl⟩ := List.getElem_of_mem hx
    obtain ⟨_, _, _, _, _, h⟩ := HI.out i hi
    exact h)
  go_enter Try.func6, Try.ntmps6
  go_wp2_with (go_at_call 9; refine (speaks_any _).mono ?_; rintro e w' ⟨o, n, rfl, rfl⟩)
  go_loopw [3, 4] (fun v i wr => ∃ k : Nat, k ≤ L.length ∧ i = .int .i64 k ∧ Mk w wr 24 1 v k (flts (L.take k))) (fun v i _ => L.length - (intOf i).toNat)
  case atStart => exact ⟨0, Nat.zero_le _, rfl, Mk.start _ _ _ _ (below_step (Below.refl _ _) _ _ (Nat.le_refl _))⟩
  case round =>
    obtain ⟨k, hk, rfl, hM⟩ := hrel
    have HM := Lib.hid hM
    clear hM
    by_cases hlt : k < L.length
    · obtain ⟨g, off, rfl, hg, hc, hw⟩ := (HI.out.below HM.out.below) k hlt
      have HT : Hid (flts (L.take (k + 1)) = flts (L.take k) ++ [.float .f64 L[k]]) := Lib.hid (by unfold flts; rw [List.take_succ_eq_append_getElem hlt, List.map_append]; rfl)
      generalize L[k] = x at *
      have hxx : ((x : Int)).toNat = x := Int.toNat_natCast x
      go_wp2_with (at_builtin; (refine wpList_append_lies _ rfl (.tmp 17) (.tmp 23) 40 rfl w.heap.size 24 i0 _ 1 8 Try.underlying40 hi hz0 hz1 hz2 rfl (by omega) u3 _ _ rfl (HM.out.own.alloc _) ⟨wr.heap.size, 0, none⟩ 1 1 [.float .f64 x] rfl rfl (World.news_of_block (cs := #[.float .f64 x]) (t := 24) (fr := (0, 0)) (heap_alloc_new wr _)) (by simp [Value.oneCell']) (by omega) (by unfold maxLen; omega) (by omega) (by have := HM.out.lt; simp; omega) (wr.heap.size + 1) (by simp) ?_); intro g2 cap2 w1 hown1 hgrow hat hglt; have HO := Lib.hid hown1; have HG := Lib.hid hgrow; clear hown1 hgrow hat)
      exact ⟨⟨k + 1, by omega, by go_num, by rw [HT.out]; exact (HM.out.next ((Below.refl _ _).alloc (Nat.le_refl _) _)).push HG.out HO.out⟩, by simp [intOf]; omega⟩
    · obtain rfl : k = L.length := by omega
      rw [List.take_length] at HM
      obtain ⟨ao2, cap2, rfl, hF⟩ := HM.out.flt HX.out
      have HF := Lib.hid hF
      have HW := Lib.hid (HI.out.below HM.out.below)
      clear hF
      go_wp2_with first
        | (go_at_call 18; refine (mean_any L _ _ _ HF.out (by omega)).mono ?_; rintro e w' ⟨r1, n1, rfl, hr1, rfl⟩)
        | (go_at_call 19; refine (refmean_any L _ _ _ (HW.out.below (below_drewN (Below.refl _ _) _)) (by omega)).mono ?_; rintro e w' ⟨r2, n2, rfl, hr2, rfl⟩; have hs := FV.same hr1 hr2; have HR := Lib.hid hr1; clear hr1 hr2)
        | (go_at_call 10; refine (same_any _ _ _).mono ?_; rintro e w' ⟨rfl, rfl⟩)
      all_goals go_ret
      all_goals refine ⟨?_, below_drewN HM.out.below _⟩
      all_goals first
        | rfl
        | (rename_i hz
           have hr := HR.out
           rw [mean_none L hz] at hr
           have hn : (FloatKind.f64.format.order r1 r1 != some .eq) = nan r1 := not_beq_self r1
           rw [hn, hr.1]
           rfl)
end Go.Proofs.Ytdfpfdkpgokflaa
