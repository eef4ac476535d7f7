/-
  Get: the Attr of numbers, or none. Its condition: the numbers lie in memory.
-/
import Derived.Test.YtakfpfnaogdmlaaDoorTa
import Derived.Defers
import Derived.Recover
namespace Go.Proofs.YtakfpfnaogdmlaaDoor.A
open Go.RowKit
set_option maxHeartbeats 400000 in
theorem only_any (w : World) : Calls Tryd.prog 49 #[.iface 115 (.agg #[])] w fun r w' => r = .returned (.tuple #[]) ∧ Below w.heap.size w w' := by
  have hta : ∀ w : World, (Instr.typeAssert (.iface 115 (.agg #[])) 20 115 true).run Tryd.prog w = .ok (.tuple #[.agg #[], .bool true]) w := fun w => by kernel_rfl
  go_enter Tryd.func49, Tryd.ntmps49
  go_wp2
  go_end0
  exact ⟨rfl, (Below.refl _ _).alloc (Nat.le_refl _) _⟩
set_option maxRecDepth 100000 in
set_option maxHeartbeats 400000 in
theorem idle26 (w : World) :
    CallsD Tryd.prog 48 #[] .returning w fun r u' w' => r = .returned (.tuple #[]) ∧ u' = .returning ∧ w' = w := by
  refine callsD_of_wpS Tryd.func48 rfl fun c₀ cs hu => ?_
  apply wpS_seq
  apply wpS_region
  simp [wpOpsS, go_sem, recoverD, hu, Tryd.ntmps48, Exit.thenS]
  refine wpS_of_wp ?_
  go_wp2_with fail
  cases c₀
  simp_all [bodyPostS, results, Tryd.results48]
set_option maxRecDepth 100000 in
set_option maxHeartbeats 400000 in
theorem catch26 (w : World) :
    CallsD Tryd.prog 48 #[] (.panicking [{ v := .iface 115 (.agg #[]), recovered := false }]) w fun r u' w' =>
      r = .returned (.tuple #[]) ∧ u' = .panicking [{ v := .iface 115 (.agg #[]), recovered := true }] ∧ Below w.heap.size w w' := by
  refine callsD_of_wpS Tryd.func48 rfl fun c₀ cs hu => ?_
  apply wpS_seq
  apply wpS_region
  simp [wpOpsS, go_sem, recoverD, hu, Tryd.ntmps48, Exit.thenS]
  refine wpS_of_wp ?_
  go_wp2_with fail
  refine (only_any w).mono ?_
  rintro r w' ⟨rfl, hB⟩
  have HB := Lib.hid hB
  clear hB
  go_wp2
  simp [bodyPostS, results, Tryd.results48]
  exact HB.out
theorem ints_b {w : World} {N : Nat} {ao : Option Addr} {L : List Int} (h : IntsAt w ao L) (hN : N = w.heap.size) : IntsB w N ao L := by
  intro i hi
  obtain ⟨g, off, e1, e2, e3⟩ := h i hi
  exact ⟨g, off, e1, by omega, e3⟩
theorem b_ints {w : World} {N : Nat} {ao : Option Addr} {L : List Int} (h : IntsB w N ao L) (hN : N ≤ w.heap.size) : IntsAt w ao L := by
  intro i hi
  obtain ⟨g, off, e1, e2, e3⟩ := h i hi
  exact ⟨g, off, e1, by omega, e3⟩
/-- The result's box and the taker's, new. -/
theorem two_boxes (w : World) (ao : Option Addr) (L : List Int) (cap : Nat) (hI : IntsAt w ao L) (hc : L.length ≤ cap) (hc2 : cap ≤ 9223372036854775807) :
    TF w.heap.size (w.heap.size + 1) L w ((w.alloc (.cells #[.int .i64 0, .int .i64 0, .int .i64 0, .int .i64 0, .int .i64 0, .int .i64 0, .int .i64 0, .int .i64 0, .int .i64 0, .int .i64 0, .int .i64 0, .int .i64 0, .int .i64 0, .int .i64 0, .int .i64 0, .int .i64 0, .int .i64 0] 41)).alloc (.cells #[.slice ao L.length cap] 100)) ∧ AAt ((w.alloc (.cells #[.int .i64 0, .int .i64 0, .int .i64 0, .int .i64 0, .int .i64 0, .int .i64 0, .int .i64 0, .int .i64 0, .int .i64 0, .int .i64 0, .int .i64 0, .int .i64 0, .int .i64 0, .int .i64 0, .int .i64 0, .int .i64 0, .int .i64 0] 41)).alloc (.cells #[.slice ao L.length cap] 100)) w.heap.size 0 0 0 0 0 0 0 0 0 0 0 0 0 0 0 0 0 := by
  have hB := ((Below.refl w.heap.size w).alloc (Nat.le_refl _) (.cells #[.int .i64 0, .int .i64 0, .int .i64 0, .int .i64 0, .int .i64 0, .int .i64 0, .int .i64 0, .int .i64 0, .int .i64 0, .int .i64 0, .int .i64 0, .int .i64 0, .int .i64 0, .int .i64 0, .int .i64 0, .int .i64 0, .int .i64 0] 41)).alloc (by simp) (.cells #[.slice ao L.length cap] 100)
  have h2 := heap_alloc_new (w.alloc (.cells #[.int .i64 0, .int .i64 0, .int .i64 0, .int .i64 0, .int .i64 0, .int .i64 0, .int .i64 0, .int .i64 0, .int .i64 0, .int .i64 0, .int .i64 0, .int .i64 0, .int .i64 0, .int .i64 0, .int .i64 0, .int .i64 0, .int .i64 0] 41)) (.cells #[.slice ao L.length cap] 100)
  rw [show (w.alloc (.cells #[.int .i64 0, .int .i64 0, .int .i64 0, .int .i64 0, .int .i64 0, .int .i64 0, .int .i64 0, .int .i64 0, .int .i64 0, .int .i64 0, .int .i64 0, .int .i64 0, .int .i64 0, .int .i64 0, .int .i64 0, .int .i64 0, .int .i64 0] 41)).heap.size = w.heap.size + 1 from by simp] at h2
  refine ⟨⟨by omega, by simp; omega, ⟨ao, cap, h2, ?_, hc, hc2⟩, hB⟩, ?_⟩
  · intro i hi
    obtain ⟨g, off, e1, e2, e3⟩ := hI i hi
    exact ⟨g, off, e1, e2, (hB.cell (p := ⟨g, _, none⟩) e2).trans e3⟩
  · exact ((World.grownBy_alloc _ _ none).block w.heap.size (by simp) (by simp)).trans (heap_alloc_new w _)
set_option maxRecDepth 100000 in
set_option maxHeartbeats 4000000 in
theorem taken_no (n0 n1 n2 n3 n4 n5 n6 n7 n8 n9 n10 n11 n12 n13 n14 n15 : Int) (ao : Option Addr) (cap : Nat) (w : World) (hI : IntsAt w ao [n0, n1, n2, n3, n4, n5, n6, n7, n8, n9, n10, n11, n12, n13, n14, n15]) (hc : 16 ≤ cap) (hc2 : cap ≤ 9223372036854775807) :
    Calls Tryd.prog 34 #[.slice ao 16 cap, .func (.func 35) #[] #[]] w fun r w' => r = .returned (.tuple #[.agg #[.int .i64 0, .int .i64 0, .int .i64 0, .int .i64 0, .int .i64 0, .int .i64 0, .int .i64 0, .int .i64 0, .int .i64 0, .int .i64 0, .int .i64 0, .int .i64 0, .int .i64 0, .int .i64 0, .int .i64 0, .int .i64 0, .int .i64 0], .slice none 0 0, .bool false]) ∧ Below w.heap.size w w' := by
  obtain ⟨hT, hA⟩ := two_boxes w ao [n0, n1, n2, n3, n4, n5, n6, n7, n8, n9, n10, n11, n12, n13, n14, n15] cap hI hc hc2
  have HT := Lib.hid hT
  have HA := Lib.hid hA
  clear hT hA hI
  go_enter_defers Tryd.func34, Tryd.ntmps34
  go_wp2_with fail
  have hs : ((w.alloc (.cells #[.int .i64 0, .int .i64 0, .int .i64 0, .int .i64 0, .int .i64 0, .int .i64 0, .int .i64 0, .int .i64 0, .int .i64 0, .int .i64 0, .int .i64 0, .int .i64 0, .int .i64 0, .int .i64 0, .int .i64 0, .int .i64 0, .int .i64 0] 41)).alloc (.cells #[.slice ao [n0, n1, n2, n3, n4, n5, n6, n7, n8, n9, n10, n11, n12, n13, n14, n15].length cap] 100)) = ((w.alloc (.cells #[.int .i64 0, .int .i64 0, .int .i64 0, .int .i64 0, .int .i64 0, .int .i64 0, .int .i64 0, .int .i64 0, .int .i64 0, .int .i64 0, .int .i64 0, .int .i64 0, .int .i64 0, .int .i64 0, .int .i64 0, .int .i64 0, .int .i64 0] 41)).alloc (.cells #[.slice ao 16 cap] 100)) := rfl
  rw [hs] at HT HA
  clear hs
  generalize ((w.alloc (.cells #[.int .i64 0, .int .i64 0, .int .i64 0, .int .i64 0, .int .i64 0, .int .i64 0, .int .i64 0, .int .i64 0, .int .i64 0, .int .i64 0, .int .i64 0, .int .i64 0, .int .i64 0, .int .i64 0, .int .i64 0, .int .i64 0, .int .i64 0] 41)).alloc (.cells #[.slice ao 16 cap] 100)) = W at *
  refine (attr_no HT.out).mono ?_
  rintro r w1 ⟨rfl, hF⟩
  have HA1 := Lib.hid (show AAt w1 w.heap.size 0 0 0 0 0 0 0 0 0 0 0 0 0 0 0 0 0 from (hF.block _ HA.out.lt (by omega)).trans HA.out)
  have HB1 := Lib.hid (hF.below HT.out.low HT.out.hp HT.out.hN)
  clear hF HT HA
  go_wp2
  refine leaves_cons (f := 48) (args := #[]) (by simp) (by simp [go_sem]) ?_
  refine (catch26 w1).mono ?_
  rintro e u' w2 ⟨rfl, rfl, hB⟩
  have hfin := HB1.out.trans (hB.mono HB1.out.size)
  have hL := run_loadVar_row (P := Tryd.prog) w2 w.heap.size 41 41 _ (0, 0) _ (HA1.out.keep hB) Tryd.underlying41 rfl (by kernel_rfl)
  clear hB
  generalize w.heap.size = A at *
  simp [Leaves, settle, results, Tryd.results34, hL, asAddr]
  exact hfin
set_option maxRecDepth 100000 in
set_option maxHeartbeats 4000000 in
theorem taken_ok (n0 n1 n2 n3 n4 n5 n6 n7 n8 n9 n10 n11 n12 n13 n14 n15 n16 : Int) (M : List Int) (ao : Option Addr) (cap : Nat) (w : World) (hI : IntsAt w ao (n0 :: n1 :: n2 :: n3 :: n4 :: n5 :: n6 :: n7 :: n8 :: n9 :: n10 :: n11 :: n12 :: n13 :: n14 :: n15 :: n16 :: M)) (hc : M.length + 17 ≤ cap) (hc2 : cap ≤ 9223372036854775807) (hsz : M.length * 8 ≤ 140737488355328) :
    Calls Tryd.prog 34 #[.slice ao (M.length + 17) cap, .func (.func 35) #[] #[]] w fun r w' => (∃ bo bcap, r = .returned (.tuple #[.agg #[.int .i64 n0, .int .i64 n1, .int .i64 n2, .int .i64 n3, .int .i64 n4, .int .i64 n5, .int .i64 n6, .int .i64 n7, .int .i64 n8, .int .i64 n9, .int .i64 n10, .int .i64 n11, .int .i64 n12, .int .i64 n13, .int .i64 n14, .int .i64 n15, .int .i64 n16], .slice bo M.length bcap, .bool true]) ∧ IntsAt w' bo M ∧ ∀ g off, bo = some ⟨g, off, none⟩ → w.heap.size ≤ g) ∧ Below w.heap.size w w' := by
  obtain ⟨hT, hA⟩ := two_boxes w ao (n0 :: n1 :: n2 :: n3 :: n4 :: n5 :: n6 :: n7 :: n8 :: n9 :: n10 :: n11 :: n12 :: n13 :: n14 :: n15 :: n16 :: M) cap hI hc hc2
  have HT := Lib.hid hT
  have HA := Lib.hid hA
  clear hT hA hI
  go_enter_defers Tryd.func34, Tryd.ntmps34
  go_wp2_with fail
  have hs : ((w.alloc (.cells #[.int .i64 0, .int .i64 0, .int .i64 0, .int .i64 0, .int .i64 0, .int .i64 0, .int .i64 0, .int .i64 0, .int .i64 0, .int .i64 0, .int .i64 0, .int .i64 0, .int .i64 0, .int .i64 0, .int .i64 0, .int .i64 0, .int .i64 0] 41)).alloc (.cells #[.slice ao (n0 :: n1 :: n2 :: n3 :: n4 :: n5 :: n6 :: n7 :: n8 :: n9 :: n10 :: n11 :: n12 :: n13 :: n14 :: n15 :: n16 :: M).length cap] 100)) = ((w.alloc (.cells #[.int .i64 0, .int .i64 0, .int .i64 0, .int .i64 0, .int .i64 0, .int .i64 0, .int .i64 0, .int .i64 0, .int .i64 0, .int .i64 0, .int .i64 0, .int .i64 0, .int .i64 0, .int .i64 0, .int .i64 0, .int .i64 0, .int .i64 0] 41)).alloc (.cells #[.slice ao (M.length + 17) cap] 100)) := rfl
  rw [hs] at HT HA
  clear hs
  generalize ((w.alloc (.cells #[.int .i64 0, .int .i64 0, .int .i64 0, .int .i64 0, .int .i64 0, .int .i64 0, .int .i64 0, .int .i64 0, .int .i64 0, .int .i64 0, .int .i64 0, .int .i64 0, .int .i64 0, .int .i64 0, .int .i64 0, .int .i64 0, .int .i64 0] 41)).alloc (.cells #[.slice ao (M.length + 17) cap] 100)) = W at *
  have hsm : w.heap.size ≤ W.heap.size := HT.out.hN
  refine (attr_ok HT.out).mono ?_
  rintro r w1 ⟨rfl, hT1, hF⟩
  have HA1 := Lib.hid (show AAt w1 w.heap.size 0 0 0 0 0 0 0 0 0 0 0 0 0 0 0 0 0 from (hF.block _ HA.out.lt (by omega)).trans HA.out)
  have HT1 := Lib.hid hT1
  clear hF HT HA hT1
  go_upto_region 4 with (refine store28_l rfl w.heap.size n0 n1 n2 n3 n4 n5 n6 n7 n8 n9 n10 n11 n12 n13 n14 n15 n16 0 0 0 0 0 0 0 0 0 0 0 0 0 0 0 0 0 HA1.out _ _ rfl rfl rfl ?_; simp only [Act.put])

  have hF := set_row_fq HA1.out #[.int .i64 n0, .int .i64 n1, .int .i64 n2, .int .i64 n3, .int .i64 n4, .int .i64 n5, .int .i64 n6, .int .i64 n7, .int .i64 n8, .int .i64 n9, .int .i64 n10, .int .i64 n11, .int .i64 n12, .int .i64 n13, .int .i64 n14, .int .i64 n15, .int .i64 n16]
  have hT2 := HT1.out.keep hF (Nat.le_refl _) (by omega)
  have HAd : Hid (AAt (w1.setRow w.heap.size #[.int .i64 n0, .int .i64 n1, .int .i64 n2, .int .i64 n3, .int .i64 n4, .int .i64 n5, .int .i64 n6, .int .i64 n7, .int .i64 n8, .int .i64 n9, .int .i64 n10, .int .i64 n11, .int .i64 n12, .int .i64 n13, .int .i64 n14, .int .i64 n15, .int .i64 n16]).drew w.heap.size n0 n1 n2 n3 n4 n5 n6 n7 n8 n9 n10 n11 n12 n13 n14 n15 n16) := Lib.hid (HA1.out.set n0 n1 n2 n3 n4 n5 n6 n7 n8 n9 n10 n11 n12 n13 n14 n15 n16)
  have HBd : Hid (Below w.heap.size w (w1.setRow w.heap.size #[.int .i64 n0, .int .i64 n1, .int .i64 n2, .int .i64 n3, .int .i64 n4, .int .i64 n5, .int .i64 n6, .int .i64 n7, .int .i64 n8, .int .i64 n9, .int .i64 n10, .int .i64 n11, .int .i64 n12, .int .i64 n13, .int .i64 n14, .int .i64 n15, .int .i64 n16]).drew) := Lib.hid hT2.low.drew
  obtain ⟨bo, bcap, q1, q2, q3, q4⟩ := hT2.box
  have c0 : (w1.setRow w.heap.size #[.int .i64 n0, .int .i64 n1, .int .i64 n2, .int .i64 n3, .int .i64 n4, .int .i64 n5, .int .i64 n6, .int .i64 n7, .int .i64 n8, .int .i64 n9, .int .i64 n10, .int .i64 n11, .int .i64 n12, .int .i64 n13, .int .i64 n14, .int .i64 n15, .int .i64 n16]).drew.cell? ⟨w.heap.size + 1, 0, none⟩ = some (.slice bo M.length bcap) := by
    have : (w1.setRow w.heap.size #[.int .i64 n0, .int .i64 n1, .int .i64 n2, .int .i64 n3, .int .i64 n4, .int .i64 n5, .int .i64 n6, .int .i64 n7, .int .i64 n8, .int .i64 n9, .int .i64 n10, .int .i64 n11, .int .i64 n12, .int .i64 n13, .int .i64 n14, .int .i64 n15, .int .i64 n16]).cell? ⟨w.heap.size + 1, 0, none⟩ = some (.slice bo M.length bcap) := by rw [cell_of_row _ _ 0 _ _ _ q1]; rfl
    exact this
  have HI : Hid (IntsAt (w1.setRow w.heap.size #[.int .i64 n0, .int .i64 n1, .int .i64 n2, .int .i64 n3, .int .i64 n4, .int .i64 n5, .int .i64 n6, .int .i64 n7, .int .i64 n8, .int .i64 n9, .int .i64 n10, .int .i64 n11, .int .i64 n12, .int .i64 n13, .int .i64 n14, .int .i64 n15, .int .i64 n16]).drew bo M) := Lib.hid (b_ints q2 hT2.hN)
  clear hF hT2 q1 q2 q3 q4 HA1 HT1
  go_cut [5, 6] from 12 to 15 (fun v b wc => b = .bool true ∧ (∃ co ccap, v = .slice co M.length ccap ∧ IntsAt wc co M ∧ ∀ g off, co = some ⟨g, off, none⟩ → w.heap.size ≤ g) ∧ AAt wc w.heap.size n0 n1 n2 n3 n4 n5 n6 n7 n8 n9 n10 n11 n12 n13 n14 n15 n16 ∧ Below w.heap.size w wc)
  case first =>
    as_aux_lemma =>
      refine wp_region_noPanic ?_
      refine wp_region_any (by kernel_rfl) ?_
      change wpAny _ _ _ _ _ _ _ (World.drew _)
      generalize (w1.setRow w.heap.size #[.int .i64 n0, .int .i64 n1, .int .i64 n2, .int .i64 n3, .int .i64 n4, .int .i64 n5, .int .i64 n6, .int .i64 n7, .int .i64 n8, .int .i64 n9, .int .i64 n10, .int .i64 n11, .int .i64 n12, .int .i64 n13, .int .i64 n14, .int .i64 n15, .int .i64 n16]).drew = wd at *
      refine wpAny_take (i := 1) (v := .pointer (some ⟨w.heap.size + 1, 0, none⟩)) rfl (by kernel_rfl) (by kernel_rfl) (by kernel_rfl) (fun _ _ _ h => h) (Or.inl ⟨by rfl, fun w => by go_simp⟩) ?_
      refine wpAny_ready (rs := [0, 2]) (by kernel_rfl) (by simp) ?_
      refine AllReady.cons rfl (fun K1 hK1 => ?_) (AllReady.cons rfl (fun K1 hK1 => ?_) AllReady.nil)
      · rw [if_pos (by rfl)]
        refine load28 HAd.out _ rfl rfl ?_
        refine hK1 _ _ ?_
        clear hK1 K1
        refine wpAny_ready (rs := [2]) (by kernel_rfl) (by simp) ?_
        refine AllReady.cons rfl (fun K2 hK2 => ?_) AllReady.nil
        go_simp
        refine hK2 _ _ ?_
        clear hK2 K2
        refine wpAny_ready (rs := [3]) (by kernel_rfl) (by simp) ?_
        refine AllReady.cons rfl (fun K3 hK3 => ?_) AllReady.nil
        refine step_app (by rfl) _ _ (by rfl) wd.heap.size _ [] (by rfl) (own_none _ _) bo M bcap (by rfl) HI.out (by simpa using hsz) (Nat.le_refl _) ?_
        intro v' w3 hT3
        have HO : Hid (∃ co ccap, v' = .slice co M.length ccap ∧ IntsAt w3 co M ∧ ∀ g off, co = some ⟨g, off, none⟩ → wd.heap.size ≤ g) := Lib.hid (by
          obtain ⟨co, ccap, h1, h2, _⟩ := ints_of_own hT3.own
          exact ⟨co, ccap, h1, h2, fun g off e => (own_lt hT3.own (by rw [h1, e]; rfl)).1⟩)
        have hb3 : Below wd.heap.size wd w3 := hT3.below (own_none _ wd.heap.size) (Below.refl _ _) (Nat.le_refl _)
        have HA3 := Lib.hid (HAd.out.keep hb3)
        have HB3 := Lib.hid (HBd.out.trans (hb3.mono HBd.out.size))
        clear hb3 hT3
        refine hK3 _ _ ?_
        clear hK3 K3
        refine wpAny_ready (rs := [4]) (by kernel_rfl) (by simp) ?_
        refine AllReady.cons rfl (fun K4 hK4 => ?_) AllReady.nil
        rw [if_pos (by rfl)]
        refine store28_at w.heap.size n0 n1 n2 n3 n4 n5 n6 n7 n8 n9 n10 n11 n12 n13 n14 n15 n16 n0 n1 n2 n3 n4 n5 n6 n7 n8 n9 n10 n11 n12 n13 n14 n15 n16 HA3.out _ _ rfl rfl rfl ?_
        have HA4 := Lib.hid (HA3.out.set n0 n1 n2 n3 n4 n5 n6 n7 n8 n9 n10 n11 n12 n13 n14 n15 n16)
        have hF4 := set_row_fq HA3.out #[.int .i64 n0, .int .i64 n1, .int .i64 n2, .int .i64 n3, .int .i64 n4, .int .i64 n5, .int .i64 n6, .int .i64 n7, .int .i64 n8, .int .i64 n9, .int .i64 n10, .int .i64 n11, .int .i64 n12, .int .i64 n13, .int .i64 n14, .int .i64 n15, .int .i64 n16]
        have HB4 := Lib.hid (hF4.below HB3.out (Nat.le_refl _) HB3.out.size)
        have hlA := HAd.out.lt
        have HO4 : Hid (∃ co ccap, v' = .slice co M.length ccap ∧ IntsAt (w3.setRow w.heap.size #[.int .i64 n0, .int .i64 n1, .int .i64 n2, .int .i64 n3, .int .i64 n4, .int .i64 n5, .int .i64 n6, .int .i64 n7, .int .i64 n8, .int .i64 n9, .int .i64 n10, .int .i64 n11, .int .i64 n12, .int .i64 n13, .int .i64 n14, .int .i64 n15, .int .i64 n16]) co M ∧ ∀ g off, co = some ⟨g, off, none⟩ → w.heap.size ≤ g) := Lib.hid (by
          obtain ⟨co, ccap, e, h, hge⟩ := HO.out
          refine ⟨co, ccap, e, ?_, fun g off e1 => by have := hge g off e1; omega⟩
          intro i hi
          obtain ⟨g, off, e1, e2, e3⟩ := h i hi
          have hne : g ≠ w.heap.size := by
            have := hge g off e1
            omega
          exact ⟨g, off, e1, Nat.lt_of_lt_of_le e2 hF4.size, (World.cell?_of_block (a := ⟨g, off + i, none⟩) (hF4.block g e2 hne)).trans e3⟩)
        clear HA3 HB3 HO hF4
        refine hK4 _ _ ?_
        clear hK4 K4
        refine wpAny_ready (rs := [5]) (by kernel_rfl) (by simp) ?_
        refine AllReady.cons rfl (fun K5 hK5 => ?_) AllReady.nil
        go_simp
        refine hK5 _ _ ?_
        clear hK5 K5
        refine wpAny_ready (rs := [6]) (by kernel_rfl) (by simp) ?_
        refine AllReady.cons rfl (fun K6 hK6 => ?_) AllReady.nil
        go_simp
        refine hK6 _ _ ?_
        clear hK6 K6
        refine wpAny_done (by kernel_rfl) ?_ _
        refine NoPanic.normal ?_
        go_wp2
        go_meet
        exact ⟨rfl, HO4.out, HA4.out, HB4.out⟩
      · go_simp
        refine hK1 _ _ ?_
        clear hK1 K1
        refine wpAny_ready (rs := [0, 3]) (by kernel_rfl) (by simp) ?_
        refine AllReady.cons rfl (fun K2 hK2 => ?_) (AllReady.cons rfl (fun K2 hK2 => ?_) AllReady.nil)
        · rw [if_pos (by rfl)]
          refine load28 HAd.out _ rfl rfl ?_
          refine hK2 _ _ ?_
          clear hK2 K2
          refine wpAny_ready (rs := [3]) (by kernel_rfl) (by simp) ?_
          refine AllReady.cons rfl (fun K3 hK3 => ?_) AllReady.nil
          refine step_app (by rfl) _ _ (by rfl) wd.heap.size _ [] (by rfl) (own_none _ _) bo M bcap (by rfl) HI.out (by simpa using hsz) (Nat.le_refl _) ?_
          intro v' w3 hT3
          have HO : Hid (∃ co ccap, v' = .slice co M.length ccap ∧ IntsAt w3 co M ∧ ∀ g off, co = some ⟨g, off, none⟩ → wd.heap.size ≤ g) := Lib.hid (by
            obtain ⟨co, ccap, h1, h2, _⟩ := ints_of_own hT3.own
            exact ⟨co, ccap, h1, h2, fun g off e => (own_lt hT3.own (by rw [h1, e]; rfl)).1⟩)
          have hb3 : Below wd.heap.size wd w3 := hT3.below (own_none _ wd.heap.size) (Below.refl _ _) (Nat.le_refl _)
          have HA3 := Lib.hid (HAd.out.keep hb3)
          have HB3 := Lib.hid (HBd.out.trans (hb3.mono HBd.out.size))
          clear hb3 hT3
          refine hK3 _ _ ?_
          clear hK3 K3
          refine wpAny_ready (rs := [4]) (by kernel_rfl) (by simp) ?_
          refine AllReady.cons rfl (fun K4 hK4 => ?_) AllReady.nil
          rw [if_pos (by rfl)]
          refine store28_at w.heap.size n0 n1 n2 n3 n4 n5 n6 n7 n8 n9 n10 n11 n12 n13 n14 n15 n16 n0 n1 n2 n3 n4 n5 n6 n7 n8 n9 n10 n11 n12 n13 n14 n15 n16 HA3.out _ _ rfl rfl rfl ?_
          have HA4 := Lib.hid (HA3.out.set n0 n1 n2 n3 n4 n5 n6 n7 n8 n9 n10 n11 n12 n13 n14 n15 n16)
          have hF4 := set_row_fq HA3.out #[.int .i64 n0, .int .i64 n1, .int .i64 n2, .int .i64 n3, .int .i64 n4, .int .i64 n5, .int .i64 n6, .int .i64 n7, .int .i64 n8, .int .i64 n9, .int .i64 n10, .int .i64 n11, .int .i64 n12, .int .i64 n13, .int .i64 n14, .int .i64 n15, .int .i64 n16]
          have HB4 := Lib.hid (hF4.below HB3.out (Nat.le_refl _) HB3.out.size)
          have hlA := HAd.out.lt
          have HO4 : Hid (∃ co ccap, v' = .slice co M.length ccap ∧ IntsAt (w3.setRow w.heap.size #[.int .i64 n0, .int .i64 n1, .int .i64 n2, .int .i64 n3, .int .i64 n4, .int .i64 n5, .int .i64 n6, .int .i64 n7, .int .i64 n8, .int .i64 n9, .int .i64 n10, .int .i64 n11, .int .i64 n12, .int .i64 n13, .int .i64 n14, .int .i64 n15, .int .i64 n16]) co M ∧ ∀ g off, co = some ⟨g, off, none⟩ → w.heap.size ≤ g) := Lib.hid (by
            obtain ⟨co, ccap, e, h, hge⟩ := HO.out
            refine ⟨co, ccap, e, ?_, fun g off e1 => by have := hge g off e1; omega⟩
            intro i hi
            obtain ⟨g, off, e1, e2, e3⟩ := h i hi
            have hne : g ≠ w.heap.size := by
              have := hge g off e1
              omega
            exact ⟨g, off, e1, Nat.lt_of_lt_of_le e2 hF4.size, (World.cell?_of_block (a := ⟨g, off + i, none⟩) (hF4.block g e2 hne)).trans e3⟩)
          clear HA3 HB3 HO hF4
          refine hK4 _ _ ?_
          clear hK4 K4
          refine wpAny_ready (rs := [5]) (by kernel_rfl) (by simp) ?_
          refine AllReady.cons rfl (fun K5 hK5 => ?_) AllReady.nil
          go_simp
          refine hK5 _ _ ?_
          clear hK5 K5
          refine wpAny_ready (rs := [6]) (by kernel_rfl) (by simp) ?_
          refine AllReady.cons rfl (fun K6 hK6 => ?_) AllReady.nil
          go_simp
          refine hK6 _ _ ?_
          clear hK6 K6
          refine wpAny_done (by kernel_rfl) ?_ _
          refine NoPanic.normal ?_
          go_wp2
          go_meet
          exact ⟨rfl, HO4.out, HA4.out, HB4.out⟩
        · refine step_app (by rfl) _ _ (by rfl) wd.heap.size _ [] (by rfl) (own_none _ _) bo M bcap (by rfl) HI.out (by simpa using hsz) (Nat.le_refl _) ?_
          intro v' w3 hT3
          have HO : Hid (∃ co ccap, v' = .slice co M.length ccap ∧ IntsAt w3 co M ∧ ∀ g off, co = some ⟨g, off, none⟩ → wd.heap.size ≤ g) := Lib.hid (by
            obtain ⟨co, ccap, h1, h2, _⟩ := ints_of_own hT3.own
            exact ⟨co, ccap, h1, h2, fun g off e => (own_lt hT3.own (by rw [h1, e]; rfl)).1⟩)
          have hb3 : Below wd.heap.size wd w3 := hT3.below (own_none _ wd.heap.size) (Below.refl _ _) (Nat.le_refl _)
          have HA3 := Lib.hid (HAd.out.keep hb3)
          have HB3 := Lib.hid (HBd.out.trans (hb3.mono HBd.out.size))
          clear hb3 hT3
          refine hK2 _ _ ?_
          clear hK2 K2
          refine wpAny_ready (rs := [0]) (by kernel_rfl) (by simp) ?_
          refine AllReady.cons rfl (fun K3 hK3 => ?_) AllReady.nil
          rw [if_pos (by rfl)]
          refine load28 HA3.out _ rfl rfl ?_
          refine hK3 _ _ ?_
          clear hK3 K3
          refine wpAny_ready (rs := [4]) (by kernel_rfl) (by simp) ?_
          refine AllReady.cons rfl (fun K4 hK4 => ?_) AllReady.nil
          rw [if_pos (by rfl)]
          refine store28_at w.heap.size n0 n1 n2 n3 n4 n5 n6 n7 n8 n9 n10 n11 n12 n13 n14 n15 n16 n0 n1 n2 n3 n4 n5 n6 n7 n8 n9 n10 n11 n12 n13 n14 n15 n16 HA3.out _ _ rfl rfl rfl ?_
          have HA4 := Lib.hid (HA3.out.set n0 n1 n2 n3 n4 n5 n6 n7 n8 n9 n10 n11 n12 n13 n14 n15 n16)
          have hF4 := set_row_fq HA3.out #[.int .i64 n0, .int .i64 n1, .int .i64 n2, .int .i64 n3, .int .i64 n4, .int .i64 n5, .int .i64 n6, .int .i64 n7, .int .i64 n8, .int .i64 n9, .int .i64 n10, .int .i64 n11, .int .i64 n12, .int .i64 n13, .int .i64 n14, .int .i64 n15, .int .i64 n16]
          have HB4 := Lib.hid (hF4.below HB3.out (Nat.le_refl _) HB3.out.size)
          have hlA := HAd.out.lt
          have HO4 : Hid (∃ co ccap, v' = .slice co M.length ccap ∧ IntsAt (w3.setRow w.heap.size #[.int .i64 n0, .int .i64 n1, .int .i64 n2, .int .i64 n3, .int .i64 n4, .int .i64 n5, .int .i64 n6, .int .i64 n7, .int .i64 n8, .int .i64 n9, .int .i64 n10, .int .i64 n11, .int .i64 n12, .int .i64 n13, .int .i64 n14, .int .i64 n15, .int .i64 n16]) co M ∧ ∀ g off, co = some ⟨g, off, none⟩ → w.heap.size ≤ g) := Lib.hid (by
            obtain ⟨co, ccap, e, h, hge⟩ := HO.out
            refine ⟨co, ccap, e, ?_, fun g off e1 => by have := hge g off e1; omega⟩
            intro i hi
            obtain ⟨g, off, e1, e2, e3⟩ := h i hi
            have hne : g ≠ w.heap.size := by
              have := hge g off e1
              omega
            exact ⟨g, off, e1, Nat.lt_of_lt_of_le e2 hF4.size, (World.cell?_of_block (a := ⟨g, off + i, none⟩) (hF4.block g e2 hne)).trans e3⟩)
          clear HA3 HB3 HO hF4
          refine hK4 _ _ ?_
          clear hK4 K4
          refine wpAny_ready (rs := [5]) (by kernel_rfl) (by simp) ?_
          refine AllReady.cons rfl (fun K5 hK5 => ?_) AllReady.nil
          go_simp
          refine hK5 _ _ ?_
          clear hK5 K5
          refine wpAny_ready (rs := [6]) (by kernel_rfl) (by simp) ?_
          refine AllReady.cons rfl (fun K6 hK6 => ?_) AllReady.nil
          go_simp
          refine hK6 _ _ ?_
          clear hK6 K6
          refine wpAny_done (by kernel_rfl) ?_ _
          refine NoPanic.normal ?_
          go_wp2
          go_meet
          exact ⟨rfl, HO4.out, HA4.out, HB4.out⟩
  case rest =>
    obtain ⟨rfl, ⟨co, ccap, rfl, hI, hge⟩, hA, hB⟩ := hcut
    have HGE := Lib.hid hge
    clear hge
    have HI4 := Lib.hid hI
    have HB4 := Lib.hid hB
    have HA4 := Lib.hid hA
    clear hI hB hA HAd HBd c0 HI
    go_wp2
    refine leaves_cons (f := 48) (args := #[]) (by simp) (by simp [go_sem]) ?_
    refine (idle26 wc).mono ?_
    rintro e u' w2 ⟨rfl, rfl, rfl⟩
    have hL := run_loadVar_row (P := Tryd.prog) w2 w.heap.size 41 41 _ (0, 0) _ HA4.out Tryd.underlying41 rfl (by kernel_rfl)
    have hfin := HB4.out
    have hI := HI4.out
    have hge := HGE.out
    clear HI4 HB4 HA4 hsm HGE
    generalize w.heap.size = A at *
    simp [Leaves, settle, results, Tryd.results34, hL, asAddr]
    exact ⟨⟨hI, hge⟩, hfin⟩
end Go.Proofs.YtakfpfnaogdmlaaDoor.A
