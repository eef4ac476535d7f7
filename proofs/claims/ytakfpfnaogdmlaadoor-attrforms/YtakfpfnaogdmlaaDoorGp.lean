/-
  Get and Put of an Attr, and lists of numbers that are alike. Their condition: the numbers lie in memory.
-/
import Derived.Test.YtakfpfnaogdmlaaDoorTt
namespace Go.Proofs.YtakfpfnaogdmlaaDoor.A
open Go.RowKit
theorem results_31 {P : Program} {fn : Func} {p u v : Tmp} {ty : TypeId} (h : fn.results = #[.cell p ty, .tmp u, .tmp v]) (tmps : Array Value) (w : World) {a : Addr} (hp : tmps.getD p undef = .pointer (some a)) {x y z : Value} (hL : (loadVar ty a).run P w = .ok x w)
    (hu : tmps.getD u undef = y) (hv : tmps.getD v undef = z) : (results fn tmps).run P w = .ok (.tuple #[x, y, z]) w := by
  subst hu hv
  have hp' : tmps[p]?.getD undef = .pointer (some a) := by simpa using hp
  simp [results, h, hp', asAddr, hL]
set_option maxRecDepth 100000 in
set_option maxHeartbeats 4000000 in
theorem get_no (n0 n1 n2 n3 n4 n5 n6 n7 n8 n9 n10 n11 n12 n13 n14 n15 : Int) (ao : Option Addr) (cap : Nat) (w : World) (hI : IntsAt w ao [n0, n1, n2, n3, n4, n5, n6, n7, n8, n9, n10, n11, n12, n13, n14, n15]) (hc : 16 ≤ cap) (hc2 : cap ≤ 9223372036854775807) :
    Calls Tryd.prog 11 #[.slice ao 16 cap] w fun r w' => r = .returned (.tuple #[.agg #[.int .i64 0, .int .i64 0, .int .i64 0, .int .i64 0, .int .i64 0, .int .i64 0, .int .i64 0, .int .i64 0, .int .i64 0, .int .i64 0, .int .i64 0, .int .i64 0, .int .i64 0, .int .i64 0, .int .i64 0, .int .i64 0, .int .i64 0], .slice none 0 0, .bool false]) ∧ Below w.heap.size w w' := by
  have HI := Lib.hid (hI.below ((Below.refl _ w).alloc (Nat.le_refl _) (.cells #[.int .i64 0, .int .i64 0, .int .i64 0, .int .i64 0, .int .i64 0, .int .i64 0, .int .i64 0, .int .i64 0, .int .i64 0, .int .i64 0, .int .i64 0, .int .i64 0, .int .i64 0, .int .i64 0, .int .i64 0, .int .i64 0, .int .i64 0] 41)))
  have HA := Lib.hid (AAt.new w 0 0 0 0 0 0 0 0 0 0 0 0 0 0 0 0 0)
  have HB := Lib.hid ((Below.refl w.heap.size w).alloc (Nat.le_refl _) (.cells #[.int .i64 0, .int .i64 0, .int .i64 0, .int .i64 0, .int .i64 0, .int .i64 0, .int .i64 0, .int .i64 0, .int .i64 0, .int .i64 0, .int .i64 0, .int .i64 0, .int .i64 0, .int .i64 0, .int .i64 0, .int .i64 0, .int .i64 0] 41))
  clear hI
  go_enter Tryd.func11, Tryd.ntmps11
  go_wp2_with fail
  generalize w.alloc (.cells #[.int .i64 0, .int .i64 0, .int .i64 0, .int .i64 0, .int .i64 0, .int .i64 0, .int .i64 0, .int .i64 0, .int .i64 0, .int .i64 0, .int .i64 0, .int .i64 0, .int .i64 0, .int .i64 0, .int .i64 0, .int .i64 0, .int .i64 0] 41) = W at *
  refine (taken_no n0 n1 n2 n3 n4 n5 n6 n7 n8 n9 n10 n11 n12 n13 n14 n15 ao cap W HI.out hc hc2).mono ?_
  rintro r w1 ⟨rfl, hB⟩
  have HA1 := Lib.hid (HA.out.keep hB)
  have HB1 := Lib.hid (HB.out.trans (hB.mono HB.out.size))
  clear hB HA HB HI
  go_wp2_with (refine store28_l rfl w.heap.size 0 0 0 0 0 0 0 0 0 0 0 0 0 0 0 0 0 0 0 0 0 0 0 0 0 0 0 0 0 0 0 0 0 0 HA1.out _ _ rfl rfl rfl ?_)
  have HS := Lib.hid (HA1.out.set 0 0 0 0 0 0 0 0 0 0 0 0 0 0 0 0 0)
  have HF := Lib.hid ((set_row_fq HA1.out #[.int .i64 0, .int .i64 0, .int .i64 0, .int .i64 0, .int .i64 0, .int .i64 0, .int .i64 0, .int .i64 0, .int .i64 0, .int .i64 0, .int .i64 0, .int .i64 0, .int .i64 0, .int .i64 0, .int .i64 0, .int .i64 0, .int .i64 0]).below HB1.out (Nat.le_refl _) HB1.out.size)
  have hL := run_loadVar_row (P := Tryd.prog) _ w.heap.size 41 41 _ (0, 0) _ HS.out Tryd.underlying41 rfl (by kernel_rfl)
  clear HA1 HB1 HS
  generalize w1.setRow w.heap.size #[.int .i64 0, .int .i64 0, .int .i64 0, .int .i64 0, .int .i64 0, .int .i64 0, .int .i64 0, .int .i64 0, .int .i64 0, .int .i64 0, .int .i64 0, .int .i64 0, .int .i64 0, .int .i64 0, .int .i64 0, .int .i64 0, .int .i64 0] = W2 at *
  refine bodyPost_ret (results_31 (by rfl) _ _ (by rfl) hL (by rfl) (by rfl)) rfl ⟨rfl, HF.out⟩
set_option maxRecDepth 100000 in
set_option maxHeartbeats 4000000 in
theorem get_ok (n0 n1 n2 n3 n4 n5 n6 n7 n8 n9 n10 n11 n12 n13 n14 n15 n16 : Int) (M : List Int) (ao : Option Addr) (cap : Nat) (w : World) (hI : IntsAt w ao (n0 :: n1 :: n2 :: n3 :: n4 :: n5 :: n6 :: n7 :: n8 :: n9 :: n10 :: n11 :: n12 :: n13 :: n14 :: n15 :: n16 :: M)) (hc : M.length + 17 ≤ cap) (hc2 : cap ≤ 9223372036854775807) (hsz : M.length * 8 ≤ 140737488355328) :
    Calls Tryd.prog 11 #[.slice ao (M.length + 17) cap] w fun r w' => (∃ bo bcap, r = .returned (.tuple #[.agg #[.int .i64 n0, .int .i64 n1, .int .i64 n2, .int .i64 n3, .int .i64 n4, .int .i64 n5, .int .i64 n6, .int .i64 n7, .int .i64 n8, .int .i64 n9, .int .i64 n10, .int .i64 n11, .int .i64 n12, .int .i64 n13, .int .i64 n14, .int .i64 n15, .int .i64 n16], .slice bo M.length bcap, .bool true]) ∧ IntsAt w' bo M ∧ ∀ g off, bo = some ⟨g, off, none⟩ → w.heap.size ≤ g) ∧ Below w.heap.size w w' := by
  have HI := Lib.hid (hI.below ((Below.refl _ w).alloc (Nat.le_refl _) (.cells #[.int .i64 0, .int .i64 0, .int .i64 0, .int .i64 0, .int .i64 0, .int .i64 0, .int .i64 0, .int .i64 0, .int .i64 0, .int .i64 0, .int .i64 0, .int .i64 0, .int .i64 0, .int .i64 0, .int .i64 0, .int .i64 0, .int .i64 0] 41)))
  have HA := Lib.hid (AAt.new w 0 0 0 0 0 0 0 0 0 0 0 0 0 0 0 0 0)
  have HB := Lib.hid ((Below.refl w.heap.size w).alloc (Nat.le_refl _) (.cells #[.int .i64 0, .int .i64 0, .int .i64 0, .int .i64 0, .int .i64 0, .int .i64 0, .int .i64 0, .int .i64 0, .int .i64 0, .int .i64 0, .int .i64 0, .int .i64 0, .int .i64 0, .int .i64 0, .int .i64 0, .int .i64 0, .int .i64 0] 41))
  clear hI
  go_enter Tryd.func11, Tryd.ntmps11
  go_wp2_with fail
  have hne : w.heap.size < (w.alloc (.cells #[.int .i64 0, .int .i64 0, .int .i64 0, .int .i64 0, .int .i64 0, .int .i64 0, .int .i64 0, .int .i64 0, .int .i64 0, .int .i64 0, .int .i64 0, .int .i64 0, .int .i64 0, .int .i64 0, .int .i64 0, .int .i64 0, .int .i64 0] 41)).heap.size := HA.out.lt
  generalize w.alloc (.cells #[.int .i64 0, .int .i64 0, .int .i64 0, .int .i64 0, .int .i64 0, .int .i64 0, .int .i64 0, .int .i64 0, .int .i64 0, .int .i64 0, .int .i64 0, .int .i64 0, .int .i64 0, .int .i64 0, .int .i64 0, .int .i64 0, .int .i64 0] 41) = W at *
  refine (taken_ok n0 n1 n2 n3 n4 n5 n6 n7 n8 n9 n10 n11 n12 n13 n14 n15 n16 M ao cap W HI.out hc hc2 hsz).mono ?_
  rintro r w1 ⟨⟨bo, bcap, rfl, hJ, hge⟩, hB⟩
  have HA1 := Lib.hid (HA.out.keep hB)
  have HB1 := Lib.hid (HB.out.trans (hB.mono HB.out.size))
  have HJ := Lib.hid hJ
  clear hB HA HB HI hJ
  go_wp2_with (refine store28_l rfl w.heap.size n0 n1 n2 n3 n4 n5 n6 n7 n8 n9 n10 n11 n12 n13 n14 n15 n16 0 0 0 0 0 0 0 0 0 0 0 0 0 0 0 0 0 HA1.out _ _ rfl rfl rfl ?_)
  have HS := Lib.hid (HA1.out.set n0 n1 n2 n3 n4 n5 n6 n7 n8 n9 n10 n11 n12 n13 n14 n15 n16)
  have hF := set_row_fq HA1.out #[.int .i64 n0, .int .i64 n1, .int .i64 n2, .int .i64 n3, .int .i64 n4, .int .i64 n5, .int .i64 n6, .int .i64 n7, .int .i64 n8, .int .i64 n9, .int .i64 n10, .int .i64 n11, .int .i64 n12, .int .i64 n13, .int .i64 n14, .int .i64 n15, .int .i64 n16]
  have HF := Lib.hid (hF.below HB1.out (Nat.le_refl _) HB1.out.size)
  have HG := Lib.hid (show IntsAt (w1.setRow w.heap.size #[.int .i64 n0, .int .i64 n1, .int .i64 n2, .int .i64 n3, .int .i64 n4, .int .i64 n5, .int .i64 n6, .int .i64 n7, .int .i64 n8, .int .i64 n9, .int .i64 n10, .int .i64 n11, .int .i64 n12, .int .i64 n13, .int .i64 n14, .int .i64 n15, .int .i64 n16]) bo M from fun i hi => by
    obtain ⟨g, off, e1, e2, e3⟩ := HJ.out i hi
    have := hge g off e1
    exact ⟨g, off, e1, Nat.lt_of_lt_of_le e2 hF.size, (World.cell?_of_block (a := ⟨g, off + i, none⟩) (hF.block g e2 (by omega))).trans e3⟩)
  have hge' : ∀ g off, bo = some ⟨g, off, none⟩ → w.heap.size ≤ g := fun g off e => by have := hge g off e; omega
  have HGE := Lib.hid hge'
  have hL := run_loadVar_row (P := Tryd.prog) _ w.heap.size 41 41 _ (0, 0) _ HS.out Tryd.underlying41 rfl (by kernel_rfl)
  clear HA1 HB1 HS HJ hF hge hge'
  generalize w1.setRow w.heap.size #[.int .i64 n0, .int .i64 n1, .int .i64 n2, .int .i64 n3, .int .i64 n4, .int .i64 n5, .int .i64 n6, .int .i64 n7, .int .i64 n8, .int .i64 n9, .int .i64 n10, .int .i64 n11, .int .i64 n12, .int .i64 n13, .int .i64 n14, .int .i64 n15, .int .i64 n16] = W2 at *
  go_wp2
  refine bodyPost_ret (results_31 (by rfl) _ _ (by rfl) hL (by rfl) (by rfl)) rfl ⟨⟨bo, bcap, rfl, HG.out, HGE.out⟩, HF.out⟩

theorem ints_row {w : World} {g : Nat} {t : TypeId} {fr : Nat × Nat} (L : List Int) (h : w.heap[g]? = some (.cells (ints L).toArray t fr)) : IntsAt w (some ⟨g, 0, none⟩) L := by
  intro i hi
  refine ⟨g, 0, rfl, (Array.getElem?_eq_some_iff.1 h).1, ?_⟩
  rw [cell_of_row w g _ _ _ _ h]
  simp [ints, List.getElem?_eq_getElem hi]
theorem IntsAt.pre {w : World} {ao : Option Addr} {A B : List Int} (h : IntsAt w ao (A ++ B)) : IntsAt w ao A := by
  intro i hi
  obtain ⟨g, off, e1, e2, e3⟩ := h i (by rw [List.length_append]; omega)
  exact ⟨g, off, e1, e2, by rw [e3, List.getElem_append_left hi]⟩
set_option maxRecDepth 100000 in
set_option maxHeartbeats 4000000 in
theorem put_any (n0 n1 n2 n3 n4 n5 n6 n7 n8 n9 n10 n11 n12 n13 n14 n15 n16 : Int) (w : World) : Calls Tryd.prog 12 #[.agg #[.int .i64 n0, .int .i64 n1, .int .i64 n2, .int .i64 n3, .int .i64 n4, .int .i64 n5, .int .i64 n6, .int .i64 n7, .int .i64 n8, .int .i64 n9, .int .i64 n10, .int .i64 n11, .int .i64 n12, .int .i64 n13, .int .i64 n14, .int .i64 n15, .int .i64 n16]] w fun r w' => r = .returned (.slice (some ⟨w.heap.size + 1, 0, none⟩) 17 17) ∧ IntsAt w' (some ⟨w.heap.size + 1, 0, none⟩) [n0, n1, n2, n3, n4, n5, n6, n7, n8, n9, n10, n11, n12, n13, n14, n15, n16] ∧ Below w.heap.size w w' := by
  obtain ⟨c0, c1, c2, c3, c4, c5, c6, c7, c8, c9, c10, c11, c12, c13, c14, c15, c16⟩ := (AAt.new w n0 n1 n2 n3 n4 n5 n6 n7 n8 n9 n10 n11 n12 n13 n14 n15 n16).all
  have HB := Lib.hid ((Below.refl w.heap.size w).alloc (Nat.le_refl _) (.cells #[.int .i64 n0, .int .i64 n1, .int .i64 n2, .int .i64 n3, .int .i64 n4, .int .i64 n5, .int .i64 n6, .int .i64 n7, .int .i64 n8, .int .i64 n9, .int .i64 n10, .int .i64 n11, .int .i64 n12, .int .i64 n13, .int .i64 n14, .int .i64 n15, .int .i64 n16] 41))
  have hs : (w.alloc (.cells #[.int .i64 n0, .int .i64 n1, .int .i64 n2, .int .i64 n3, .int .i64 n4, .int .i64 n5, .int .i64 n6, .int .i64 n7, .int .i64 n8, .int .i64 n9, .int .i64 n10, .int .i64 n11, .int .i64 n12, .int .i64 n13, .int .i64 n14, .int .i64 n15, .int .i64 n16] 41)).heap.size = w.heap.size + 1 := by simp
  go_enter Tryd.func12, Tryd.ntmps12
  go_wp2_with fail
  generalize w.alloc (.cells #[.int .i64 n0, .int .i64 n1, .int .i64 n2, .int .i64 n3, .int .i64 n4, .int .i64 n5, .int .i64 n6, .int .i64 n7, .int .i64 n8, .int .i64 n9, .int .i64 n10, .int .i64 n11, .int .i64 n12, .int .i64 n13, .int .i64 n14, .int .i64 n15, .int .i64 n16] 41) = W at *
  go_wp2
  go_ret
  refine ⟨rfl, ?_, HB.out.alloc HB.out.size _⟩
  refine ints_row (t := 3) (fr := (0, 0)) [n0, n1, n2, n3, n4, n5, n6, n7, n8, n9, n10, n11, n12, n13, n14, n15, n16] ?_
  have := heap_alloc_new W (.cells #[.int .i64 n0, .int .i64 n1, .int .i64 n2, .int .i64 n3, .int .i64 n4, .int .i64 n5, .int .i64 n6, .int .i64 n7, .int .i64 n8, .int .i64 n9, .int .i64 n10, .int .i64 n11, .int .i64 n12, .int .i64 n13, .int .i64 n14, .int .i64 n15, .int .i64 n16] 3)
  rw [hs] at this
  exact this
@[go_sem] theorem eq26 (a b a' b' : Int) (m : Nat) (w : World) : (Op.equalIn (m + 1 + 1) 39 (.agg #[.int .i64 a, .int .i64 b]) (.agg #[.int .i64 a', .int .i64 b'])).run Tryd.prog w = .ok (a == a' && b == b') w := by
  have u3 := Tryd.underlying3
  have hS : Tryd.prog.underlying 39 = some (.struct (Tryd.prog.fieldsOf 39)) := by kernel_rfl
  have hp : Tryd.prog.stoodInHeld 39 = false := by kernel_rfl
  rw [run_equalIn_agg w (m + 1) 39 _ _ hS hp]
  simp only [Program.fieldsOf, Tryd.underlying39]
  go_simp
  by_cases h1 : a = a' <;> by_cases h2 : b = b' <;> simp [h1, h2]
end Go.Proofs.YtakfpfnaogdmlaaDoor.A
