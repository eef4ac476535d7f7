/-
  NameSillies' walk: it answers true, and makes new blocks alone. Its conditions: the numbers are ints; the table of powers is laid.
-/
import Derived.Test.YtmmfmmjjpbfmeaaDoorDg
import Derived.Deep.DeepCutAuto
namespace Go.Proofs.YtmmfmmjjpbfmeaaDoor
open Go.RowKit
def Pw (w : World) : Prop := Lib.TabIs Tryd.prog w "internal/strconv.uint64pow10" .u64 Lib.pow10Tab
theorem Pw.below {w w' : World} (h : Pw w) (hb : Below w.heap.size w w') : Pw w' := by
  unfold Pw Lib.TabIs World.var? at h ⊢
  rw [show Tryd.prog.globalNamed "internal/strconv.uint64pow10" = some 1 from by kernel_rfl] at h ⊢
  simp only [Option.bind_some] at h ⊢
  have hlt : 1 < w.heap.size := by
    rcases Nat.lt_or_ge 1 w.heap.size with h' | h'
    · exact h'
    · rw [Array.getElem?_eq_none h'] at h; cases h
  rw [hb.block 1 hlt]
  exact h
theorem Pw.drew {w : World} (h : Pw w) : Pw w.drew := h
theorem grow_below {w : World} (k : Nat) (os : Array Obj) : Below w.heap.size w (Go.Sort.grow (w.drewN k) os) := by
  refine ⟨rfl, rfl, rfl, ?_, fun j hj => ?_⟩
  · show w.heap.size ≤ (w.heap ++ os).size
    simp
  · show (w.heap ++ os)[j]? = w.heap[j]?
    rw [Array.getElem?_append_left hj]
set_option maxRecDepth 100000 in
set_option maxHeartbeats 2000000 in
theorem silly_any (a b : Int) (ha : a ≤ 9223372036854775807) (hb : b ≤ 9223372036854775807) (w : World) (hw : Pw w) : Calls Tryd.prog 13 #[.int .i64 a, .int .i64 b] w fun e w' => e = .returned (.string (nfs (max a 0).toNat (max b 0).toNat)) ∧ Below w.heap.size w w' := by
  obtain ⟨u, hu⟩ : ∃ u : Nat, max a 0 = u := ⟨(max a 0).toNat, by omega⟩
  obtain ⟨v, hv⟩ : ∃ v : Nat, max b 0 = v := ⟨(max b 0).toNat, by omega⟩
  have hum : u ≤ 9223372036854775807 := by omega
  have hvm : v ≤ 9223372036854775807 := by omega
  have HU := Lib.hid hu
  have HV := Lib.hid hv
  rw [hu, hv, Int.toNat_natCast, Int.toNat_natCast]
  unfold nfs
  have hs1 := dec_size u hum
  have hs2 := dec_size v hvm
  have HW := Lib.hid hw
  clear hw
  go_enter Tryd.func13, Tryd.ntmps13
  go_wp2_with fail
  refine (Tryd.strconv_Itoa (u : Int) (by omega) (by omega) _ HW.out).mono ?_
  rintro e w1 ⟨rfl, k1, os1, rfl⟩
  have HB1 := Lib.hid (grow_below (w := w) k1 os1)
  generalize Go.Sort.grow (w.drewN k1) os1 = w1 at *
  rw [show (⟨(Lib.itoa (u : Int)).toArray⟩ : ByteArray) = dec u from by rw [Lib.itoa_nonneg]; rfl]
  have HW1 := Lib.hid (HW.out.below HB1.out)
  go_wp2_with fail
  refine (Tryd.strconv_Itoa (v : Int) (by omega) (by omega) _ HW1.out).mono ?_
  rintro e w2 ⟨rfl, k2, os2, rfl⟩
  have HB2 := Lib.hid (HB1.out.trans ((grow_below (w := w1) k2 os2).mono HB1.out.size))
  generalize Go.Sort.grow (w1.drewN k2) os2 = w2 at *
  rw [show (⟨(Lib.itoa (v : Int)).toArray⟩ : ByteArray) = dec v from by rw [Lib.itoa_nonneg]; rfl]
  go_wp2
  go_ret
  exact ⟨rfl, HB2.out⟩
/-- What the walk keeps: both arrays, and the table. -/
structure Sx (w0 : World) (A B : Nat) (a0 a1 b0 b1 : Int) (w : World) : Prop where
  a : w.heap[A]? = some (.cells #[.int .i64 a0, .int .i64 a1] 34 (0, 0))
  b : w.heap[B]? = some (.cells #[.int .i64 b0, .int .i64 b1] 34 (0, 0))
  low : Below w0.heap.size w0 w
  tab : Pw w
theorem Sx.step {w0 w w' : World} {A B : Nat} {a0 a1 b0 b1 : Int} (h : Sx w0 A B a0 a1 b0 b1 w) (hb : Below w.heap.size w w') : Sx w0 A B a0 a1 b0 b1 w' :=
  ⟨(hb.block _ (Array.getElem?_eq_some_iff.1 h.a).1).trans h.a, (hb.block _ (Array.getElem?_eq_some_iff.1 h.b).1).trans h.b, h.low.trans (hb.mono h.low.size), h.tab.below hb⟩
theorem Sx.drew {w0 w : World} {A B : Nat} {a0 a1 b0 b1 : Int} (h : Sx w0 A B a0 a1 b0 b1 w) : Sx w0 A B a0 a1 b0 b1 w.drew := ⟨h.a, h.b, h.low.drew, h.tab⟩
theorem Sx.all {w0 w : World} {A B : Nat} {a0 a1 b0 b1 : Int} (h : Sx w0 A B a0 a1 b0 b1 w) : w.cell? ⟨A, 0, none⟩ = some (.int .i64 a0) ∧ w.cell? ⟨A, 1, none⟩ = some (.int .i64 a1) ∧ w.cell? ⟨B, 0, none⟩ = some (.int .i64 b0) ∧ w.cell? ⟨B, 1, none⟩ = some (.int .i64 b1) := by
  refine ⟨?_, ?_, ?_, ?_⟩
  · rw [World.cell?]; simp only [h.a]; rfl
  · rw [World.cell?]; simp only [h.a]; rfl
  · rw [World.cell?]; simp only [h.b]; rfl
  · rw [World.cell?]; simp only [h.b]; rfl
theorem silly_k {w0 w : World} {A B : Nat} {a0 a1 b0 b1 : Int} (x y : Int) (s : ByteArray) (hs : nfs (max x 0).toNat (max y 0).toNat = s) (hx : x ≤ 9223372036854775807) (hy : y ≤ 9223372036854775807) (h : Sx w0 A B a0 a1 b0 b1 w) :
    Calls Tryd.prog 13 #[.int .i64 x, .int .i64 y] w fun e w' => e = .returned (.string s) ∧ Sx w0 A B a0 a1 b0 b1 w' := by
  subst hs
  exact (silly_any x y hx hy w h.tab).mono fun e w' ⟨p, q⟩ => ⟨p, h.step q⟩
theorem decimal_k {w0 w : World} {A B : Nat} {a0 a1 b0 b1 : Int} (u : Nat) (hu : u ≤ 9223372036854775807) (d : ByteArray) (hd : dec u = d) (h : Sx w0 A B a0 a1 b0 b1 w) :
    Calls Tryd.prog 14 #[.int .i64 (u : Int)] w fun e w' => e = .returned (.string d) ∧ Sx w0 A B a0 a1 b0 b1 w' := by
  subst hd
  exact (decimal_any (u + 1) u w (Nat.lt_succ_self _) hu).mono fun e w' ⟨p, q⟩ => ⟨p, h.step q⟩
theorem rcheck_k {w0 w : World} {A B : Nat} {a0 a1 b0 b1 : Int} (s : ByteArray) (hs : ck s = 0) (h : Sx w0 A B a0 a1 b0 b1 w) :
    Calls Tryd.prog 9 #[.string s] w fun e w' => e = .returned (.int .i64 0) ∧ Sx w0 A B a0 a1 b0 b1 w' := by
  rw [← hs]
  exact (rcheck_any s w).mono fun e w' ⟨p, q⟩ => ⟨p, q ▸ h⟩
set_option maxRecDepth 100000 in
set_option maxHeartbeats 4000000 in
theorem sillies_walk (a0 a1 b0 b1 : Int) (ha0 : a0 ≤ 9223372036854775807) (ha1 : a1 ≤ 9223372036854775807) (hb0 : b0 ≤ 9223372036854775807) (hb1 : b1 ≤ 9223372036854775807) (w : World) (hw : Pw w) :
    Calls Tryd.prog 4 #[.agg #[.int .i64 a0, .int .i64 a1], .agg #[.int .i64 b0, .int .i64 b1]] w fun e w' => e = .returned (.bool true) ∧ Below w.heap.size w w' := by
  go_enter Tryd.func4, Tryd.ntmps4
  go_wp2_with fail
  have hS : Sx w w.heap.size (w.heap.size + 1) a0 a1 b0 b1 ((w.alloc (.cells #[.int .i64 a0, .int .i64 a1] 34)).alloc (.cells #[.int .i64 b0, .int .i64 b1] 34)) := by
    have hB := ((Below.refl w.heap.size w).alloc (Nat.le_refl _) (.cells #[.int .i64 a0, .int .i64 a1] 34)).alloc (by simp) (.cells #[.int .i64 b0, .int .i64 b1] 34)
    refine ⟨?_, ?_, hB, hw.below hB⟩
    · exact ((World.grownBy_alloc _ _ none).block w.heap.size (by simp) (by simp)).trans (heap_alloc_new w _)
    · have := heap_alloc_new (w.alloc (.cells #[.int .i64 a0, .int .i64 a1] 34)) (.cells #[.int .i64 b0, .int .i64 b1] 34)
      rw [show (w.alloc (.cells #[.int .i64 a0, .int .i64 a1] 34)).heap.size = w.heap.size + 1 from by simp] at this
      exact this
  clear hw
  generalize ((w.alloc (.cells #[.int .i64 a0, .int .i64 a1] 34)).alloc (.cells #[.int .i64 b0, .int .i64 b1] 34)) = W at *
  generalize hA : w.heap.size = A at *
  generalize hBe : A + 1 = B at *
  refine (speaks_any W).mono ?_
  rintro e w1 ⟨rfl, hB1⟩
  have hS1 := hS.step hB1
  clear hS hB1 hBe
  obtain ⟨m0, hm0⟩ : ∃ u : Nat, max a0 0 = u := ⟨(max a0 0).toNat, by omega⟩
  obtain ⟨m1, hm1⟩ : ∃ u : Nat, max a1 0 = u := ⟨(max a1 0).toNat, by omega⟩
  obtain ⟨n0, hn0⟩ : ∃ u : Nat, max b0 0 = u := ⟨(max b0 0).toNat, by omega⟩
  obtain ⟨n1, hn1⟩ : ∃ u : Nat, max b1 0 = u := ⟨(max b1 0).toNat, by omega⟩
  have hm0m : m0 ≤ 9223372036854775807 := by omega
  have hm1m : m1 ≤ 9223372036854775807 := by omega
  obtain ⟨s, hs⟩ : ∃ s, nfs m0 m1 = s := ⟨_, rfl⟩
  obtain ⟨t, ht⟩ : ∃ s, nfs n0 n1 = s := ⟨_, rfl⟩
  have hsA : nfs (max a0 0).toNat (max a1 0).toNat = s := by rw [hm0, hm1, Int.toNat_natCast, Int.toNat_natCast, hs]
  have hsB : nfs (max b0 0).toNat (max b1 0).toNat = t := by rw [hn0, hn1, Int.toNat_natCast, Int.toNat_natCast, ht]
  have hck : ck s = 0 := by rw [← hs]; exact nfs_ck m0 m1 hm0m hm1m
  have hst : s = t ↔ m0 = n0 ∧ m1 = n1 := by
    rw [← hs, ← ht]
    exact ⟨fun h => nfs_inj h, fun ⟨h1, h2⟩ => by rw [h1, h2]⟩
  have HSA := Lib.hid hsA
  have HSB := Lib.hid hsB
  have HCK := Lib.hid hck
  have HST := Lib.hid hst
  have HS := Lib.hid hs
  have HB := Lib.hid (show a0 ≤ 9223372036854775807 ∧ a1 ≤ 9223372036854775807 ∧ b0 ≤ 9223372036854775807 ∧ b1 ≤ 9223372036854775807 ∧ m0 ≤ 9223372036854775807 ∧ m1 ≤ 9223372036854775807 from ⟨ha0, ha1, hb0, hb1, hm0m, hm1m⟩)
  clear hs ht hsA hsB hck hst ha0 ha1 hb0 hb1
  go_upto_region 3 with (fail)
  go_cut [5, 6] (fun p q wc => p = .string s ∧ q = .string t ∧ Sx w A B a0 a1 b0 b1 wc)
  case first =>
    have hkd := hS1.drew
    obtain ⟨z0, z1, z2, z3⟩ := hS1.all
    go_region_held3 (fun w' => w'.cell? ⟨A, 0, none⟩ = some (.int .i64 a0) ∧ w'.cell? ⟨A, 1, none⟩ = some (.int .i64 a1) ∧ w'.cell? ⟨B, 0, none⟩ = some (.int .i64 b0) ∧ w'.cell? ⟨B, 1, none⟩ = some (.int .i64 b1)) (exact Sx.all (by assumption)) (first | ((go_at_call 13; first | (with_reducible refine (silly_k a0 a1 s HSA.out HB.out.1 HB.out.2.1 (by assumption)).mono ?_) | (with_reducible refine (silly_k b0 b1 t HSB.out HB.out.2.2.1 HB.out.2.2.2.1 (by assumption)).mono ?_)); (rintro e w' ⟨rfl, hk⟩); (have hkd := hk.drew); (obtain ⟨z0, z1, z2, z3⟩ := hk.all); (try dsimp only at z0 z1 z2 z3)))
    all_goals go_wp2
    all_goals go_meet
    all_goals exact ⟨rfl, rfl, by assumption⟩
  case rest =>
    obtain ⟨rfl, rfl, hS2⟩ := hcut
    clear hS1
    go_upto_region 4 with (fail)
    go_cut [37] (fun p wd => p = .bool false ∧ Sx w A B a0 a1 b0 b1 wd)
    case first =>
      have hse := HS.out
      unfold nfs at hse
      have hd0 := dec_size m0 hm0m
      have hd1 := dec_size m1 hm1m
      obtain ⟨d0, hd0e⟩ : ∃ d, dec m0 = d := ⟨_, rfl⟩
      obtain ⟨d1, hd1e⟩ : ∃ d, dec m1 = d := ⟨_, rfl⟩
      rw [hd0e] at hd0 hse
      rw [hd1e] at hd1 hse
      have HD0 := Lib.hid hd0e
      have HD1 := Lib.hid hd1e
      clear hd0e hd1e
      have l1 : (9223372036854775807 < 4 + d0.size) = False := by simp; omega
      have l2 : (9223372036854775807 < 4 + d0.size + 1) = False := by simp; omega
      have l3 : (9223372036854775807 < 4 + d0.size + 1 + d1.size) = False := by simp; omega
      have hq : (s.toList == (⟨#[46, 110, 102, 115]⟩ ++ d0 ++ ⟨#[45]⟩ ++ d1 : ByteArray).toList) = true := by rw [hse]; exact beq_self_eq_true _
      have hkd := hS2.drew
      obtain ⟨z0, z1, z2, z3⟩ := hS2.all
      clear hse
      go_region_held3 (fun w' => w'.cell? ⟨A, 0, none⟩ = some (.int .i64 a0) ∧ w'.cell? ⟨A, 1, none⟩ = some (.int .i64 a1) ∧ w'.cell? ⟨B, 0, none⟩ = some (.int .i64 b0) ∧ w'.cell? ⟨B, 1, none⟩ = some (.int .i64 b1)) (exact Sx.all (by assumption)) (first | ((go_at_call 14; first | (with_reducible refine (decimal_k m0 HB.out.2.2.2.2.1 d0 HD0.out (by assumption)).mono ?_) | (with_reducible refine (decimal_k m1 HB.out.2.2.2.2.2 d1 HD1.out (by assumption)).mono ?_)); (rintro e w' ⟨rfl, hk⟩); (have hkd := hk.drew); (obtain ⟨z0, z1, z2, z3⟩ := hk.all); (try dsimp only at z0 z1 z2 z3)) | ((go_at_call 9; (with_reducible refine (rcheck_k s HCK.out (by assumption)).mono ?_)); (rintro e w' ⟨rfl, hk⟩); (have hkd := hk.drew); (obtain ⟨z0, z1, z2, z3⟩ := hk.all); (try dsimp only at z0 z1 z2 z3)))
      all_goals go_wp2
      all_goals go_meet
      all_goals exact ⟨rfl, by assumption⟩
    case rest =>
      obtain ⟨rfl, hS3⟩ := hcut
      obtain ⟨z0, z1, z2, z3⟩ := hS3.all
      have HLow := Lib.hid hS3.low
      have hne : (s.toList == t.toList) = true → s = t := fun h => by
        have h1 := beq_iff_eq.1 h
        rw [Lib.toList_data, Lib.toList_data] at h1
        rw [← bs_data s, h1, bs_data]
      have hks : (s.toList == t.toList) = (decide (m0 = n0) && decide (m1 = n1)) := by
        rw [Bool.eq_iff_iff, Bool.and_eq_true, decide_eq_true_eq, decide_eq_true_eq, ← HST.out]
        exact ⟨hne, fun h => by rw [h]; exact beq_self_eq_true _⟩
      clear hne hS2 hS3
      by_cases h0 : m0 = n0
      · have k0 : ((m0 : Int) == (n0 : Int)) = true := by rw [h0]; exact beq_self_eq_true _
        by_cases h1 : m1 = n1
        · have k1 : ((m1 : Int) == (n1 : Int)) = true := by rw [h1]; exact beq_self_eq_true _
          have ks : (s.toList == t.toList) = true := by rw [hks, h0, h1]; simp
          clear hks h0 h1
          go_wp2
          go_ret
          exact ⟨rfl, HLow.out⟩
        · have k1 : ((m1 : Int) == (n1 : Int)) = false := beq_eq_false_iff_ne.2 (by omega)
          have ks : (s.toList == t.toList) = false := by rw [hks]; simp [h1]
          clear hks h0 h1
          go_wp2
          go_ret
          exact ⟨rfl, HLow.out⟩
      · have k0 : ((m0 : Int) == (n0 : Int)) = false := beq_eq_false_iff_ne.2 (by omega)
        have ks : (s.toList == t.toList) = false := by rw [hks]; simp [h0]
        clear hks h0
        go_wp2
        go_ret
        exact ⟨rfl, HLow.out⟩
end Go.Proofs.YtmmfmmjjpbfmeaaDoor
