/-
  AttrSets' walk: it answers true, and makes new blocks alone. Its condition: the numbers are no longer than memory.
-/
import Derived.Test.YtedcgmagkkoggaaBkW
import Derived.Test.YtedcgmagkkoggaaRq
import Derived.Test.YtedcgmagkkoggaaRg
import Derived.Test.YtedcgmagkkoggaaSx
namespace Go.Proofs.Ytedcgmagkkoggaa
open Go.RowKit
/-- What the first statement's walk keeps. -/
structure Ka (w0 : World) (K : Nat) (cs : Array Value) (mo : Option Addr) (M : List Int) (w : World) : Prop where
  k : RAt w K cs
  m : IntsAt w mo M
  low : Below w0.heap.size w0 w
theorem Ka.step {w0 w w' : World} {K : Nat} {cs : Array Value} {mo : Option Addr} {M : List Int} (h : Ka w0 K cs mo M w) (hb : Below w.heap.size w w') : Ka w0 K cs mo M w' :=
  ⟨h.k.keep hb, h.m.below hb, h.low.trans (hb.mono h.low.size)⟩
theorem Ka.drew {w0 w : World} {K : Nat} {cs : Array Value} {mo : Option Addr} {M : List Int} (h : Ka w0 K cs mo M w) : Ka w0 K cs mo M w.drew := ⟨h.k, h.m, h.low.drew⟩
theorem Ka.cs {w0 w' : World} {K : Nat} {b0 b1 b2 b3 : Bool} {x0 x1 x2 x3 h0 h1 a0 a1 m0 m1 : Int} {mo : Option Addr} {M : List Int} (h : Ka w0 K #[.bool b0, .bool b1, .bool b2, .bool b3, .int .i64 x0, .int .i64 x1, .int .i64 x2, .int .i64 x3, .int .i64 h0, .int .i64 h1, .int .i64 a0, .int .i64 a1, .int .i64 m0, .int .i64 m1] mo M w') : w'.cell? ⟨K, 0, none⟩ = some (.bool b0) ∧ w'.cell? ⟨K, 1, none⟩ = some (.bool b1) ∧ w'.cell? ⟨K, 2, none⟩ = some (.bool b2) ∧ w'.cell? ⟨K, 3, none⟩ = some (.bool b3) ∧ w'.cell? ⟨K, 4, none⟩ = some (.int .i64 x0) ∧ w'.cell? ⟨K, 5, none⟩ = some (.int .i64 x1) ∧ w'.cell? ⟨K, 6, none⟩ = some (.int .i64 x2) ∧ w'.cell? ⟨K, 7, none⟩ = some (.int .i64 x3) ∧ w'.cell? ⟨K, 8, none⟩ = some (.int .i64 h0) ∧ w'.cell? ⟨K, 9, none⟩ = some (.int .i64 h1) ∧ w'.cell? ⟨K, 10, none⟩ = some (.int .i64 a0) ∧ w'.cell? ⟨K, 11, none⟩ = some (.int .i64 a1) ∧ w'.cell? ⟨K, 12, none⟩ = some (.int .i64 m0) ∧ w'.cell? ⟨K, 13, none⟩ = some (.int .i64 m1) := by
  refine ⟨?_, ?_, ?_, ?_, ?_, ?_, ?_, ?_, ?_, ?_, ?_, ?_, ?_, ?_⟩ <;> (rw [cell_of_row w' K _ _ _ _ h.k]; rfl)
theorem put_two (b0 b1 b2 b3 : Bool) (x0 x1 x2 x3 h0 h1 a0 a1 m0 m1 : Int) (w : World) (P : List Int) (hP : P = putL b0 b1 b2 b3 x0 x1 x2 x3 h0 h1 a0 a1 m0 m1) : Calls Try.prog 12 #[.agg #[.bool b0, .bool b1, .bool b2, .bool b3, .int .i64 x0, .int .i64 x1, .int .i64 x2, .int .i64 x3, .int .i64 h0, .int .i64 h1, .int .i64 a0, .int .i64 a1, .int .i64 m0, .int .i64 m1]] w fun r w' => ∃ po pcap, r = .returned (.slice po P.length pcap) ∧ IntsAt w' po P ∧ Below w.heap.size w w' := by
  subst hP
  refine (put_set b0 b1 b2 b3 x0 x1 x2 x3 h0 h1 a0 a1 m0 m1 w).mono ?_
  rintro r w' ⟨v, rfl, hp⟩
  obtain ⟨ao, cap, rfl, hI, _⟩ := ints_of_own hp.own
  exact ⟨ao, cap, rfl, hI, hp.low⟩
theorem put_ref (b0 b1 b2 b3 : Bool) (x0 x1 x2 x3 h0 h1 a0 a1 m0 m1 : Int) (w : World) (P : List Int) (hP : P = putL b0 b1 b2 b3 x0 x1 x2 x3 h0 h1 a0 a1 m0 m1) : Calls Try.prog 14 #[.agg #[.bool b0, .bool b1, .bool b2, .bool b3, .int .i64 x0, .int .i64 x1, .int .i64 x2, .int .i64 x3, .int .i64 h0, .int .i64 h1, .int .i64 a0, .int .i64 a1, .int .i64 m0, .int .i64 m1]] w fun r w' => ∃ po pcap, r = .returned (.slice po P.length pcap) ∧ IntsAt w' po P ∧ Below w.heap.size w w' := by
  subst hP
  refine (refput_any b0 b1 b2 b3 x0 x1 x2 x3 h0 h1 a0 a1 m0 m1 w).mono ?_
  rintro r w' ⟨v, rfl, hp⟩
  obtain ⟨ao, cap, rfl, hI, _⟩ := ints_of_own hp.own
  exact ⟨ao, cap, rfl, hI, hp.low⟩
theorem ints_drop {w : World} {g off : Nat} {M : List Int} (h : IntsAt w (some ⟨g, off, none⟩) M) (k : Nat) : IntsAt w (some ⟨g, off + k, none⟩) (M.drop k) := by
  intro i hi
  rw [List.length_drop] at hi
  obtain ⟨g', off', e1, e2, e3⟩ := h (k + i) (by omega)
  injection e1 with e1
  injection e1 with e1 e4 _
  subst e1 e4
  exact ⟨g, off + k, rfl, e2, by rw [show off + k + i = off + (k + i) by omega, e3]; simp⟩
theorem same_n2 (L : List Int) (ao bo : Option Addr) (cap cap' : Nat) (w : World) (n n' : Nat) (hn : n = L.length) (hn' : n' = L.length) (hA : IntsAt w ao L) (hB : IntsAt w bo L) (hl : L.length ≤ 140737488355328) :
    Calls Try.prog 10 #[.slice ao n cap, .slice bo n' cap'] w fun e w' => e = .returned (.bool true) ∧ Below w.heap.size w w' := by
  subst hn hn'
  exact same_ints L ao bo cap cap' w hA hB hl
/-- The same, and what was left behind. -/
structure Ky (w0 : World) (D K : Nat) (cs : Array Value) (io mo ro : Option Addr) (M Q : List Int) (w : World) : Prop where
  z : Kz w0 D K cs io mo M w
  q : IntsAt w ro Q
theorem Ky.step {w0 w w' : World} {D K : Nat} {cs : Array Value} {io mo ro : Option Addr} {M Q : List Int} (h : Ky w0 D K cs io mo ro M Q w) (hb : Below w.heap.size w w') : Ky w0 D K cs io mo ro M Q w' := ⟨h.z.step hb, h.q.below hb⟩
theorem Ky.drew {w0 w : World} {D K : Nat} {cs : Array Value} {io mo ro : Option Addr} {M Q : List Int} (h : Ky w0 D K cs io mo ro M Q w) : Ky w0 D K cs io mo ro M Q w.drew := ⟨h.z.drew, h.q⟩
theorem same_n (L : List Int) (ao bo : Option Addr) (cap cap' : Nat) (w : World) (n : Nat) (hn : n = L.length) (hA : IntsAt w ao L) (hB : IntsAt w bo L) (hl : L.length ≤ 140737488355328) :
    Calls Try.prog 10 #[.slice ao n cap, .slice bo L.length cap'] w fun e w' => e = .returned (.bool true) ∧ Below w.heap.size w w' := by
  subst hn
  exact same_ints L ao bo cap cap' w hA hB hl
set_option maxRecDepth 100000 in
set_option maxHeartbeats 4000000 in
theorem sets_walk (b0 b1 b2 b3 : Bool) (n0 n1 n2 n3 n4 n5 n6 n7 n8 n9 : Int) (mo : Option Addr) (M : List Int) (mcap : Nat) (w : World) (hI : IntsAt w mo M) (hl : M.length * 8 ≤ 140737488351232) (hmc : M.length ≤ mcap) :
    Calls Try.prog 4 #[.agg #[.bool b0, .bool b1, .bool b2, .bool b3], .agg #[.int .i64 n0, .int .i64 n1, .int .i64 n2, .int .i64 n3, .int .i64 n4, .int .i64 n5, .int .i64 n6, .int .i64 n7, .int .i64 n8, .int .i64 n9], .slice mo M.length mcap] w fun e w' => e = .returned (.bool true) ∧ Below w.heap.size w w' := by
  obtain ⟨hB, hX, hY⟩ := two_new w (.cells #[.bool b0, .bool b1, .bool b2, .bool b3] 34) (.cells #[.int .i64 n0, .int .i64 n1, .int .i64 n2, .int .i64 n3, .int .i64 n4, .int .i64 n5, .int .i64 n6, .int .i64 n7, .int .i64 n8, .int .i64 n9] 35)
  have HK0 := Lib.hid (show Kq w w.heap.size (w.heap.size + 1) b0 b1 b2 b3 n0 n1 n2 n3 n4 n5 n6 n7 n8 n9 mo M _ from ⟨hX, hY, hI.below hB, hB⟩)
  clear hB hX hY hI
  go_enter Try.func4, Try.ntmps4
  go_wp2_with fail
  generalize (w.alloc (.cells #[.bool b0, .bool b1, .bool b2, .bool b3] 34)).alloc (.cells #[.int .i64 n0, .int .i64 n1, .int .i64 n2, .int .i64 n3, .int .i64 n4, .int .i64 n5, .int .i64 n6, .int .i64 n7, .int .i64 n8, .int .i64 n9] 35) = W at *
  refine (speaks_any W).mono ?_
  rintro e w1 ⟨rfl, hB1⟩
  have HK1 := Lib.hid (HK0.out.step hB1)
  clear hB1 HK0
  generalize w.heap.size + 1 = Y at *
  generalize w.heap.size = X at *
  obtain ⟨c0, c1, c2, c3⟩ := HK1.out.cx
  obtain ⟨y0, y1, y2, y3, y4, y5, y6, y7, y8, y9⟩ := HK1.out.cy
  go_upto_region 4 with (refine wpList_store_row rfl 40 _ _ rfl w1.heap.size #[.bool b0, .bool b1, .bool b2, .bool b3, .int .i64 n0, .int .i64 n1, .int .i64 n2, .int .i64 n3, .int .i64 n4, .int .i64 n5, .int .i64 n6, .int .i64 n7, .int .i64 n8, .int .i64 n9] rfl rfl 40 #[.bool false, .bool false, .bool false, .bool false, .int .i64 0, .int .i64 0, .int .i64 0, .int .i64 0, .int .i64 0, .int .i64 0, .int .i64 0, .int .i64 0, .int .i64 0, .int .i64 0] (heap_alloc_last w1 _) (by kernel_rfl) rfl (by simp [Value.oneCell']) ?_; rw [World.setRow_alloc_new])
  simp only [Act.put]
  clear c0 c1 c2 c3 y0 y1 y2 y3 y4 y5 y6 y7 y8 y9
  have hb := (Below.refl w1.heap.size w1).alloc (Nat.le_refl _) (.cells #[.bool b0, .bool b1, .bool b2, .bool b3, .int .i64 n0, .int .i64 n1, .int .i64 n2, .int .i64 n3, .int .i64 n4, .int .i64 n5, .int .i64 n6, .int .i64 n7, .int .i64 n8, .int .i64 n9] 40)
  have hA0 : Ka w w1.heap.size #[.bool b0, .bool b1, .bool b2, .bool b3, .int .i64 n0, .int .i64 n1, .int .i64 n2, .int .i64 n3, .int .i64 n4, .int .i64 n5, .int .i64 n6, .int .i64 n7, .int .i64 n8, .int .i64 n9] mo M (w1.alloc (.cells #[.bool b0, .bool b1, .bool b2, .bool b3, .int .i64 n0, .int .i64 n1, .int .i64 n2, .int .i64 n3, .int .i64 n4, .int .i64 n5, .int .i64 n6, .int .i64 n7, .int .i64 n8, .int .i64 n9] 40)) := ⟨heap_alloc_new w1 _, HK1.out.m.below hb, HK1.out.low.trans (hb.mono HK1.out.low.size)⟩
  have hAd := hA0.drew
  clear hb HK1
  generalize w1.alloc (.cells #[.bool b0, .bool b1, .bool b2, .bool b3, .int .i64 n0, .int .i64 n1, .int .i64 n2, .int .i64 n3, .int .i64 n4, .int .i64 n5, .int .i64 n6, .int .i64 n7, .int .i64 n8, .int .i64 n9] 40) = W2 at *
  generalize w1.heap.size = K at *
  obtain ⟨P, hP⟩ : ∃ P, P = putL b0 b1 b2 b3 n0 n1 n2 n3 n4 n5 n6 n7 n8 n9 := ⟨_, rfl⟩
  have HP := Lib.hid hP
  have hlen : P.length ≤ 14 := by
    have s0 := pe_short b0 n0
    have s1 := pe_short b1 n1
    have s2 := pe_short b2 n2
    have s3 := pe_short b3 n3
    have s4 := mo_short n4 n6 n7
    have s5 := mo_short n5 n8 n9
    rw [hP]
    unfold putL
    simp only [List.length_append, List.length_nil]
    omega
  clear hP
  go_cut [49] from 43 to 48 (fun p wd => p = .bool false ∧ Ka w K #[.bool b0, .bool b1, .bool b2, .bool b3, .int .i64 n0, .int .i64 n1, .int .i64 n2, .int .i64 n3, .int .i64 n4, .int .i64 n5, .int .i64 n6, .int .i64 n7, .int .i64 n8, .int .i64 n9] mo M wd)
  case first =>
    as_aux_lemma =>
      go_region_held3 (fun w' => w'.cell? ⟨K, 0, none⟩ = some (.bool b0) ∧ w'.cell? ⟨K, 1, none⟩ = some (.bool b1) ∧ w'.cell? ⟨K, 2, none⟩ = some (.bool b2) ∧ w'.cell? ⟨K, 3, none⟩ = some (.bool b3) ∧ w'.cell? ⟨K, 4, none⟩ = some (.int .i64 n0) ∧ w'.cell? ⟨K, 5, none⟩ = some (.int .i64 n1) ∧ w'.cell? ⟨K, 6, none⟩ = some (.int .i64 n2) ∧ w'.cell? ⟨K, 7, none⟩ = some (.int .i64 n3) ∧ w'.cell? ⟨K, 8, none⟩ = some (.int .i64 n4) ∧ w'.cell? ⟨K, 9, none⟩ = some (.int .i64 n5) ∧ w'.cell? ⟨K, 10, none⟩ = some (.int .i64 n6) ∧ w'.cell? ⟨K, 11, none⟩ = some (.int .i64 n7) ∧ w'.cell? ⟨K, 12, none⟩ = some (.int .i64 n8) ∧ w'.cell? ⟨K, 13, none⟩ = some (.int .i64 n9)) (first | exact Ka.cs (by assumption) | exact Ka.cs (Ka.drew (by assumption)))
        (first
          | (go_at_call 13; refine (made_any b0 b1 b2 b3 n0 n1 n2 n3 n4 n5 n6 n7 n8 n9 _).mono ?_; rintro e w' ⟨rfl, hb⟩; have hK2 := Ka.step (by assumption) hb)
          | (go_at_call 12; refine (put_two b0 b1 b2 b3 n0 n1 n2 n3 n4 n5 n6 n7 n8 n9 _ P HP.out).mono ?_; rintro e w' ⟨po, pcap, rfl, hpi, hb⟩; have hK3 := Ka.step (by assumption) hb)
          | (go_at_call 14; refine (put_ref b0 b1 b2 b3 n0 n1 n2 n3 n4 n5 n6 n7 n8 n9 _ P HP.out).mono ?_; rintro e w' ⟨qo, qcap, rfl, hqi, hb⟩; have hK4 := Ka.step (by assumption) hb; have hpi2 := IntsAt.below (by assumption) hb)
          | (go_at_call 10; refine (same_ints P _ _ _ _ _ (by assumption) (by assumption) (by omega)).mono ?_; rintro e w' ⟨rfl, hb⟩; have hK5 := Ka.step (by assumption) hb))
      all_goals
        go_wp2
        go_meet
        refine ⟨rfl, ?_⟩
        first | assumption | exact Ka.drew (by assumption)
  case rest =>
    obtain ⟨rfl, hK⟩ := hcut
    have HK := Lib.hid hK
    clear hK hA0 hAd HP hlen
    go_wp2_with (refine list_app rfl _ _ rfl wc.heap.size _ [] rfl (own_empty (heap_alloc_new wc _) (Nat.le_refl _)) mo M mcap rfl (HK.out.m.below ((Below.refl _ wc).alloc (Nat.le_refl _) _)) (by simp; omega) (by simp) ?_; intro v1 w3 hT1; obtain ⟨io, icap, hv1, hI1, hc1, hc2⟩ := own_form hT1.own; subst hv1)
    have hB3 := hT1.below (own_empty (B := wc.heap.size) (heap_alloc_new wc _) (Nat.le_refl _)) ((Below.refl _ wc).alloc (Nat.le_refl _) _) (Nat.le_refl _)
    have HM3 := Lib.hid (HK.out.m.below hB3)
    have HL3 := Lib.hid (HK.out.low.trans (hB3.mono HK.out.low.size))
    have HI3 := Lib.hid hI1
    clear hB3 hT1 hI1 HK
    obtain ⟨Z, hZ⟩ : ∃ Z, setO M = Z := ⟨_, rfl⟩
    have HZ := Lib.hid hZ
    have hZ2 : setO ([] ++ M) = Z := by rw [List.nil_append]; exact hZ
    have HZ2 := Lib.hid hZ2
    clear hZ hZ2
    refine (get_set_n _ _ (by simp) io icap w3 HI3.out hc1 hc2 (by simp; omega) Z HZ2.out).mono ?_
    cases Z with
    | none =>
      rintro r w4 ⟨hB, rfl⟩
      have HM4 := Lib.hid (HM3.out.below hB)
      have HL4 := Lib.hid (HL3.out.trans (hB.mono HL3.out.size))
      have HI4 := Lib.hid (HI3.out.below hB)
      clear hB HM3 HL3 HI3 HZ2
      go_upto_region 8 with (refine wpList_store_row rfl 43 _ _ rfl w4.heap.size #[.bool false, .bool false, .bool false, .bool false, .int .i64 0, .int .i64 0, .int .i64 0, .int .i64 0, .int .i64 0, .int .i64 0, .int .i64 0, .int .i64 0, .int .i64 0, .int .i64 0] rfl rfl 43 #[.bool false, .bool false, .bool false, .bool false, .int .i64 0, .int .i64 0, .int .i64 0, .int .i64 0, .int .i64 0, .int .i64 0, .int .i64 0, .int .i64 0, .int .i64 0, .int .i64 0] (heap_alloc_last w4 _) (by kernel_rfl) rfl (by simp [Value.oneCell']) ?_; rw [World.setRow_alloc_new])
      have hB := (Below.refl w4.heap.size w4).alloc (Nat.le_refl _) (.cells #[.bool false, .bool false, .bool false, .bool false, .int .i64 0, .int .i64 0, .int .i64 0, .int .i64 0, .int .i64 0, .int .i64 0, .int .i64 0, .int .i64 0, .int .i64 0, .int .i64 0] 43)
      have HD5 := Lib.hid (SAt.new w4 #[.bool false, .bool false, .bool false, .bool false, .int .i64 0, .int .i64 0, .int .i64 0, .int .i64 0, .int .i64 0, .int .i64 0, .int .i64 0, .int .i64 0, .int .i64 0, .int .i64 0])
      have HM5 := Lib.hid (HM4.out.below hB)
      have HL5 := Lib.hid (HL4.out.trans (hB.mono HL4.out.size))
      have HI5 := Lib.hid (HI4.out.below hB)
      clear hB HM4 HL4 HI4
      generalize w4.alloc (.cells #[.bool false, .bool false, .bool false, .bool false, .int .i64 0, .int .i64 0, .int .i64 0, .int .i64 0, .int .i64 0, .int .i64 0, .int .i64 0, .int .i64 0, .int .i64 0, .int .i64 0] 43) = w5 at *
      generalize w4.heap.size = D at *
      go_wp2_with fail
      have hrg := refget_any M mo mcap w5 HM5.out (by omega)
      rw [HZ.out] at hrg
      refine hrg.mono ?_
      clear hrg
      rintro r w6 ⟨hB, rfl⟩
      have HD6 := Lib.hid (HD5.out.keep hB)
      have HM6 := Lib.hid (HM5.out.below hB)
      have HL6 := Lib.hid (HL5.out.trans (hB.mono HL5.out.size))
      have HI6 := Lib.hid (HI5.out.below hB)
      clear hB HD5 HM5 HL5 HI5
      go_upto_region 9 with (refine wpList_store_row rfl 40 _ _ rfl w6.heap.size #[.bool false, .bool false, .bool false, .bool false, .int .i64 0, .int .i64 0, .int .i64 0, .int .i64 0, .int .i64 0, .int .i64 0, .int .i64 0, .int .i64 0, .int .i64 0, .int .i64 0] rfl rfl 40 #[.bool false, .bool false, .bool false, .bool false, .int .i64 0, .int .i64 0, .int .i64 0, .int .i64 0, .int .i64 0, .int .i64 0, .int .i64 0, .int .i64 0, .int .i64 0, .int .i64 0] (heap_alloc_last w6 _) (by kernel_rfl) rfl (by simp [Value.oneCell']) ?_; rw [World.setRow_alloc_new])
      have hB := (Below.refl w6.heap.size w6).alloc (Nat.le_refl _) (.cells #[.bool false, .bool false, .bool false, .bool false, .int .i64 0, .int .i64 0, .int .i64 0, .int .i64 0, .int .i64 0, .int .i64 0, .int .i64 0, .int .i64 0, .int .i64 0, .int .i64 0] 40)
      have hK0 : Kz w D w6.heap.size #[.bool false, .bool false, .bool false, .bool false, .int .i64 0, .int .i64 0, .int .i64 0, .int .i64 0, .int .i64 0, .int .i64 0, .int .i64 0, .int .i64 0, .int .i64 0, .int .i64 0] io mo M (w6.alloc (.cells #[.bool false, .bool false, .bool false, .bool false, .int .i64 0, .int .i64 0, .int .i64 0, .int .i64 0, .int .i64 0, .int .i64 0, .int .i64 0, .int .i64 0, .int .i64 0, .int .i64 0] 40)) := ⟨HD6.out.keep hB, heap_alloc_new w6 _, (by simpa using HI6.out.below hB), HM6.out.below hB, HL6.out.trans (hB.mono HL6.out.size)⟩
      clear hB HD6 HM6 HL6 HI6
      generalize w6.alloc (.cells #[.bool false, .bool false, .bool false, .bool false, .int .i64 0, .int .i64 0, .int .i64 0, .int .i64 0, .int .i64 0, .int .i64 0, .int .i64 0, .int .i64 0, .int .i64 0, .int .i64 0] 40) = w7 at *
      generalize w6.heap.size = E at *
      go_cut [79] from 64 to 78 (fun p wd => p = .bool false ∧ Below w.heap.size w wd)
      case first =>
        as_aux_lemma =>
          have hKd := hK0.drew
          go_region_held3 (fun w' => w'.cell? ⟨D, 0, none⟩ = some (.bool false) ∧ w'.cell? ⟨D, 1, none⟩ = some (.bool false) ∧ w'.cell? ⟨D, 2, none⟩ = some (.bool false) ∧ w'.cell? ⟨D, 3, none⟩ = some (.bool false) ∧ w'.cell? ⟨D, 4, none⟩ = some (.int .i64 0) ∧ w'.cell? ⟨D, 5, none⟩ = some (.int .i64 0) ∧ w'.cell? ⟨D, 6, none⟩ = some (.int .i64 0) ∧ w'.cell? ⟨D, 7, none⟩ = some (.int .i64 0) ∧ w'.cell? ⟨D, 8, none⟩ = some (.int .i64 0) ∧ w'.cell? ⟨D, 9, none⟩ = some (.int .i64 0) ∧ w'.cell? ⟨D, 10, none⟩ = some (.int .i64 0) ∧ w'.cell? ⟨D, 11, none⟩ = some (.int .i64 0) ∧ w'.cell? ⟨D, 12, none⟩ = some (.int .i64 0) ∧ w'.cell? ⟨D, 13, none⟩ = some (.int .i64 0) ∧ w'.cell? ⟨E, 0, none⟩ = some (.bool false) ∧ w'.cell? ⟨E, 1, none⟩ = some (.bool false) ∧ w'.cell? ⟨E, 2, none⟩ = some (.bool false) ∧ w'.cell? ⟨E, 3, none⟩ = some (.bool false) ∧ w'.cell? ⟨E, 4, none⟩ = some (.int .i64 0) ∧ w'.cell? ⟨E, 5, none⟩ = some (.int .i64 0) ∧ w'.cell? ⟨E, 6, none⟩ = some (.int .i64 0) ∧ w'.cell? ⟨E, 7, none⟩ = some (.int .i64 0) ∧ w'.cell? ⟨E, 8, none⟩ = some (.int .i64 0) ∧ w'.cell? ⟨E, 9, none⟩ = some (.int .i64 0) ∧ w'.cell? ⟨E, 10, none⟩ = some (.int .i64 0) ∧ w'.cell? ⟨E, 11, none⟩ = some (.int .i64 0) ∧ w'.cell? ⟨E, 12, none⟩ = some (.int .i64 0) ∧ w'.cell? ⟨E, 13, none⟩ = some (.int .i64 0)) (first | exact Kz.cs (by assumption) | exact Kz.cs (Kz.drew (by assumption)))
            (first
              | (go_at_call 13; refine (made_any false false false false 0 0 0 0 0 0 0 0 0 0 _).mono ?_; rintro e w' ⟨rfl, hb⟩; have hK2 := Kz.step (by assumption) hb)
              | (go_at_call 10; refine (same_n M io mo icap mcap _ _ (by simp) (Kz.r (by assumption)) (Kz.m (by assumption)) (by omega)).mono ?_; rintro e w' ⟨rfl, hb⟩; have hK3 := Kz.step (by assumption) hb))
          all_goals
            go_wp2
            go_meet
            refine ⟨rfl, ?_⟩
            first | exact Kz.low (by assumption) | exact (Kz.low (by assumption)).drew
      case rest =>
        obtain ⟨rfl, hB⟩ := hcut
        have HB := Lib.hid hB
        clear hB hK0
        go_wp2
        go_ret
        exact ⟨rfl, HB.out⟩
    | some y =>
      obtain ⟨cs, Q⟩ := y
      obtain ⟨⟨e0, e1, e2, e3, f0, f1, f2, f3, f4, f5, f6, f7, f8, f9, rfl⟩, _⟩ := set_form HZ.out
      rintro r w4 ⟨hB, ro, rcap, rfl, hR, _⟩
      have HM4 := Lib.hid (HM3.out.below hB)
      have HL4 := Lib.hid (HL3.out.trans (hB.mono HL3.out.size))
      have HI4 := Lib.hid (HI3.out.below hB)
      have HR4 := Lib.hid hR
      clear hB HM3 HL3 HI3 HZ2 hR
      go_upto_region 8 with (refine wpList_store_row rfl 43 _ _ rfl w4.heap.size #[.bool e0, .bool e1, .bool e2, .bool e3, .int .i64 f0, .int .i64 f1, .int .i64 f2, .int .i64 f3, .int .i64 f4, .int .i64 f5, .int .i64 f6, .int .i64 f7, .int .i64 f8, .int .i64 f9] rfl rfl 43 #[.bool false, .bool false, .bool false, .bool false, .int .i64 0, .int .i64 0, .int .i64 0, .int .i64 0, .int .i64 0, .int .i64 0, .int .i64 0, .int .i64 0, .int .i64 0, .int .i64 0] (heap_alloc_last w4 _) (by kernel_rfl) rfl (by simp [Value.oneCell']) ?_; rw [World.setRow_alloc_new])
      have hB := (Below.refl w4.heap.size w4).alloc (Nat.le_refl _) (.cells #[.bool e0, .bool e1, .bool e2, .bool e3, .int .i64 f0, .int .i64 f1, .int .i64 f2, .int .i64 f3, .int .i64 f4, .int .i64 f5, .int .i64 f6, .int .i64 f7, .int .i64 f8, .int .i64 f9] 43)
      have HD5 := Lib.hid (SAt.new w4 #[.bool e0, .bool e1, .bool e2, .bool e3, .int .i64 f0, .int .i64 f1, .int .i64 f2, .int .i64 f3, .int .i64 f4, .int .i64 f5, .int .i64 f6, .int .i64 f7, .int .i64 f8, .int .i64 f9])
      have HM5 := Lib.hid (HM4.out.below hB)
      have HL5 := Lib.hid (HL4.out.trans (hB.mono HL4.out.size))
      have HI5 := Lib.hid (HI4.out.below hB)
      have HR5 := Lib.hid (HR4.out.below hB)
      clear hB HM4 HL4 HI4 HR4
      generalize w4.alloc (.cells #[.bool e0, .bool e1, .bool e2, .bool e3, .int .i64 f0, .int .i64 f1, .int .i64 f2, .int .i64 f3, .int .i64 f4, .int .i64 f5, .int .i64 f6, .int .i64 f7, .int .i64 f8, .int .i64 f9] 43) = w5 at *
      generalize w4.heap.size = D at *
      go_wp2_with fail
      have hrg := refget_any M mo mcap w5 HM5.out (by omega)
      rw [HZ.out] at hrg
      refine hrg.mono ?_
      clear hrg
      rintro r w6 ⟨hB, k, rfl, hk⟩
      have HD6 := Lib.hid (HD5.out.keep hB)
      have HM6 := Lib.hid (HM5.out.below hB)
      have HL6 := Lib.hid (HL5.out.trans (hB.mono HL5.out.size))
      have HI6 := Lib.hid (HI5.out.below hB)
      have HR6 := Lib.hid (HR5.out.below hB)
      clear hB HD5 HM5 HL5 HI5 HR5
      go_upto_region 9 with (refine wpList_store_row rfl 40 _ _ rfl w6.heap.size #[.bool e0, .bool e1, .bool e2, .bool e3, .int .i64 f0, .int .i64 f1, .int .i64 f2, .int .i64 f3, .int .i64 f4, .int .i64 f5, .int .i64 f6, .int .i64 f7, .int .i64 f8, .int .i64 f9] rfl rfl 40 #[.bool false, .bool false, .bool false, .bool false, .int .i64 0, .int .i64 0, .int .i64 0, .int .i64 0, .int .i64 0, .int .i64 0, .int .i64 0, .int .i64 0, .int .i64 0, .int .i64 0] (heap_alloc_last w6 _) (by kernel_rfl) rfl (by simp [Value.oneCell']) ?_; rw [World.setRow_alloc_new])
      have hB := (Below.refl w6.heap.size w6).alloc (Nat.le_refl _) (.cells #[.bool e0, .bool e1, .bool e2, .bool e3, .int .i64 f0, .int .i64 f1, .int .i64 f2, .int .i64 f3, .int .i64 f4, .int .i64 f5, .int .i64 f6, .int .i64 f7, .int .i64 f8, .int .i64 f9] 40)
      have hK0 : Ky w D w6.heap.size #[.bool e0, .bool e1, .bool e2, .bool e3, .int .i64 f0, .int .i64 f1, .int .i64 f2, .int .i64 f3, .int .i64 f4, .int .i64 f5, .int .i64 f6, .int .i64 f7, .int .i64 f8, .int .i64 f9] io mo ro M Q (w6.alloc (.cells #[.bool e0, .bool e1, .bool e2, .bool e3, .int .i64 f0, .int .i64 f1, .int .i64 f2, .int .i64 f3, .int .i64 f4, .int .i64 f5, .int .i64 f6, .int .i64 f7, .int .i64 f8, .int .i64 f9] 40)) := ⟨⟨HD6.out.keep hB, heap_alloc_new w6 _, (by simpa using HI6.out.below hB), HM6.out.below hB, HL6.out.trans (hB.mono HL6.out.size)⟩, HR6.out.below hB⟩
      clear hB HD6 HM6 HL6 HI6 HR6
      generalize w6.alloc (.cells #[.bool e0, .bool e1, .bool e2, .bool e3, .int .i64 f0, .int .i64 f1, .int .i64 f2, .int .i64 f3, .int .i64 f4, .int .i64 f5, .int .i64 f6, .int .i64 f7, .int .i64 f8, .int .i64 f9] 40) = w7 at *
      generalize w6.heap.size = E at *
      have hk0 : decide ((0 : Int) ≤ (k : Int)) = true := decide_eq_true (by omega)
      have HKL := Lib.hid hk
      clear hk
      go_cut [79] from 64 to 78 (fun p wd => p = .bool false ∧ IntsAt wd mo M ∧ IntsAt wd ro Q ∧ Below w.heap.size w wd)
      case first =>
        as_aux_lemma =>
          have hKd := hK0.drew
          go_region_held3 (fun w' => w'.cell? ⟨D, 0, none⟩ = some (.bool e0) ∧ w'.cell? ⟨D, 1, none⟩ = some (.bool e1) ∧ w'.cell? ⟨D, 2, none⟩ = some (.bool e2) ∧ w'.cell? ⟨D, 3, none⟩ = some (.bool e3) ∧ w'.cell? ⟨D, 4, none⟩ = some (.int .i64 f0) ∧ w'.cell? ⟨D, 5, none⟩ = some (.int .i64 f1) ∧ w'.cell? ⟨D, 6, none⟩ = some (.int .i64 f2) ∧ w'.cell? ⟨D, 7, none⟩ = some (.int .i64 f3) ∧ w'.cell? ⟨D, 8, none⟩ = some (.int .i64 f4) ∧ w'.cell? ⟨D, 9, none⟩ = some (.int .i64 f5) ∧ w'.cell? ⟨D, 10, none⟩ = some (.int .i64 f6) ∧ w'.cell? ⟨D, 11, none⟩ = some (.int .i64 f7) ∧ w'.cell? ⟨D, 12, none⟩ = some (.int .i64 f8) ∧ w'.cell? ⟨D, 13, none⟩ = some (.int .i64 f9) ∧ w'.cell? ⟨E, 0, none⟩ = some (.bool e0) ∧ w'.cell? ⟨E, 1, none⟩ = some (.bool e1) ∧ w'.cell? ⟨E, 2, none⟩ = some (.bool e2) ∧ w'.cell? ⟨E, 3, none⟩ = some (.bool e3) ∧ w'.cell? ⟨E, 4, none⟩ = some (.int .i64 f0) ∧ w'.cell? ⟨E, 5, none⟩ = some (.int .i64 f1) ∧ w'.cell? ⟨E, 6, none⟩ = some (.int .i64 f2) ∧ w'.cell? ⟨E, 7, none⟩ = some (.int .i64 f3) ∧ w'.cell? ⟨E, 8, none⟩ = some (.int .i64 f4) ∧ w'.cell? ⟨E, 9, none⟩ = some (.int .i64 f5) ∧ w'.cell? ⟨E, 10, none⟩ = some (.int .i64 f6) ∧ w'.cell? ⟨E, 11, none⟩ = some (.int .i64 f7) ∧ w'.cell? ⟨E, 12, none⟩ = some (.int .i64 f8) ∧ w'.cell? ⟨E, 13, none⟩ = some (.int .i64 f9)) (first | exact Kz.cs (Ky.z (by assumption)) | exact Kz.cs (Ky.z (Ky.drew (by assumption))))
            (first
              | (go_at_call 13; refine (made_any e0 e1 e2 e3 f0 f1 f2 f3 f4 f5 f6 f7 f8 f9 _).mono ?_; rintro e w' ⟨rfl, hb⟩; have hK2 := Ky.step (by assumption) hb)
              | (go_at_call 10; refine (same_n M io mo icap mcap _ _ (by simp) (Kz.r (Ky.z (by assumption))) (Kz.m (Ky.z (by assumption))) (by omega)).mono ?_; rintro e w' ⟨rfl, hb⟩; have hK3 := Ky.step (by assumption) hb))
          all_goals
            go_wp2
            go_meet
            refine ⟨rfl, ?_⟩
            first
              | exact ⟨Kz.m (Ky.z (by assumption)), Ky.q (by assumption), Kz.low (Ky.z (by assumption))⟩
              | (have hKe := hK3.drew; exact ⟨hKe.z.m, hKe.q, hKe.z.low⟩)
      case rest =>
        obtain ⟨rfl, hm, hq, hB⟩ := hcut
        have HB := Lib.hid hB
        have HQ := Lib.hid hq
        have hQd := set_drop HZ.out HKL.out
        have hkl := HKL.out
        have hkM : k ≤ M.length := by omega
        clear hB hK0 hq
        cases mo with
        | none =>
          exfalso
          cases M with
          | nil =>
            have := HZ.out
            cases this
          | cons x q =>
            obtain ⟨g, off, e1, _⟩ := hm 0 (by simp)
            cases e1
        | some a =>
          obtain ⟨g, off, hao⟩ : ∃ g off, a = ⟨g, off, none⟩ := by
            cases M with
            | nil =>
              have := HZ.out
              cases this
            | cons x q =>
              obtain ⟨g, off, e1, _⟩ := hm 0 (by simp)
              injection e1 with e1
              exact ⟨g, off, e1⟩
          subst hao
          have HMM := Lib.hid hm
          have HQD := Lib.hid hQd
          have q1 : (0 : Int) ≤ (k : Int) := by omega
          have q2 : (k : Int) ≤ (M.length : Int) := by omega
          have q3 : (M.length : Int) ≤ (mcap : Int) := by omega
          have q4 : (k : Int) ≤ (mcap : Int) := by omega
          clear hm hQd
          go_wp2_with fail
          · have hQ0 : Q.length = 0 := by omega
            refine (same_n2 Q ro (some ⟨g, off, none⟩) rcap 0 wc _ _ rfl (by omega) HQ.out (fun i hi => absurd hi (by omega)) (by omega)).mono ?_
            rintro e w8 ⟨rfl, hb⟩
            have HB8 := Lib.hid (HB.out.trans (hb.mono HB.out.size))
            clear hb
            go_wp2
            go_ret
            exact ⟨rfl, HB8.out⟩
          · refine (same_n2 Q ro (some ⟨g, off + k, none⟩) rcap (mcap - k) wc _ _ rfl (by omega) HQ.out (by rw [HQD.out]; exact ints_drop HMM.out k) (by omega)).mono ?_
            rintro e w8 ⟨rfl, hb⟩
            have HB8 := Lib.hid (HB.out.trans (hb.mono HB.out.size))
            clear hb
            go_wp2
            go_ret
            exact ⟨rfl, HB8.out⟩
end Go.Proofs.Ytedcgmagkkoggaa
