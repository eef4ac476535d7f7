/-
  AttrForms' walk: it answers true, and makes new blocks alone. Its condition: numbers of 64 bits.
-/
import Derived.Test.YtakfpfnaogdmlaaDoorAf
import Derived.Deep.DeepCutAuto
namespace Go.Proofs.YtakfpfnaogdmlaaDoor
open Go.RowKit Sch A
theorem form_any (w : World) : Calls Tryd.prog 10 #[] w fun e w' => e = .returned (.tuple #[.string ⟨#[117, 117, 117, 117, 117, 113, 113, 117, 117, 113, 113, 117, 117, 117, 117, 117, 117]⟩, .string ⟨#[63, 40, 117, 41, 63, 40, 117, 41, 63, 40, 117, 41, 63, 40, 113, 41, 60, 48, 58, 44, 49, 58, 44, 50, 58, 117, 117, 62, 60, 48, 58, 44, 49, 58, 44, 50, 58, 117, 117, 62]⟩]) ∧ w' = w := by
  go_enter Tryd.func10, Tryd.ntmps10
  go_wp2
  go_ret2
  exact ⟨rfl, rfl⟩
theorem uqB_snoc : ∀ (cs : List UInt8) (N : List Int), cs.length = N.length → ∀ c n, uqB (cs ++ [c]) (N ++ [n]) = (uqB cs N && (c == 113 || (decide (0 ≤ n) && decide (n ≤ 4294967295))))
  | [], [], _, c, n => by simp [uqB]
  | [], _ :: _, h, _, _ => by simp at h
  | _ :: _, [], h, _, _ => by simp at h
  | d :: cs, m :: N, h, c, n => by
    simp only [List.cons_append, uqB, uqB_snoc cs N (by simpa using h) c n, Bool.and_assoc]
/-- Are the first k numbers small enough? -/
def gd (N : List Int) (k : Nat) : Bool := uqB (afF.take k) (N.take k)
def skip (k : Nat) : Bool := !(((k : Int) != 5) && (((k : Int) != 6) && (((k : Int) != 9) && ((k : Int) != 10))))
theorem skip_f : ∀ k : Fin 17, (afF[k.val]'(by have := k.isLt; exact this) == 113) = skip k.val := by decide
theorem gd_succ {N : List Int} (hN : N.length = 17) {k : Nat} (hk : k < 17) : gd N (k + 1) = (gd N k && (skip k || (decide (0 ≤ N[k]'(by omega)) && decide (N[k]'(by omega) < 4294967296)))) := by
  have h1 : afF.length = 17 := rfl
  have hs : (afF[k]'(by omega) == 113) = skip k := skip_f ⟨k, hk⟩
  unfold gd
  rw [List.take_succ_eq_append_getElem (by omega), List.take_succ_eq_append_getElem (by omega : k < N.length), uqB_snoc _ _ (by rw [List.length_take, List.length_take]; omega), hs]
  have e : decide (N[k]'(by omega) ≤ 4294967295) = decide (N[k]'(by omega) < 4294967296) := decide_eq_decide.2 (by omega)
  rw [e]
theorem gd_all {N : List Int} (hN : N.length = 17) : gd N 17 = uqB afF N := by
  unfold gd
  rw [List.take_of_length_le (by show afF.length ≤ 17; decide), List.take_of_length_le (by omega)]
structure Kf (w0 : World) (X Y Z : Nat) (a b c : Array Value) (w : World) : Prop where
  x : w.heap[X]? = some (.cells a 33 (0, 0))
  y : w.heap[Y]? = some (.cells b 34 (0, 0))
  z : w.heap[Z]? = some (.cells c 35 (0, 0))
  low : Below w0.heap.size w0 w
theorem Kf.step {w0 w w' : World} {X Y Z : Nat} {a b c : Array Value} (h : Kf w0 X Y Z a b c w) (hb : Below w.heap.size w w') : Kf w0 X Y Z a b c w' :=
  ⟨(hb.block X (Array.getElem?_eq_some_iff.1 h.x).1).trans h.x, (hb.block Y (Array.getElem?_eq_some_iff.1 h.y).1).trans h.y, (hb.block Z (Array.getElem?_eq_some_iff.1 h.z).1).trans h.z, h.low.trans (hb.mono h.low.size)⟩
theorem enc_in (t : List UInt8) (N : List Int) (g : Bool) (h : (g = true → ∃ b, encO t N [] = .ok b) ∧ (g = false → encO t N [] = .error 4)) (ao : Option Addr) (cap : Nat) (w : World) (hI : A.IntsAt w ao N) (hc : N.length ≤ cap ∧ cap ≤ 9223372036854775807) (hl : N.length ≤ 100) :
    Calls Tryd.prog 8 #[.string ⟨t.toArray⟩, .agg #[.slice ao N.length cap, .slice none 0 0]] w fun r w' => ∃ s e, r = .returned (.tuple #[.string s, .int .i64 e]) ∧ (e == 0) = g ∧ Below w.heap.size w w' := by
  obtain ⟨x, hx⟩ : ∃ x, encO t N [] = x := ⟨_, rfl⟩
  refine (encode_any t N [] ao cap none 0 w hI (fun i hi => absurd hi (by simp)) hc (by simp) (by unfold worth; simp; omega) x hx).mono ?_
  rintro r w' ⟨hb, hr⟩
  cases g with
  | true =>
    obtain ⟨b, hb'⟩ := h.1 rfl
    rw [hx] at hb'
    subst hb'
    exact ⟨_, _, hr, rfl, hb⟩
  | false =>
    have h4 := h.2 rfl
    rw [hx] at h4
    subst h4
    exact ⟨_, _, hr, rfl, hb⟩
set_option maxRecDepth 100000 in
set_option maxHeartbeats 40000000 in
theorem forms_walk (n0 n1 n2 n3 n4 n5 n6 n7 n8 n9 n10 n11 n12 n13 n14 n15 n16 : Int) (b0 b1 b2 b3 : Bool) (m0 m1 m2 m3 m4 m5 m6 m7 m8 m9 : Int) (hn : ∀ x ∈ [n0, n1, n2, n3, n4, n5, n6, n7, n8, n9, n10, n11, n12, n13, n14, n15, n16], I64 x) (hm : I64 m0 ∧ I64 m1 ∧ I64 m2 ∧ I64 m3) (w : World) :
    Calls Tryd.prog 4 #[.agg #[.int .i64 n0, .int .i64 n1, .int .i64 n2, .int .i64 n3, .int .i64 n4, .int .i64 n5, .int .i64 n6, .int .i64 n7, .int .i64 n8, .int .i64 n9, .int .i64 n10, .int .i64 n11, .int .i64 n12, .int .i64 n13, .int .i64 n14, .int .i64 n15, .int .i64 n16], .agg #[.bool b0, .bool b1, .bool b2, .bool b3], .agg #[.int .i64 m0, .int .i64 m1, .int .i64 m2, .int .i64 m3, .int .i64 m4, .int .i64 m5, .int .i64 m6, .int .i64 m7, .int .i64 m8, .int .i64 m9]] w fun e w' => e = .returned (.bool true) ∧ Below w.heap.size w w' := by
  have HN := Lib.hid hn
  have HM := Lib.hid hm
  clear hn hm
  obtain ⟨Nl, hNl⟩ : ∃ Nl : List Int, Nl = [n0, n1, n2, n3, n4, n5, n6, n7, n8, n9, n10, n11, n12, n13, n14, n15, n16] := ⟨_, rfl⟩
  have hNlen : Nl.length = 17 := by rw [hNl]; rfl
  have HNL := Lib.hid hNl
  have HLEN := Lib.hid hNlen
  have hK0 : Kf w w.heap.size (w.heap.size + 1) (w.heap.size + 1 + 1) #[.int .i64 n0, .int .i64 n1, .int .i64 n2, .int .i64 n3, .int .i64 n4, .int .i64 n5, .int .i64 n6, .int .i64 n7, .int .i64 n8, .int .i64 n9, .int .i64 n10, .int .i64 n11, .int .i64 n12, .int .i64 n13, .int .i64 n14, .int .i64 n15, .int .i64 n16] #[.bool b0, .bool b1, .bool b2, .bool b3] #[.int .i64 m0, .int .i64 m1, .int .i64 m2, .int .i64 m3, .int .i64 m4, .int .i64 m5, .int .i64 m6, .int .i64 m7, .int .i64 m8, .int .i64 m9] (((w.alloc (.cells #[.int .i64 n0, .int .i64 n1, .int .i64 n2, .int .i64 n3, .int .i64 n4, .int .i64 n5, .int .i64 n6, .int .i64 n7, .int .i64 n8, .int .i64 n9, .int .i64 n10, .int .i64 n11, .int .i64 n12, .int .i64 n13, .int .i64 n14, .int .i64 n15, .int .i64 n16] 33)).alloc (.cells #[.bool b0, .bool b1, .bool b2, .bool b3] 34)).alloc (.cells #[.int .i64 m0, .int .i64 m1, .int .i64 m2, .int .i64 m3, .int .i64 m4, .int .i64 m5, .int .i64 m6, .int .i64 m7, .int .i64 m8, .int .i64 m9] 35)) := by
    refine ⟨(Below.heap_alloc _ _ _ (by simp; omega)).trans ((Below.heap_alloc _ _ _ (by simp)).trans (heap_alloc_new w _)), (Below.heap_alloc _ _ _ (by simp)).trans ?_, ?_, (((Below.refl _ w).alloc (Nat.le_refl _) _).alloc (by simp) _).alloc (by simp; omega) _⟩
    · have := heap_alloc_new (w.alloc (.cells #[.int .i64 n0, .int .i64 n1, .int .i64 n2, .int .i64 n3, .int .i64 n4, .int .i64 n5, .int .i64 n6, .int .i64 n7, .int .i64 n8, .int .i64 n9, .int .i64 n10, .int .i64 n11, .int .i64 n12, .int .i64 n13, .int .i64 n14, .int .i64 n15, .int .i64 n16] 33)) (.cells #[.bool b0, .bool b1, .bool b2, .bool b3] 34)
      simpa using this
    · have := heap_alloc_new ((w.alloc (.cells #[.int .i64 n0, .int .i64 n1, .int .i64 n2, .int .i64 n3, .int .i64 n4, .int .i64 n5, .int .i64 n6, .int .i64 n7, .int .i64 n8, .int .i64 n9, .int .i64 n10, .int .i64 n11, .int .i64 n12, .int .i64 n13, .int .i64 n14, .int .i64 n15, .int .i64 n16] 33)).alloc (.cells #[.bool b0, .bool b1, .bool b2, .bool b3] 34)) (.cells #[.int .i64 m0, .int .i64 m1, .int .i64 m2, .int .i64 m3, .int .i64 m4, .int .i64 m5, .int .i64 m6, .int .i64 m7, .int .i64 m8, .int .i64 m9] 35)
      simpa using this
  have HK0 := Lib.hid hK0
  clear hK0 hNl hNlen
  go_enter Tryd.func4, Tryd.ntmps4
  go_wp2_with fail
  generalize ((w.alloc (.cells #[.int .i64 n0, .int .i64 n1, .int .i64 n2, .int .i64 n3, .int .i64 n4, .int .i64 n5, .int .i64 n6, .int .i64 n7, .int .i64 n8, .int .i64 n9, .int .i64 n10, .int .i64 n11, .int .i64 n12, .int .i64 n13, .int .i64 n14, .int .i64 n15, .int .i64 n16] 33)).alloc (.cells #[.bool b0, .bool b1, .bool b2, .bool b3] 34)).alloc (.cells #[.int .i64 m0, .int .i64 m1, .int .i64 m2, .int .i64 m3, .int .i64 m4, .int .i64 m5, .int .i64 m6, .int .i64 m7, .int .i64 m8, .int .i64 m9] 35) = W at *
  refine (A.speaks_any W).mono ?_
  rintro e w1 ⟨rfl, hB1⟩
  have HK1 := Lib.hid (HK0.out.step hB1)
  clear hB1 HK0
  generalize w.heap.size + 1 + 1 = Z at *
  generalize w.heap.size + 1 = Y at *
  generalize w.heap.size = X at *
  go_wp2_with fail
  refine (form_any w1).mono ?_
  rintro e w2 ⟨rfl, rfl⟩
  go_wp2_with (refine A.list_app rfl (.tmp 35) (.tmp 36) rfl w2.heap.size _ [] rfl (A.own_empty (heap_alloc_new w2 _) (Nat.le_refl _)) (some ⟨X, 0, none⟩) [n0, n1, n2, n3, n4, n5, n6, n7, n8, n9, n10, n11, n12, n13, n14, n15, n16] 17 rfl (A.ints_row (t := 33) (fr := (0, 0)) [n0, n1, n2, n3, n4, n5, n6, n7, n8, n9, n10, n11, n12, n13, n14, n15, n16] ((Below.heap_alloc _ _ _ (Array.getElem?_eq_some_iff.1 HK1.out.x).1).trans HK1.out.x)) (by simp) (by simp) ?_; intro v1 w3 hT1; obtain ⟨io, icap, hv1, hI1, hc1, hc2⟩ := A.own_form hT1.own; subst hv1)
  have hB3 := hT1.below (A.own_empty (B := w2.heap.size) (heap_alloc_new w2 _) (Nat.le_refl _)) ((Below.refl _ w2).alloc (Nat.le_refl _) _) (Nat.le_refl _)
  have HK3 := Lib.hid (HK1.out.step hB3)
  have HI1 := Lib.hid hI1
  clear hB3 hT1 hI1 HK1
  refine (A.get_ok n0 n1 n2 n3 n4 n5 n6 n7 n8 n9 n10 n11 n12 n13 n14 n15 n16 [] io icap w3 HI1.out (by simpa using hc1) hc2 (by simp)).mono ?_
  rintro e w4 ⟨⟨bo, bcap, rfl, -, -⟩, hB4⟩
  have HK4 := Lib.hid (HK3.out.step hB4)
  clear hB4 HK3 HI1 hc1 hc2
  have hx4 : A.AAt (w4.alloc (.cells #[.int .i64 n0, .int .i64 n1, .int .i64 n2, .int .i64 n3, .int .i64 n4, .int .i64 n5, .int .i64 n6, .int .i64 n7, .int .i64 n8, .int .i64 n9, .int .i64 n10, .int .i64 n11, .int .i64 n12, .int .i64 n13, .int .i64 n14, .int .i64 n15, .int .i64 n16] 41)) w4.heap.size n0 n1 n2 n3 n4 n5 n6 n7 n8 n9 n10 n11 n12 n13 n14 n15 n16 := A.AAt.new w4 n0 n1 n2 n3 n4 n5 n6 n7 n8 n9 n10 n11 n12 n13 n14 n15 n16
  have hb4 := (Below.refl w4.heap.size w4).alloc (Nat.le_refl _) (.cells #[.int .i64 n0, .int .i64 n1, .int .i64 n2, .int .i64 n3, .int .i64 n4, .int .i64 n5, .int .i64 n6, .int .i64 n7, .int .i64 n8, .int .i64 n9, .int .i64 n10, .int .i64 n11, .int .i64 n12, .int .i64 n13, .int .i64 n14, .int .i64 n15, .int .i64 n16] 41)
  go_upto_region 8 with (refine A.store28_n rfl n0 n1 n2 n3 n4 n5 n6 n7 n8 n9 n10 n11 n12 n13 n14 n15 n16 _ _ rfl rfl rfl ?_)
  have HA := Lib.hid hx4
  have HK5 := Lib.hid (HK4.out.step hb4)
  clear HK4 hx4 hb4
  generalize w4.alloc (.cells #[.int .i64 n0, .int .i64 n1, .int .i64 n2, .int .i64 n3, .int .i64 n4, .int .i64 n5, .int .i64 n6, .int .i64 n7, .int .i64 n8, .int .i64 n9, .int .i64 n10, .int .i64 n11, .int .i64 n12, .int .i64 n13, .int .i64 n14, .int .i64 n15, .int .i64 n16] 41) = w5 at *
  generalize w4.heap.size = B at *
  go_wp2_with fail
  go_loopw [12, 13] (fun g i wr => ∃ k : Nat, k ≤ 17 ∧ g = .bool (gd Nl k) ∧ i = .int .i64 k ∧ Kf w X Y Z #[.int .i64 n0, .int .i64 n1, .int .i64 n2, .int .i64 n3, .int .i64 n4, .int .i64 n5, .int .i64 n6, .int .i64 n7, .int .i64 n8, .int .i64 n9, .int .i64 n10, .int .i64 n11, .int .i64 n12, .int .i64 n13, .int .i64 n14, .int .i64 n15, .int .i64 n16] #[.bool b0, .bool b1, .bool b2, .bool b3] #[.int .i64 m0, .int .i64 m1, .int .i64 m2, .int .i64 m3, .int .i64 m4, .int .i64 m5, .int .i64 m6, .int .i64 m7, .int .i64 m8, .int .i64 m9] wr ∧ A.AAt wr B n0 n1 n2 n3 n4 n5 n6 n7 n8 n9 n10 n11 n12 n13 n14 n15 n16) (fun _ i _ => 17 - (intOf i).toNat)
  case atStart => exact ⟨0, by omega, rfl, rfl, HK5.out, HA.out⟩
  case round =>
    obtain ⟨k, hk, rfl, rfl, hkf, hat⟩ := hrel
    have HKR := Lib.hid hkf
    have HAR := Lib.hid hat
    clear hkf hat HK5 HA
    by_cases hk17 : k < 17
    · have hd : decide ((k : Int) < 17) = true := decide_eq_true (by omega)
      have hgs := gd_succ HLEN.out hk17
      have hcell : wr.cell? ⟨X, k, none⟩ = some (.int .i64 (Nl[k]'(by rw [HLEN.out]; exact hk17))) := by
        rw [cell_of_row wr X _ _ _ _ HKR.out.x]
        have e : #[.int .i64 n0, .int .i64 n1, .int .i64 n2, .int .i64 n3, .int .i64 n4, .int .i64 n5, .int .i64 n6, .int .i64 n7, .int .i64 n8, .int .i64 n9, .int .i64 n10, .int .i64 n11, .int .i64 n12, .int .i64 n13, .int .i64 n14, .int .i64 n15, .int .i64 n16] = (A.ints Nl).toArray := by rw [HNL.out]; rfl
        rw [e]
        simp [A.ints, HLEN.out, hk17]
      generalize Nl[k]'(by rw [HLEN.out]; exact hk17) = x at *
      have HGS := Lib.hid hgs
      clear hgs
      go_upto_region 11 with (fail)
      go_cut [59] from 42 to 72 (fun v wx => v = .bool (!skip k) ∧ wr = wx)
      case first => as_aux_lemma =>
        have hsk : (!skip k) = (((k : Int) != 5) && (((k : Int) != 6) && (((k : Int) != 9) && ((k : Int) != 10)))) := by unfold skip; simp
        have HSK := Lib.hid hsk
        clear hsk hcell
        cases h5 : ((k : Int) != 5) with
        | false => (go_wp2; go_meet; exact ⟨congrArg Value.bool (by rw [HSK.out, h5]; rfl), rfl⟩)
        | true =>
          cases h6 : ((k : Int) != 6) with
          | false => (go_wp2; go_meet; exact ⟨congrArg Value.bool (by rw [HSK.out, h5, h6]; rfl), rfl⟩)
          | true =>
            cases h9 : ((k : Int) != 9) with
            | false => (go_wp2; go_meet; exact ⟨congrArg Value.bool (by rw [HSK.out, h5, h6, h9]; rfl), rfl⟩)
            | true =>
              cases h10 : ((k : Int) != 10) with
              | false => (go_wp2; go_meet; exact ⟨congrArg Value.bool (by rw [HSK.out, h5, h6, h9, h10]; rfl), rfl⟩)
              | true => (go_wp2; go_meet; exact ⟨congrArg Value.bool (by rw [HSK.out, h5, h6, h9, h10]; rfl), rfl⟩)
      case rest =>
      obtain ⟨rfl, rfl⟩ := hcut
      generalize gd Nl k = gk at *
      generalize skip k = sk at *
      cases sk with
      | true => (go_wp2; exact ⟨⟨k + 1, by omega, congrArg Value.bool (by rw [HGS.out]; simp), by go_num, HKR.out, HAR.out⟩, by simp [intOf]; omega⟩)
      | false =>
        cases gk with
        | false => (go_wp2; exact ⟨⟨k + 1, by omega, congrArg Value.bool (by rw [HGS.out]; rfl), by go_num, HKR.out, HAR.out⟩, by simp [intOf]; omega⟩)
        | true =>
          by_cases h0 : 0 ≤ x
          · by_cases h1 : x < 4294967296
            · (go_wp2; exact ⟨⟨k + 1, by omega, congrArg Value.bool (by rw [HGS.out]; simp [h0, h1]), by go_num, HKR.out, HAR.out⟩, by simp [intOf]; omega⟩)
            · (go_wp2; exact ⟨⟨k + 1, by omega, congrArg Value.bool (by rw [HGS.out]; simp [h1]), by go_num, HKR.out, HAR.out⟩, by simp [intOf]; omega⟩)
          · (go_wp2; exact ⟨⟨k + 1, by omega, congrArg Value.bool (by rw [HGS.out]; simp [h0]), by go_num, HKR.out, HAR.out⟩, by simp [intOf]; omega⟩)
    · obtain rfl : k = 17 := by omega
      have hd : decide (((17 : Nat) : Int) < 17) = false := by decide
      rw [gd_all HLEN.out]
      have hgb : ∃ gb, uqB afF Nl = gb := ⟨_, rfl⟩
      obtain ⟨gb, hgb⟩ := hgb
      rw [hgb]
      have HGB := Lib.hid hgb
      clear hgb
      go_wp2_with (refine A.load28_l rfl HAR.out _ rfl rfl ?_)
      refine (A.put_any n0 n1 n2 n3 n4 n5 n6 n7 n8 n9 n10 n11 n12 n13 n14 n15 n16 wr).mono ?_
      rintro e w6 ⟨rfl, hP, hb⟩
      have HK6 := Lib.hid (HKR.out.step hb)
      have HP := Lib.hid hP
      clear hP hb HKR HAR
      generalize wr.heap.size + 1 = P at *
      have henc := enc_f Nl HLEN.out (by rw [HNL.out]; exact HN.out)
      rw [HGB.out] at henc
      rw [HNL.out] at henc
      have HE := Lib.hid henc
      clear henc
      go_wp2_with fail
      refine (enc_in afF [n0, n1, n2, n3, n4, n5, n6, n7, n8, n9, n10, n11, n12, n13, n14, n15, n16] gb HE.out (some ⟨P, 0, none⟩) 17 w6 HP.out (by simp) (by simp)).mono ?_
      rintro e w7 ⟨s7, e7, rfl, hg7, hb⟩
      have HK7 := Lib.hid (HK6.out.step hb)
      clear hb HP HE HK6
      obtain ⟨c0, c1, c2, c3⟩ : w7.cell? ⟨Y, 0, none⟩ = some (.bool b0) ∧ w7.cell? ⟨Y, 1, none⟩ = some (.bool b1) ∧ w7.cell? ⟨Y, 2, none⟩ = some (.bool b2) ∧ w7.cell? ⟨Y, 3, none⟩ = some (.bool b3) := by
        refine ⟨?_, ?_, ?_, ?_⟩ <;> (rw [cell_of_row w7 Y _ _ _ _ HK7.out.y]; rfl)
      obtain ⟨d0, d1, d2, d3, d4, d5, d6, d7, d8, d9⟩ : w7.cell? ⟨Z, 0, none⟩ = some (.int .i64 m0) ∧ w7.cell? ⟨Z, 1, none⟩ = some (.int .i64 m1) ∧ w7.cell? ⟨Z, 2, none⟩ = some (.int .i64 m2) ∧ w7.cell? ⟨Z, 3, none⟩ = some (.int .i64 m3) ∧ w7.cell? ⟨Z, 4, none⟩ = some (.int .i64 m4) ∧ w7.cell? ⟨Z, 5, none⟩ = some (.int .i64 m5) ∧ w7.cell? ⟨Z, 6, none⟩ = some (.int .i64 m6) ∧ w7.cell? ⟨Z, 7, none⟩ = some (.int .i64 m7) ∧ w7.cell? ⟨Z, 8, none⟩ = some (.int .i64 m8) ∧ w7.cell? ⟨Z, 9, none⟩ = some (.int .i64 m9) := by
        refine ⟨?_, ?_, ?_, ?_, ?_, ?_, ?_, ?_, ?_, ?_⟩ <;> (rw [cell_of_row w7 Z _ _ _ _ HK7.out.z]; rfl)
      go_upto_region 15 with (refine wpList_store_row rfl 49 _ _ rfl w7.heap.size #[.bool b0, .bool b1, .bool b2, .bool b3, .int .i64 m0, .int .i64 m1, .int .i64 m2, .int .i64 m3, .int .i64 m4, .int .i64 m5, .int .i64 m6, .int .i64 m7, .int .i64 m8, .int .i64 m9] rfl rfl 49 #[.bool false, .bool false, .bool false, .bool false, .int .i64 0, .int .i64 0, .int .i64 0, .int .i64 0, .int .i64 0, .int .i64 0, .int .i64 0, .int .i64 0, .int .i64 0, .int .i64 0] (heap_alloc_last w7 _) (by kernel_rfl) rfl (by simp [Value.oneCell']) ?_; rw [World.setRow_alloc_new])
      clear c0 c1 c2 c3 d0 d1 d2 d3 d4 d5 d6 d7 d8 d9
      have hS := heap_alloc_new w7 (.cells #[.bool b0, .bool b1, .bool b2, .bool b3, .int .i64 m0, .int .i64 m1, .int .i64 m2, .int .i64 m3, .int .i64 m4, .int .i64 m5, .int .i64 m6, .int .i64 m7, .int .i64 m8, .int .i64 m9] 49)
      have HK8 := Lib.hid (HK7.out.step ((Below.refl w7.heap.size w7).alloc (Nat.le_refl _) (.cells #[.bool b0, .bool b1, .bool b2, .bool b3, .int .i64 m0, .int .i64 m1, .int .i64 m2, .int .i64 m3, .int .i64 m4, .int .i64 m5, .int .i64 m6, .int .i64 m7, .int .i64 m8, .int .i64 m9] 49)))
      have HS := Lib.hid hS
      clear hS HK7
      generalize w7.alloc (.cells #[.bool b0, .bool b1, .bool b2, .bool b3, .int .i64 m0, .int .i64 m1, .int .i64 m2, .int .i64 m3, .int .i64 m4, .int .i64 m5, .int .i64 m6, .int .i64 m7, .int .i64 m8, .int .i64 m9] 49) = w8 at *
      generalize w7.heap.size = K at *
      obtain ⟨c0, c1, c2, c3⟩ : w8.cell? ⟨Y, 0, none⟩ = some (.bool b0) ∧ w8.cell? ⟨Y, 1, none⟩ = some (.bool b1) ∧ w8.cell? ⟨Y, 2, none⟩ = some (.bool b2) ∧ w8.cell? ⟨Y, 3, none⟩ = some (.bool b3) := by
        refine ⟨?_, ?_, ?_, ?_⟩ <;> (rw [cell_of_row w8 Y _ _ _ _ HK8.out.y]; rfl)
      obtain ⟨d0, d1, d2, d3, d4, d5, d6, d7, d8, d9⟩ : w8.cell? ⟨Z, 0, none⟩ = some (.int .i64 m0) ∧ w8.cell? ⟨Z, 1, none⟩ = some (.int .i64 m1) ∧ w8.cell? ⟨Z, 2, none⟩ = some (.int .i64 m2) ∧ w8.cell? ⟨Z, 3, none⟩ = some (.int .i64 m3) ∧ w8.cell? ⟨Z, 4, none⟩ = some (.int .i64 m4) ∧ w8.cell? ⟨Z, 5, none⟩ = some (.int .i64 m5) ∧ w8.cell? ⟨Z, 6, none⟩ = some (.int .i64 m6) ∧ w8.cell? ⟨Z, 7, none⟩ = some (.int .i64 m7) ∧ w8.cell? ⟨Z, 8, none⟩ = some (.int .i64 m8) ∧ w8.cell? ⟨Z, 9, none⟩ = some (.int .i64 m9) := by
        refine ⟨?_, ?_, ?_, ?_, ?_, ?_, ?_, ?_, ?_, ?_⟩ <;> (rw [cell_of_row w8 Z _ _ _ _ HK8.out.z]; rfl)
      obtain ⟨p0, hp0⟩ : ∃ p, p = peB 117 b0 m0 := ⟨_, rfl⟩
      obtain ⟨p1, hp1⟩ : ∃ p, p = (p0 && peB 117 b1 m1) := ⟨_, rfl⟩
      obtain ⟨p2, hp2⟩ : ∃ p, p = (p1 && peB 117 b2 m2) := ⟨_, rfl⟩
      obtain ⟨q0, hq0⟩ : ∃ p, p = (p2 && moB m4 m6 m7) := ⟨_, rfl⟩
      obtain ⟨q1, hq1⟩ : ∃ p, p = (q0 && moB m5 m8 m9) := ⟨_, rfl⟩
      have HP0 := Lib.hid hp0
      have HP1 := Lib.hid hp1
      have HP2 := Lib.hid hp2
      have HQ0 := Lib.hid hq0
      have HQ1 := Lib.hid hq1
      have hfit : setB b0 b1 b2 m0 m1 m2 m4 m5 m6 m7 m8 m9 = q1 := by
        rw [hq1, hq0, hp2, hp1, hp0]; rfl
      have HFIT := Lib.hid hfit
      clear hp0 hp1 hp2 hq0 hq1 hfit
      go_wp2_with fail
      go_loopw [17, 18] (fun f i wr => w8 = wr ∧ ((i = .int .i64 0 ∧ f = .bool true) ∨ (i = .int .i64 1 ∧ f = .bool p0) ∨ (i = .int .i64 2 ∧ f = .bool p1) ∨ (i = .int .i64 3 ∧ f = .bool p2))) (fun _ i _ => 3 - (intOf i).toNat)
      case atStart => exact ⟨rfl, .inl ⟨rfl, rfl⟩⟩
      case round =>
        obtain ⟨rfl, hh⟩ := hrel
        rcases hh with ⟨rfl, rfl⟩ | ⟨rfl, rfl⟩ | ⟨rfl, rfl⟩ | ⟨rfl, rfl⟩
        · cases b0 with
          | false => (go_wp2; exact ⟨⟨by trivial, .inr (.inl ⟨by go_num, congrArg Value.bool (by rw [HP0.out]; rfl)⟩)⟩, by simp [intOf]⟩)
          | true =>
            by_cases h0 : 0 ≤ m0
            · by_cases h1 : m0 < 4294967296
              · have h2 : m0 ≤ 4294967295 := by omega
                (go_wp2; exact ⟨⟨by trivial, .inr (.inl ⟨by go_num, congrArg Value.bool (by rw [HP0.out]; simp [peB, h0, h2])⟩)⟩, by simp [intOf]⟩)
              · have h2 : ¬ m0 ≤ 4294967295 := by omega
                (go_wp2; exact ⟨⟨by trivial, .inr (.inl ⟨by go_num, congrArg Value.bool (by rw [HP0.out]; simp [peB, h2])⟩)⟩, by simp [intOf]⟩)
            · (go_wp2; exact ⟨⟨by trivial, .inr (.inl ⟨by go_num, congrArg Value.bool (by rw [HP0.out]; simp [peB, h0])⟩)⟩, by simp [intOf]⟩)
        · cases p0 with
          | false => (go_wp2; exact ⟨⟨by trivial, .inr (.inr (.inl ⟨by go_num, congrArg Value.bool (by rw [HP1.out]; rfl)⟩))⟩, by simp [intOf]⟩)
          | true =>
            cases b1 with
            | false => (go_wp2; exact ⟨⟨by trivial, .inr (.inr (.inl ⟨by go_num, congrArg Value.bool (by rw [HP1.out]; rfl)⟩))⟩, by simp [intOf]⟩)
            | true =>
              by_cases h0 : 0 ≤ m1
              · by_cases h1 : m1 < 4294967296
                · have h2 : m1 ≤ 4294967295 := by omega
                  (go_wp2; exact ⟨⟨by trivial, .inr (.inr (.inl ⟨by go_num, congrArg Value.bool (by rw [HP1.out]; simp [peB, h0, h2])⟩))⟩, by simp [intOf]⟩)
                · have h2 : ¬ m1 ≤ 4294967295 := by omega
                  (go_wp2; exact ⟨⟨by trivial, .inr (.inr (.inl ⟨by go_num, congrArg Value.bool (by rw [HP1.out]; simp [peB, h2])⟩))⟩, by simp [intOf]⟩)
              · (go_wp2; exact ⟨⟨by trivial, .inr (.inr (.inl ⟨by go_num, congrArg Value.bool (by rw [HP1.out]; simp [peB, h0])⟩))⟩, by simp [intOf]⟩)
        · cases p1 with
          | false => (go_wp2; exact ⟨⟨by trivial, .inr (.inr (.inr ⟨by go_num, congrArg Value.bool (by rw [HP2.out]; rfl)⟩))⟩, by simp [intOf]⟩)
          | true =>
            cases b2 with
            | false => (go_wp2; exact ⟨⟨by trivial, .inr (.inr (.inr ⟨by go_num, congrArg Value.bool (by rw [HP2.out]; rfl)⟩))⟩, by simp [intOf]⟩)
            | true =>
              by_cases h0 : 0 ≤ m2
              · by_cases h1 : m2 < 4294967296
                · have h2 : m2 ≤ 4294967295 := by omega
                  (go_wp2; exact ⟨⟨by trivial, .inr (.inr (.inr ⟨by go_num, congrArg Value.bool (by rw [HP2.out]; simp [peB, h0, h2])⟩))⟩, by simp [intOf]⟩)
                · have h2 : ¬ m2 ≤ 4294967295 := by omega
                  (go_wp2; exact ⟨⟨by trivial, .inr (.inr (.inr ⟨by go_num, congrArg Value.bool (by rw [HP2.out]; simp [peB, h2])⟩))⟩, by simp [intOf]⟩)
              · (go_wp2; exact ⟨⟨by trivial, .inr (.inr (.inr ⟨by go_num, congrArg Value.bool (by rw [HP2.out]; simp [peB, h0])⟩))⟩, by simp [intOf]⟩)
        · clear c0 c1 c2 c3
          go_wp2_with fail
          go_loopw [17, 19] (fun f i wr => w8 = wr ∧ ((i = .int .i64 0 ∧ f = .bool p2) ∨ (i = .int .i64 1 ∧ f = .bool q0) ∨ (i = .int .i64 2 ∧ f = .bool q1))) (fun _ i _ => 2 - (intOf i).toNat)
          case atStart => exact ⟨rfl, .inl ⟨rfl, rfl⟩⟩
          case round =>
            obtain ⟨rfl, hh⟩ := hrel
            rcases hh with ⟨rfl, rfl⟩ | ⟨rfl, rfl⟩ | ⟨rfl, rfl⟩
            · cases p2 with
              | false => (go_wp2; exact ⟨⟨by trivial, .inr (.inl ⟨by go_num, congrArg Value.bool (by rw [HQ0.out]; rfl)⟩)⟩, by simp [intOf]⟩)
              | true =>
                by_cases h0 : 0 ≤ m4
                · by_cases h1 : m4 ≤ 2
                  · by_cases h2 : m4 < 2
                    · (go_wp2; exact ⟨⟨by trivial, .inr (.inl ⟨by go_num, congrArg Value.bool (by rw [HQ0.out]; simp [moB, h0, h1, h2])⟩)⟩, by simp [intOf]⟩)
                    · by_cases h3 : 0 ≤ m6
                      · by_cases h4 : m6 < 4294967296
                        · have k4 : m6 ≤ 4294967295 := by omega
                          by_cases h5 : 0 ≤ m7
                          · by_cases h6 : m7 < 4294967296
                            · have k6 : m7 ≤ 4294967295 := by omega
                              (go_wp2; exact ⟨⟨by trivial, .inr (.inl ⟨by go_num, congrArg Value.bool (by rw [HQ0.out]; simp [moB, h0, h1, h3, k4, h5, k6])⟩)⟩, by simp [intOf]⟩)
                            · have k6 : ¬ m7 ≤ 4294967295 := by omega
                              (go_wp2; exact ⟨⟨by trivial, .inr (.inl ⟨by go_num, congrArg Value.bool (by rw [HQ0.out]; simp [moB, h2, k6])⟩)⟩, by simp [intOf]⟩)
                          · (go_wp2; exact ⟨⟨by trivial, .inr (.inl ⟨by go_num, congrArg Value.bool (by rw [HQ0.out]; simp [moB, h2, h5])⟩)⟩, by simp [intOf]⟩)
                        · have k4 : ¬ m6 ≤ 4294967295 := by omega
                          (go_wp2; exact ⟨⟨by trivial, .inr (.inl ⟨by go_num, congrArg Value.bool (by rw [HQ0.out]; simp [moB, h2, k4])⟩)⟩, by simp [intOf]⟩)
                      · (go_wp2; exact ⟨⟨by trivial, .inr (.inl ⟨by go_num, congrArg Value.bool (by rw [HQ0.out]; simp [moB, h2, h3])⟩)⟩, by simp [intOf]⟩)
                  · (go_wp2; exact ⟨⟨by trivial, .inr (.inl ⟨by go_num, congrArg Value.bool (by rw [HQ0.out]; simp [moB, h1])⟩)⟩, by simp [intOf]⟩)
                · (go_wp2; exact ⟨⟨by trivial, .inr (.inl ⟨by go_num, congrArg Value.bool (by rw [HQ0.out]; simp [moB, h0])⟩)⟩, by simp [intOf]⟩)
            · cases q0 with
              | false => (go_wp2; exact ⟨⟨by trivial, .inr (.inr ⟨by go_num, congrArg Value.bool (by rw [HQ1.out]; rfl)⟩)⟩, by simp [intOf]⟩)
              | true =>
                by_cases h0 : 0 ≤ m5
                · by_cases h1 : m5 ≤ 2
                  · by_cases h2 : m5 < 2
                    · (go_wp2; exact ⟨⟨by trivial, .inr (.inr ⟨by go_num, congrArg Value.bool (by rw [HQ1.out]; simp [moB, h0, h1, h2])⟩)⟩, by simp [intOf]⟩)
                    · by_cases h3 : 0 ≤ m8
                      · by_cases h4 : m8 < 4294967296
                        · have k4 : m8 ≤ 4294967295 := by omega
                          by_cases h5 : 0 ≤ m9
                          · by_cases h6 : m9 < 4294967296
                            · have k6 : m9 ≤ 4294967295 := by omega
                              (go_wp2; exact ⟨⟨by trivial, .inr (.inr ⟨by go_num, congrArg Value.bool (by rw [HQ1.out]; simp [moB, h0, h1, h3, k4, h5, k6])⟩)⟩, by simp [intOf]⟩)
                            · have k6 : ¬ m9 ≤ 4294967295 := by omega
                              (go_wp2; exact ⟨⟨by trivial, .inr (.inr ⟨by go_num, congrArg Value.bool (by rw [HQ1.out]; simp [moB, h2, k6])⟩)⟩, by simp [intOf]⟩)
                          · (go_wp2; exact ⟨⟨by trivial, .inr (.inr ⟨by go_num, congrArg Value.bool (by rw [HQ1.out]; simp [moB, h2, h5])⟩)⟩, by simp [intOf]⟩)
                        · have k4 : ¬ m8 ≤ 4294967295 := by omega
                          (go_wp2; exact ⟨⟨by trivial, .inr (.inr ⟨by go_num, congrArg Value.bool (by rw [HQ1.out]; simp [moB, h2, k4])⟩)⟩, by simp [intOf]⟩)
                      · (go_wp2; exact ⟨⟨by trivial, .inr (.inr ⟨by go_num, congrArg Value.bool (by rw [HQ1.out]; simp [moB, h2, h3])⟩)⟩, by simp [intOf]⟩)
                  · (go_wp2; exact ⟨⟨by trivial, .inr (.inr ⟨by go_num, congrArg Value.bool (by rw [HQ1.out]; simp [moB, h1])⟩)⟩, by simp [intOf]⟩)
                · (go_wp2; exact ⟨⟨by trivial, .inr (.inr ⟨by go_num, congrArg Value.bool (by rw [HQ1.out]; simp [moB, h0])⟩)⟩, by simp [intOf]⟩)
            · clear d0 d1 d2 d3 d4 d5 d6 d7 d8 d9
              go_wp2_with (refine wpList_load_row rfl 49 _ rfl K rfl 49 _ (0, 0) _ HS.out Tryd.underlying49 rfl (by kernel_rfl) ?_)
              refine (A.made_any b0 b1 b2 b3 m0 m1 m2 m3 m4 m5 m6 m7 m8 m9 w8).mono ?_
              rintro e w9 ⟨rfl, hb9⟩
              have HK9 := Lib.hid (HK8.out.low.trans (hb9.mono HK8.out.low.size))
              clear hb9 HK8 HS
              go_wp2_with fail
              refine (A.put_set b0 b1 b2 b3 m0 m1 m2 m3 m4 m5 m6 m7 m8 m9 w9).mono ?_
              rintro e w10 ⟨v', rfl, hp⟩
              have henc := enc_g b0 b1 b2 b3 m0 m1 m2 m3 m4 m5 m6 m7 m8 m9 HM.out.1 HM.out.2.1 HM.out.2.2.1 HM.out.2.2.2
              rw [HFIT.out] at henc
              have hpl : (A.putL b0 b1 b2 b3 m0 m1 m2 m3 m4 m5 m6 m7 m8 m9).length ≤ 100 := by
                have s0 := A.pe_short b0 m0
                have s1 := A.pe_short b1 m1
                have s2 := A.pe_short b2 m2
                have s3 := A.pe_short b3 m3
                have s4 := A.mo_short m4 m6 m7
                have s5 := A.mo_short m5 m8 m9
                unfold A.putL
                simp only [List.length_append, List.length_nil]
                omega
              generalize A.putL b0 b1 b2 b3 m0 m1 m2 m3 m4 m5 m6 m7 m8 m9 = PL at *
              obtain ⟨ao, cap, rfl, hI, hc1, hc2⟩ := A.own_form hp.own
              have HK10 := Lib.hid (HK9.out.trans (hp.low.mono HK9.out.size))
              have HE2 := Lib.hid henc
              have HI2 := Lib.hid hI
              clear hp henc hI HK9
              go_wp2_with fail
              refine (enc_in afG PL q1 HE2.out ao cap w10 HI2.out ⟨hc1, hc2⟩ hpl).mono ?_
              rintro e w11 ⟨s8, e8, rfl, hg8, hb⟩
              have HK11 := Lib.hid (HK10.out.trans (hb.mono HK10.out.size))
              clear hb HE2 HI2 HK10
              go_wp2
              all_goals
                go_ret
                exact ⟨rfl, HK11.out⟩
end Go.Proofs.YtakfpfnaogdmlaaDoor
