/-
  SchemaShort's walk: it answers true, and makes new blocks alone. No condition.
-/
import Derived.Test.YtfblnbcdnokdnaaDoorSp
import Derived.Test.YtfblnbcdnokdnaaDoorSm
import Derived.Deep.DeepCutAuto
namespace Go.Proofs.YtfblnbcdnokdnaaDoor
open Go.RowKit Sch
theorem decode_b (F s : ByteArray) (w : World) (x : Except Int (List Int × List ByteArray)) (hx : decO F.data.toList s = x) : Calls Tryd.prog 12 #[.string F, .string s] w (DeTo w x) := by
  have h := decode_any F.data.toList s w x hx
  have e : (⟨F.data.toList.toArray⟩ : ByteArray) = F := by simp
  rwa [e] at h
theorem decO_err {t : List UInt8} {s : ByteArray} {e : Int} (h : decO t s = .error e) : e ≠ 0 := by
  unfold decO at h
  split at h
  · simp only [Except.error.injEq] at h; omega
  · rename_i r _
    split at h
    · simp only [Except.error.injEq] at h; omega
    · unfold takenO at h
      split at h
      · rename_i e' he
        simp only [Except.error.injEq] at h
        subst h
        exact (sane_tk r none).err _ _ he
      · split at h
        · cases h
        · simp only [Except.error.injEq] at h; omega
/-- Of a value that was taken: with bytes more, and cut short. -/
theorem decO_more {t : List UInt8} {s : ByteArray} {n : List Int} {tt : List ByteArray} (h : decO t s = .ok (n, tt)) (hs : s.size ≤ 65000) : decO t (s ++ ⟨#[0, 0, 0, 0]⟩) = .error 6 ∧ ∀ c, c < s.size → decO t (s.extract 0 c) = .error 5 := by
  unfold decO at h ⊢
  split at h
  · cases h
  · rename_i r hr
    have hsl : s.data.toList.length = s.size := by simp
    split at h
    · cases h
    · unfold takenO at h ⊢
      split at h
      · cases h
      · rename_i n1 t1 l1 htk
        split at h
        · rename_i hl1
          subst hl1
          obtain ⟨y, e1, e2, e3⟩ := (sane_tk r none).loc _ _ _ _ htk
          rw [List.append_nil] at e1
          subst e1
          refine ⟨?_, fun c hc => ?_⟩
          · have g1 : (s ++ (⟨#[0, 0, 0, 0]⟩ : ByteArray)).data.toList = s.data.toList ++ [0, 0, 0, 0] := by rw [ByteArray.data_append]; simp
            have g2 : (s ++ (⟨#[0, 0, 0, 0]⟩ : ByteArray)).size = s.size + 4 := by rw [ByteArray.size_append]; rfl
            rw [if_neg (by omega), g1, e2]
            rfl
          · have g1 : (s.extract 0 c).data.toList = s.data.toList.take c := by rw [ByteArray.data_extract]; simp
            have g2 : (s.extract 0 c).size ≤ s.size := by rw [ByteArray.size_extract]; omega
            rw [if_neg (by omega), g1, e3 c (by omega)]
        · cases h
set_option maxRecDepth 100000 in
set_option maxHeartbeats 2000000 in
theorem short_walk (F s : ByteArray) (cut : Int) (w : World) : Calls Tryd.prog 5 #[.string F, .string s, .int .i64 cut] w fun e w' => e = .returned (.bool true) ∧ Below w.heap.size w w' := by
  go_enter Tryd.func5, Tryd.ntmps5
  go_wp2_with fail
  refine (speaks_any _).mono ?_
  rintro r w1 ⟨rfl, hB1⟩
  have HB1 := Lib.hid hB1
  clear hB1
  go_wp2_with fail
  obtain ⟨x, hx⟩ : ∃ x, decO F.data.toList s = x := ⟨_, rfl⟩
  refine (decode_b F s w1 x hx).mono ?_
  rintro r w2 ⟨hB2, hr⟩
  have HB2 := Lib.hid (HB1.out.trans (hB2.mono HB1.out.size))
  clear hB2 HB1
  cases x with
  | error e =>
    simp only at hr
    subst hr
    have he : (e != 0) = true := by simpa using decO_err hx
    have HB3 := Lib.hid (HB2.out.alloc HB2.out.size (.cells #[.slice none 0 0, .slice none 0 0] 31))
    clear hx
    go_wp2
    go_ret
    exact ⟨rfl, HB3.out⟩
  | ok y =>
    obtain ⟨n, tt⟩ := y
    obtain ⟨vN, vT, rfl, hN, hT⟩ := hr
    obtain ⟨on, cn, rfl⟩ := owns_slice hN
    obtain ⟨ot, ct, rfl⟩ := owns_slice hT
    clear hN hT
    have HX := Lib.hid hx
    clear hx
    have HB3 := Lib.hid (HB2.out.alloc HB2.out.size (.cells #[.slice on n.length cn, .slice ot tt.length ct] 31))
    by_cases hl : 65000 < s.size
    · go_wp2
      go_ret
      exact ⟨rfl, HB3.out⟩
    · obtain ⟨hmore, hless⟩ := decO_more HX.out (by omega)
      have HM := Lib.hid hmore
      have HLS := Lib.hid hless
      clear hmore hless
      by_cases h1 : cut < 0
      · obtain ⟨c, hc⟩ : ∃ c : Nat, c = 0 := ⟨0, rfl⟩
        have hc1 : c ≤ s.size := by omega
        have hc2 : s.size ≠ 0 → c < s.size := by omega
        subst hc
        by_cases h0 : s.size = 0
        · have hs0 : s = ⟨#[]⟩ := by
            have : s.data.size = 0 := h0
            apply ByteArray.ext
            exact Array.eq_empty_of_size_eq_zero this
          have hex : ByteArray.empty = s := by rw [hs0]; rfl
          have HEX := Lib.hid hex
          have hz : ((s.size : Int) == 0) = true := by simp [h0]
          have HZ := Lib.hid hz
          clear hex hs0 h0 hc2 hz
          go_wp2_with fail
          have hd := decode_b F ByteArray.empty (w2.alloc (.cells #[.slice on n.length cn, .slice ot tt.length ct] 31)) (.ok (n, tt)) (by rw [HEX.out]; exact HX.out)
          refine hd.mono ?_
          clear hd
          rintro r w4 ⟨hB4, vN, vT, rfl, hN, hT⟩
          obtain ⟨on2, cn2, rfl⟩ := owns_slice hN
          obtain ⟨ot2, ct2, rfl⟩ := owns_slice hT
          have HB4 := Lib.hid ((HB3.out.trans (hB4.mono HB3.out.size)).alloc (by have := HB3.out.size; have := hB4.size; omega) (.cells #[.slice on2 n.length cn2, .slice ot2 tt.length ct2] 31))
          clear hB4 hN hT HB3
          go_wp2_with fail
          generalize w4.alloc (.cells #[.slice on2 n.length cn2, .slice ot2 tt.length ct2] 31) = w5 at *
          refine (decode_b F _ w5 _ HM.out).mono ?_
          rintro r w6 ⟨hB6, rfl⟩
          have HB6 := Lib.hid ((HB4.out.trans (hB6.mono HB4.out.size)).alloc (by have := HB4.out.size; have := hB6.size; omega) (.cells #[.slice none 0 0, .slice none 0 0] 31))
          clear hB6 HB4
          have hz := HZ.out
          go_wp2
          go_ret
          exact ⟨rfl, HB6.out⟩
        · have hlt := hc2 h0
          have hz : ((s.size : Int) == 0) = false := by simpa using h0
          go_wp2_with fail
          refine (decode_b F ByteArray.empty (w2.alloc (.cells #[.slice on n.length cn, .slice ot tt.length ct] 31)) (.error 5) (by have h := HLS.out 0 hlt; rwa [show s.extract 0 0 = ByteArray.empty by simp] at h)).mono ?_
          rintro r w4 ⟨hB4, rfl⟩
          have hv0 := heap_alloc_new w4 (.cells #[.slice none 0 0, .slice none 0 0] 31)
          have HB4 := Lib.hid ((HB3.out.trans (hB4.mono HB3.out.size)).alloc (by have := HB3.out.size; have := hB4.size; omega) (.cells #[.slice none 0 0, .slice none 0 0] 31))
          clear hB4 HB3
          go_wp2_with fail
          generalize w4.alloc (.cells #[.slice none 0 0, .slice none 0 0] 31) = w5 at *
          refine (decode_b F _ w5 _ HM.out).mono ?_
          rintro r w6 ⟨hB6, rfl⟩
          have hv6 := (hB6.block _ (Array.getElem?_eq_some_iff.1 hv0).1).trans hv0
          have hv7 : (w6.alloc (.cells #[.slice none 0 0, .slice none 0 0] 31)).heap[w4.heap.size]? = some (.cells #[.slice none 0 0, .slice none 0 0] 31 (0, 0)) := (Below.heap_alloc _ _ _ (Array.getElem?_eq_some_iff.1 hv6).1).trans hv6
          have k0 : (w6.alloc (.cells #[.slice none 0 0, .slice none 0 0] 31)).cell? ⟨w4.heap.size, 0, none⟩ = some (.slice none 0 0) := by rw [cell_of_row _ _ _ _ _ _ hv7]; rfl
          have HB6 := Lib.hid ((HB4.out.trans (hB6.mono HB4.out.size)).alloc (by have := HB4.out.size; have := hB6.size; omega) (.cells #[.slice none 0 0, .slice none 0 0] 31))
          clear hB6 HB4 hv0 hv6 hv7
          go_wp2
          go_ret
          exact ⟨rfl, HB6.out⟩
      · by_cases h2 : (s.size : Int) ≤ cut
        · obtain ⟨c, hc⟩ : ∃ c : Nat, c = 0 := ⟨0, rfl⟩
          have hc1 : c ≤ s.size := by omega
          have hc2 : s.size ≠ 0 → c < s.size := by omega
          subst hc
          by_cases h0 : s.size = 0
          · have hs0 : s = ⟨#[]⟩ := by
              have : s.data.size = 0 := h0
              apply ByteArray.ext
              exact Array.eq_empty_of_size_eq_zero this
            have hex : ByteArray.empty = s := by rw [hs0]; rfl
            have HEX := Lib.hid hex
            have hz : ((s.size : Int) == 0) = true := by simp [h0]
            have HZ := Lib.hid hz
            clear hex hs0 h0 hc2 hz
            go_wp2_with fail
            have hd := decode_b F ByteArray.empty (w2.alloc (.cells #[.slice on n.length cn, .slice ot tt.length ct] 31)) (.ok (n, tt)) (by rw [HEX.out]; exact HX.out)
            refine hd.mono ?_
            clear hd
            rintro r w4 ⟨hB4, vN, vT, rfl, hN, hT⟩
            obtain ⟨on2, cn2, rfl⟩ := owns_slice hN
            obtain ⟨ot2, ct2, rfl⟩ := owns_slice hT
            have HB4 := Lib.hid ((HB3.out.trans (hB4.mono HB3.out.size)).alloc (by have := HB3.out.size; have := hB4.size; omega) (.cells #[.slice on2 n.length cn2, .slice ot2 tt.length ct2] 31))
            clear hB4 hN hT HB3
            go_wp2_with fail
            generalize w4.alloc (.cells #[.slice on2 n.length cn2, .slice ot2 tt.length ct2] 31) = w5 at *
            refine (decode_b F _ w5 _ HM.out).mono ?_
            rintro r w6 ⟨hB6, rfl⟩
            have HB6 := Lib.hid ((HB4.out.trans (hB6.mono HB4.out.size)).alloc (by have := HB4.out.size; have := hB6.size; omega) (.cells #[.slice none 0 0, .slice none 0 0] 31))
            clear hB6 HB4
            have hz := HZ.out
            go_wp2
            go_ret
            exact ⟨rfl, HB6.out⟩
          · have hlt := hc2 h0
            have hz : ((s.size : Int) == 0) = false := by simpa using h0
            go_wp2_with fail
            refine (decode_b F ByteArray.empty (w2.alloc (.cells #[.slice on n.length cn, .slice ot tt.length ct] 31)) (.error 5) (by have h := HLS.out 0 hlt; rwa [show s.extract 0 0 = ByteArray.empty by simp] at h)).mono ?_
            rintro r w4 ⟨hB4, rfl⟩
            have hv0 := heap_alloc_new w4 (.cells #[.slice none 0 0, .slice none 0 0] 31)
            have HB4 := Lib.hid ((HB3.out.trans (hB4.mono HB3.out.size)).alloc (by have := HB3.out.size; have := hB4.size; omega) (.cells #[.slice none 0 0, .slice none 0 0] 31))
            clear hB4 HB3
            go_wp2_with fail
            generalize w4.alloc (.cells #[.slice none 0 0, .slice none 0 0] 31) = w5 at *
            refine (decode_b F _ w5 _ HM.out).mono ?_
            rintro r w6 ⟨hB6, rfl⟩
            have hv6 := (hB6.block _ (Array.getElem?_eq_some_iff.1 hv0).1).trans hv0
            have hv7 : (w6.alloc (.cells #[.slice none 0 0, .slice none 0 0] 31)).heap[w4.heap.size]? = some (.cells #[.slice none 0 0, .slice none 0 0] 31 (0, 0)) := (Below.heap_alloc _ _ _ (Array.getElem?_eq_some_iff.1 hv6).1).trans hv6
            have k0 : (w6.alloc (.cells #[.slice none 0 0, .slice none 0 0] 31)).cell? ⟨w4.heap.size, 0, none⟩ = some (.slice none 0 0) := by rw [cell_of_row _ _ _ _ _ _ hv7]; rfl
            have HB6 := Lib.hid ((HB4.out.trans (hB6.mono HB4.out.size)).alloc (by have := HB4.out.size; have := hB6.size; omega) (.cells #[.slice none 0 0, .slice none 0 0] 31))
            clear hB6 HB4 hv0 hv6 hv7
            go_wp2
            go_ret
            exact ⟨rfl, HB6.out⟩
        · obtain ⟨c, hc⟩ : ∃ c : Nat, cut = (c : Int) := ⟨cut.toNat, by omega⟩
          subst hc
          have hc1 : c ≤ s.size := by omega
          have hc2 : s.size ≠ 0 → c < s.size := by omega
          by_cases h0 : s.size = 0
          · exfalso; omega
          · have hlt := hc2 h0
            have hz : ((s.size : Int) == 0) = false := by simpa using h0
            go_wp2_with fail
            refine (decode_b F (s.extract 0 c) (w2.alloc (.cells #[.slice on n.length cn, .slice ot tt.length ct] 31)) _ (HLS.out c hlt)).mono ?_
            rintro r w4 ⟨hB4, rfl⟩
            have hv0 := heap_alloc_new w4 (.cells #[.slice none 0 0, .slice none 0 0] 31)
            have HB4 := Lib.hid ((HB3.out.trans (hB4.mono HB3.out.size)).alloc (by have := HB3.out.size; have := hB4.size; omega) (.cells #[.slice none 0 0, .slice none 0 0] 31))
            clear hB4 HB3
            go_wp2_with fail
            generalize w4.alloc (.cells #[.slice none 0 0, .slice none 0 0] 31) = w5 at *
            refine (decode_b F _ w5 _ HM.out).mono ?_
            rintro r w6 ⟨hB6, rfl⟩
            have hv6 := (hB6.block _ (Array.getElem?_eq_some_iff.1 hv0).1).trans hv0
            have hv7 : (w6.alloc (.cells #[.slice none 0 0, .slice none 0 0] 31)).heap[w4.heap.size]? = some (.cells #[.slice none 0 0, .slice none 0 0] 31 (0, 0)) := (Below.heap_alloc _ _ _ (Array.getElem?_eq_some_iff.1 hv6).1).trans hv6
            have k0 : (w6.alloc (.cells #[.slice none 0 0, .slice none 0 0] 31)).cell? ⟨w4.heap.size, 0, none⟩ = some (.slice none 0 0) := by rw [cell_of_row _ _ _ _ _ _ hv7]; rfl
            have HB6 := Lib.hid ((HB4.out.trans (hB6.mono HB4.out.size)).alloc (by have := HB4.out.size; have := hB6.size; omega) (.cells #[.slice none 0 0, .slice none 0 0] 31))
            clear hB6 HB4 hv0 hv6 hv7
            go_wp2
            go_ret
            exact ⟨rfl, HB6.out⟩
end Go.Proofs.YtfblnbcdnokdnaaDoor
