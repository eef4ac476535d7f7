/-
  Check: may it be a name? The program's and the document's answer the same. No condition.
-/
import Derived.Test.YtmmfmmjjpbfmeaaDoorCa
namespace Go.Proofs.YtmmfmmjjpbfmeaaDoor
open Go.RowKit
theorem bad_ex (l : List UInt8) : (bad l = true) ↔ ∃ i : Nat, ∃ b, l[i]? = some b ∧ (b = 47 ∨ b = 0) := by
  unfold bad
  rw [List.any_eq_true]
  constructor
  · rintro ⟨b, hb, h⟩
    obtain ⟨i, hi⟩ := List.mem_iff_getElem?.1 hb
    exact ⟨i, b, hi, by simpa using h⟩
  · rintro ⟨i, b, hi, h⟩
    exact ⟨b, List.mem_iff_getElem?.2 ⟨i, hi⟩, by simpa using h⟩
set_option maxRecDepth 100000 in
set_option maxHeartbeats 2000000 in
theorem check_any (s : ByteArray) (w : World) : Calls Tryd.prog 8 #[.string s] w fun e w' => e = .returned (.int .i64 (ck s)) ∧ Below w.heap.size w w' := by
  obtain ⟨c, hc⟩ : ∃ c, ck s = c := ⟨_, rfl⟩
  rw [hc]
  unfold ck at hc
  have HC := Lib.hid hc
  clear hc
  by_cases h : 64 < s.size
  · have hz : ((64 : Int) < (s.size : Int)) := by omega
    have HH := Lib.hid h
    clear h
    go_enter Tryd.func8, Tryd.ntmps8
    go_wp2
    go_ret
    exact ⟨by rw [← HC.out, if_pos HH.out]; rfl, Below.refl _ _⟩
  · have hz : ¬ ((64 : Int) < (s.size : Int)) := by omega
    have HH := Lib.hid h
    clear h
    by_cases h1 : s.toList = []
    · have H1 := Lib.hid h1
      have b1 : s.toList.isEmpty = true := by rw [h1]; rfl
      clear h1
      go_enter Tryd.func8, Tryd.ntmps8
      go_wp2
      go_ret
      exact ⟨by rw [← HC.out, if_neg HH.out, if_pos (.inl H1.out)]; rfl, Below.refl _ _⟩
    by_cases h2 : s.toList = [46]
    · have H2 := Lib.hid h2
      have b1 : s.toList.isEmpty = false := by rw [h2]; rfl
      have b2 : (s.toList == [46]) = true := by rw [h2]; rfl
      clear h1 h2
      go_enter Tryd.func8, Tryd.ntmps8
      go_wp2
      go_ret
      exact ⟨by rw [← HC.out, if_neg HH.out, if_pos (.inr (.inl H2.out))]; rfl, Below.refl _ _⟩
    by_cases h3 : s.toList = [46, 46]
    · have H3 := Lib.hid h3
      have b1 : s.toList.isEmpty = false := by rw [h3]; rfl
      have b2 : (s.toList == [46]) = false := by rw [h3]; rfl
      have b3 : (s.toList == [46, 46]) = true := by rw [h3]; rfl
      clear h1 h2 h3
      go_enter Tryd.func8, Tryd.ntmps8
      go_wp2
      go_ret
      exact ⟨by rw [← HC.out, if_neg HH.out, if_pos (.inr (.inr (.inl H3.out)))]; rfl, Below.refl _ _⟩
    have b1 : s.toList.isEmpty = false := by simpa using h1
    have b2 : (s.toList == [46]) = false := by simpa using h2
    have b3 : (s.toList == [46, 46]) = false := by simpa using h3
    have HE : Hid (c = if bad s.data.toList = true then 22 else 0) := Lib.hid (by
      rw [← HC.out, if_neg HH.out]
      cases hb : bad s.data.toList with
      | true => rw [if_pos (.inr (.inr (.inr rfl))), if_pos rfl]
      | false => rw [if_neg (by intro h; rcases h with h | h | h | h; exact h1 h; exact h2 h; exact h3 h; cases h), if_neg (by decide)])
    clear h1 h2 h3 HC
    go_enter Tryd.func8, Tryd.ntmps8
    go_wp2_with fail
    refine (containsAny_any s w (by have := HH.out; omega)).mono ?_
    rintro e w' ⟨rfl, hb⟩
    have HB := Lib.hid hb
    clear hb
    cases hbad : bad s.data.toList
    · rw [hbad, if_neg (by decide)] at HE
      clear hbad
      go_wp2
      go_ret
      exact ⟨by rw [HE.out]; rfl, HB.out⟩
    · rw [hbad, if_pos rfl] at HE
      clear hbad
      go_wp2
      go_ret
      exact ⟨by rw [HE.out]; rfl, HB.out⟩
set_option maxRecDepth 100000 in
set_option maxHeartbeats 2000000 in
theorem rcheck_any (s : ByteArray) (w : World) : Calls Tryd.prog 9 #[.string s] w fun e w' => e = .returned (.int .i64 (ck s)) ∧ w' = w := by
  obtain ⟨c, hc⟩ : ∃ c, ck s = c := ⟨_, rfl⟩
  rw [hc]
  unfold ck at hc
  have HC := Lib.hid hc
  clear hc
  by_cases h : 64 < s.size
  · have hz : ((64 : Int) < (s.size : Int)) := by omega
    have HH := Lib.hid h
    clear h
    go_enter Tryd.func9, Tryd.ntmps9
    go_wp2
    go_ret
    exact ⟨by rw [← HC.out, if_pos HH.out]; rfl, rfl⟩
  · have hz : ¬ ((64 : Int) < (s.size : Int)) := by omega
    have HH := Lib.hid h
    clear h
    by_cases h1 : s.toList = []
    · have H1 := Lib.hid h1
      have b1 : s.toList.isEmpty = true := by rw [h1]; rfl
      clear h1
      go_enter Tryd.func9, Tryd.ntmps9
      go_wp2
      go_ret
      exact ⟨by rw [← HC.out, if_neg HH.out, if_pos (.inl H1.out)]; rfl, rfl⟩
    by_cases h2 : s.toList = [46]
    · have H2 := Lib.hid h2
      have b1 : s.toList.isEmpty = false := by rw [h2]; rfl
      have b2 : (s.toList == [46]) = true := by rw [h2]; rfl
      clear h1 h2
      go_enter Tryd.func9, Tryd.ntmps9
      go_wp2
      go_ret
      exact ⟨by rw [← HC.out, if_neg HH.out, if_pos (.inr (.inl H2.out))]; rfl, rfl⟩
    by_cases h3 : s.toList = [46, 46]
    · have H3 := Lib.hid h3
      have b1 : s.toList.isEmpty = false := by rw [h3]; rfl
      have b2 : (s.toList == [46]) = false := by rw [h3]; rfl
      have b3 : (s.toList == [46, 46]) = true := by rw [h3]; rfl
      clear h1 h2 h3
      go_enter Tryd.func9, Tryd.ntmps9
      go_wp2
      go_ret
      exact ⟨by rw [← HC.out, if_neg HH.out, if_pos (.inr (.inr (.inl H3.out)))]; rfl, rfl⟩
    have b1 : s.toList.isEmpty = false := by simpa using h1
    have b2 : (s.toList == [46]) = false := by simpa using h2
    have b3 : (s.toList == [46, 46]) = false := by simpa using h3
    have HE : Hid (c = if bad s.data.toList = true then 22 else 0) := Lib.hid (by
      rw [← HC.out, if_neg HH.out]
      cases hb : bad s.data.toList with
      | true => rw [if_pos (.inr (.inr (.inr rfl))), if_pos rfl]
      | false => rw [if_neg (by intro h; rcases h with h | h | h | h; exact h1 h; exact h2 h; exact h3 h; cases h), if_neg (by decide)])
    clear h1 h2 h3 HC
    go_enter Tryd.func9, Tryd.ntmps9
    go_wp2_with fail
    go_loopg [3] s.size (fun g v wx => ∃ i : Nat, i + g = s.size ∧ v = .int .i64 i ∧ wx = w ∧ ∀ j b, j < i → s.data.toList[j]? = some b → ¬ (b = 47 ∨ b = 0))
    case atStart => exact ⟨0, by omega, rfl, rfl, fun _ _ h => absurd h (Nat.not_lt_zero _)⟩
    case round =>
      obtain ⟨i, hig, rfl, rfl, hno⟩ := hrel
      have HN := Lib.hid hno
      clear hno
      cases gk with
      | zero =>
        obtain rfl : i = s.size := by omega
        have hiz : ¬ ((s.size : Int) < (s.size : Int)) := by omega
        go_wp2
        go_ret
        refine ⟨?_, rfl⟩
        rw [HE.out, if_neg]
        · rfl
        · rw [bad_ex]
          rintro ⟨j, b, hj, hb⟩
          have hjs : j < s.size := by
            have := (List.getElem?_eq_some_iff.1 hj).1
            rw [← Lib.size_eq] at this
            exact this
          exact HN.out j b hjs hj hb
      | succ g =>
        have hi : i < s.size := by omega
        have hiz : (i : Int) < (s.size : Int) := by omega
        have hxl : s.data.toList[i]? = some (s[i]'hi) := Lib.data_getElem? s i hi
        have Hx := Lib.hid hxl
        clear hxl
        obtain ⟨x, hx⟩ : ∃ x : UInt8, s[i]'hi = x := ⟨_, rfl⟩
        rw [hx] at Hx
        by_cases h47 : x = 47
        · have k1 : ((x.toNat : Int) == 47) = true := by rw [h47]; rfl
          go_wp2
          go_ret
          refine ⟨?_, rfl⟩
          rw [HE.out, if_pos ((bad_ex _).2 ⟨i, x, Hx.out, .inl h47⟩)]
          rfl
        · have k1 : ((x.toNat : Int) == 47) = false := by
            have : x.toNat ≠ 47 := fun h => h47 (UInt8.toNat_inj.1 h)
            simp
            omega
          by_cases h0 : x = 0
          · have k2 : ((x.toNat : Int) == 0) = true := by rw [h0]; rfl
            have H0 := Lib.hid h0
            clear h0 h47
            go_wp2
            go_ret
            refine ⟨?_, rfl⟩
            rw [HE.out, if_pos ((bad_ex _).2 ⟨i, x, Hx.out, .inr H0.out⟩)]
            rfl
          · have k2 : ((x.toNat : Int) == 0) = false := by
              have : x.toNat ≠ 0 := fun h => h0 (UInt8.toNat_inj.1 h)
              simp
              omega
            have H0 := Lib.hid h0
            have H4 := Lib.hid h47
            clear h0 h47
            go_wp2
            go_roundg g
            case measure => omega
            case rel =>
              refine ⟨i + 1, by omega, by first | rfl | simp, rfl, fun j b hj hb => ?_⟩
              by_cases e : j = i
              · subst e
                rw [Hx.out] at hb
                cases hb
                exact fun h => h.elim H4.out H0.out
              · exact HN.out j b (by omega) hb
end Go.Proofs.YtmmfmmjjpbfmeaaDoor
