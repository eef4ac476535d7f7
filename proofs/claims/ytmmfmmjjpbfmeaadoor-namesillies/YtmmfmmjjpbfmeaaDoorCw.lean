/-
  NameChecks' walk: it answers true, and makes new blocks alone. No condition.
-/
import Derived.Test.YtmmfmmjjpbfmeaaDoorRs
namespace Go.Proofs.YtmmfmmjjpbfmeaaDoor
open Go.RowKit
/-- Names, each with a slash ahead, put together. -/
def whB (L : List ByteArray) : ByteArray := bs (L.flatMap fun s => 47 :: s.data.toList)
theorem whB_nil : whB [] = ByteArray.empty := rfl
theorem whB_snoc (L : List ByteArray) (s : ByteArray) : whB (L ++ [s]) = whB L ++ (⟨#[47]⟩ ++ s) := by
  unfold whB
  rw [List.flatMap_append, List.flatMap_singleton, bs_append]
  congr 1
theorem whB_take (L : List ByteArray) (i : Nat) (h : i < L.length) : whB (L.take (i + 1)) = whB (L.take i) ++ (⟨#[47]⟩ ++ L[i]) := by
  rw [← whB_snoc, List.take_append_getElem h]
theorem size_append (a b : ByteArray) : (a ++ b).size = a.size + b.size := ByteArray.size_append
theorem whB_size_le (L : List ByteArray) (i : Nat) : (whB (L.take i)).size ≤ (whB L).size := by
  conv => rhs; rw [← List.take_append_drop i L]
  unfold whB
  rw [List.flatMap_append, bs_append, size_append]
  omega
theorem whB_nms (p : ByteArray) (h : Lib.hasPrefix p.data.toList [47] = true) : whB (nms p) = p := by
  unfold whB
  rw [nms_flat p h, bs_data]
theorem pa_bad {p : ByteArray} (h : (spO p).2 ≠ 0) : paO p = (⟨#[]⟩, ⟨#[]⟩, (spO p).2) := by
  unfold paO; rw [if_neg h]
theorem pa_none {p : ByteArray} (h : (spO p).2 = 0) (hL : (spO p).1 = []) : paO p = (⟨#[]⟩, ⟨#[]⟩, 22) := by
  unfold paO; rw [if_pos h, hL]; rfl
theorem pa_some {p : ByteArray} {I : List ByteArray} {s : ByteArray} (h : (spO p).2 = 0) (hL : (spO p).1 = I ++ [s]) :
    paO p = (if whB I = ⟨#[]⟩ then ⟨#[47]⟩ else whB I, s, 0) ∧ whB (I ++ [s]) = p ∧ p.size ≤ 256 ∧ (I ++ [s]).length ≤ 16 ∧ stat (I ++ [s]) = 0 := by
  obtain ⟨k1, k2, k3, k4, k5⟩ := (spO_ok h).resolve_left (fun h => by rw [hL] at h; exact absurd h.2 (by simp))
  have hw := whB_nms p k2
  rw [← k1, hL] at hw
  rw [← k1, hL] at k4 k5
  have hsz := congrArg ByteArray.size hw
  rw [whB_snoc, size_append, size_append, show (⟨#[47]⟩ : ByteArray).size = 1 from rfl] at hsz
  have hex : p.extract 0 (p.size - 1 - s.size) = whB I := by
    have hd : p.data.toList = (whB I).data.toList ++ ((⟨#[47]⟩ : ByteArray) ++ s).data.toList := by
      conv => lhs; rw [← hw, whB_snoc, ByteArray.data_append, Array.toList_append]
    rw [show p.size - 1 - s.size = (whB I).size from by omega, piece, List.drop_zero, hd, Nat.sub_zero, Lib.size_eq, List.take_left, bs_data]
  refine ⟨?_, hw, k3, k4, k5⟩
  unfold paO
  rw [if_pos h, hL]
  simp only [List.getLast?_append, List.getLast?_singleton, Option.some_or, hex]
theorem spO_nil {p : ByteArray} (h : (spO p).2 ≠ 0) : (spO p).1 = [] := by
  unfold spO at h ⊢
  split
  · rfl
  · rename_i h1
    rw [if_neg h1] at h
    split
    · rfl
    · rename_i h2
      rw [if_neg h2] at h
      split
      · rfl
      · rename_i h3
        rw [if_neg h3] at h
        split
        · rename_i h4
          rw [if_pos h4] at h
          exact absurd rfl h
        · rfl
theorem spO_len (p : ByteArray) : (spO p).1.length ≤ 16 := by
  by_cases h : (spO p).2 = 0
  · rcases spO_ok h with ⟨_, h⟩ | ⟨h, _, _, h4, _⟩
    · rw [h]; decide
    · rw [h]; exact h4
  · rw [spO_nil h]; decide
theorem StrAt.drewN {w : World} {ao : Option Addr} {L : List ByteArray} (h : StrAt w ao L) (n : Nat) : StrAt (w.drewN n) ao L := fun i hi => h i hi
theorem stat_all : ∀ {L : List ByteArray}, stat L = 0 → ∀ i (h : i < L.length), ck L[i] = 0
  | [], _, i, h => absurd h (by simp)
  | s :: r, hs, i, h => by
    unfold stat at hs
    split at hs
    · rename_i h0
      cases i with
      | zero => exact h0
      | succ i => exact stat_all hs i (by simpa using h)
    · rename_i h0
      exact absurd hs h0
set_option maxRecDepth 100000 in
set_option maxHeartbeats 8000000 in
theorem checks_walk (p : ByteArray) (w : World) : Calls Tryd.prog 3 #[.string p] w fun e w' => e = .returned (.bool true) ∧ Below w.heap.size w w' := by
  go_enter Tryd.func3, Tryd.ntmps3
  go_wp2_with fail
  refine (speaks_any _).mono ?_
  rintro e w1 ⟨rfl, hB1⟩
  have HB1 := Lib.hid hB1
  clear hB1
  go_wp2_with fail
  refine (check_any p _).mono ?_
  rintro e w2 ⟨rfl, hB2⟩
  have HB2 := Lib.hid (HB1.out.trans (hB2.mono HB1.out.size))
  clear hB2 HB1
  obtain ⟨c0, hc0⟩ : ∃ c, ck p = c := ⟨_, rfl⟩
  rw [hc0]
  go_wp2_with fail
  refine (rcheck_any p _).mono ?_
  rintro e w3 ⟨rfl, rfl⟩
  rw [hc0]
  clear hc0
  go_wp2_with fail
  refine (nsplit_any p _).mono ?_
  rintro e w4 ⟨ao1, cap1, rfl, hS1, hB4⟩
  have HB4 := Lib.hid (HB2.out.trans (hB4.mono HB2.out.size))
  have HS1 := Lib.hid hS1
  clear hB4 HB2 hS1
  go_wp2_with fail
  refine (rsplit_any p _).mono ?_
  rintro e w5 ⟨ao2, cap2, rfl, hS2, hB5⟩
  have HB5 := Lib.hid (HB4.out.trans (hB5.mono HB4.out.size))
  have HS2 := Lib.hid hS2
  have HS3 := Lib.hid (HS1.out.below hB5)
  clear hB5 HB4 hS2 HS1
  obtain ⟨L, hL⟩ : ∃ L, (spO p).1 = L := ⟨_, rfl⟩
  obtain ⟨c, hc⟩ : ∃ c, (spO p).2 = c := ⟨_, rfl⟩
  rw [hL] at HS2 HS3 ⊢
  rw [hc]
  have hl16 : L.length ≤ 16 := by rw [← hL]; exact spO_len p
  have HL := Lib.hid hL
  have HC := Lib.hid hc
  clear hL hc
  go_wp2_with fail
  go_loopg [7] L.length (fun g v wx => ∃ (i n : Nat), i + g = L.length ∧ v = .int .i64 i ∧ wx = w5.drewN n)
  case atStart => exact ⟨0, 0, by omega, rfl, rfl⟩
  case round =>
    obtain ⟨i, n, hig, rfl, rfl⟩ := hrel
    cases gk with
    | succ g =>
      have hi : i < L.length := by omega
      have hiz : (i : Int) < (L.length : Int) := by omega
      obtain ⟨g1, e1, e2, e3⟩ := HS3.out i hi
      obtain ⟨g2, e4, e5, e6⟩ := HS2.out i hi
      subst e1 e4
      clear e2 e5
      generalize L[i] = s at *
      go_wp2_with fail
      go_quiet (fail)
      go_wp2
      go_roundg g
      case measure => omega
      case rel => exact ⟨i + 1, n + nq, by omega, by first | rfl | simp, rfl⟩
    | zero =>
      obtain rfl : i = L.length := by omega
      have hiz : ¬ ((L.length : Int) < (L.length : Int)) := by omega
      have HB6 := Lib.hid (below_drewN HB5.out n)
      have HS4 := Lib.hid (HS2.out.drewN n)
      generalize w5.drewN n = w6 at *
      clear HB5 HS2 HS3
      go_wp2_with fail
      refine (parent_any p _).mono ?_
      rintro e w7 ⟨rfl, hB7⟩
      have HB7 := Lib.hid (HB6.out.trans (hB7.mono HB6.out.size))
      have HS5 := Lib.hid (HS4.out.below hB7)
      clear hB7 HB6 HS4
      by_cases hc : c = 0
      · subst hc
        cases hLL : L with
        | nil =>
          rw [pa_none HC.out (HL.out.trans hLL)]
          subst hLL
          clear HC HL
          go_wp2
          go_ret
          exact ⟨rfl, HB7.out⟩
        | cons a R =>
          obtain ⟨I, s, hI⟩ : ∃ I s, L = I ++ [s] := ⟨L.dropLast, L.getLast (by rw [hLL]; simp), (List.dropLast_concat_getLast (by rw [hLL]; simp)).symm⟩
          rw [← hLL]
          obtain ⟨q1, q2, q3, q4, _⟩ := pa_some HC.out (HL.out.trans hI)
          rw [q1]
          obtain ⟨m, hm⟩ : ∃ m, I.length = m := ⟨_, rfl⟩
          have hLm : L.length = m + 1 := by rw [hI, List.length_append, hm]; rfl
          have hsz : (whB I).size + 1 + s.size ≤ 256 := by
            have := congrArg ByteArray.size q2
            rw [whB_snoc, size_append, size_append, show (⟨#[47]⟩ : ByteArray).size = 1 from rfl] at this
            omega
          have hm16 : m ≤ 15 := by omega
          have HI := Lib.hid hI
          have HM := Lib.hid hm
          obtain ⟨x, hx⟩ : ∃ x, (if whB I = ⟨#[]⟩ then (⟨#[47]⟩ : ByteArray) else whB I) = x := ⟨_, rfl⟩
          rw [hx]
          have HX := Lib.hid hx
          have HLm := Lib.hid hLm
          rw [hLm]
          obtain ⟨g2, e4, _, e6⟩ := HS5.out m (by rw [hLm]; omega)
          subst e4
          have e7 : L[m]'(by rw [hLm]; omega) = s := by
            simp only [hI]
            rw [List.getElem_append_right (by omega)]
            simp [hm]
          rw [e7] at e6
          have i1 : (((m + 1 : Nat) : Int) - 1).toNat = m := by omega
          have i2 : ((m : Int) + 1 - 1).toNat = m := by omega
          clear hI hm hx hLm q1 q2 q3 q4 hLL HC HL hl16 hiz hig e7
          go_wp2_with fail
          go_loopg [11, 12] m (fun g v u wx => ∃ i : Nat, i + g = m ∧ v = .string (whB (I.take i)) ∧ u = .int .i64 i ∧ wx = w7)
          case atStart => exact ⟨0, by omega, rfl, rfl, rfl⟩
          case round =>
            obtain ⟨i, hig, rfl, rfl, rfl⟩ := hrel
            cases gk with
            | succ g =>
              have hi : i < m := by omega
              have hiz : (i : Int) < (m : Int) := by omega
              have hli : i < I.length := by rw [HM.out]; exact hi
              obtain ⟨g3, k1, _, k3⟩ := HS5.out i (by rw [HLm.out]; omega)
              injection k1 with k1
              injection k1 with k1
              subst k1
              have k4 : L[i]'(by rw [HLm.out]; omega) = I[i] := by
                simp only [HI.out]
                rw [List.getElem_append_left hli]
              rw [k4] at k3
              have k5 := whB_size_le I i
              have k6 := whB_size_le I (i + 1)
              have HT := Lib.hid (whB_take I i hli)
              rw [HT.out, size_append, size_append, show (⟨#[47]⟩ : ByteArray).size = 1 from rfl] at k6
              generalize I[i] = z at *
              generalize hy : whB (I.take i) = y at *
              have hz1 : y.size + (1 + z.size) ≤ 256 := by omega
              clear k4 k5 k6 hy
              go_wp2
              go_roundg g
              case measure => omega
              case rel => exact ⟨i + 1, by omega, by rw [HT.out], by first | rfl | simp, rfl⟩
            | zero =>
              obtain rfl : i = m := by omega
              have hiz : ¬ ((i : Int) < (i : Int)) := by omega
              have hti : I.take i = I := by rw [← HM.out]; exact List.take_length
              rw [hti]
              clear hti
              by_cases hem : whB I = ⟨#[]⟩
              · have hx : x = ⟨#[47]⟩ := by rw [← HX.out, if_pos hem]
                have hb : (whB I).toList.isEmpty = true := by rw [hem, Lib.toList_data]; rfl
                subst hx
                clear hem HX
                go_wp2
                go_ret
                exact ⟨rfl, HB7.out⟩
              · have hx : x = whB I := by rw [← HX.out, if_neg hem]
                have hb : (whB I).toList.isEmpty = false := by
                  rw [Lib.toList_data, List.isEmpty_eq_false_iff]
                  intro e
                  exact hem (by rw [← bs_data (whB I), e]; rfl)
                subst hx
                clear hem HX
                generalize whB I = y at *
                go_wp2
                go_ret
                exact ⟨rfl, HB7.out⟩
      · rw [pa_bad (by rw [HC.out]; exact hc), HC.out]
        have hcz : (c != 0) = true := by simpa using hc
        clear hc HC HL
        go_wp2
        go_ret
        exact ⟨rfl, HB7.out⟩
end Go.Proofs.YtmmfmmjjpbfmeaaDoor
