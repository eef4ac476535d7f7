/-
  NameWhole's walk: it answers true, and makes new blocks alone. No condition.
-/
import Derived.Test.YtmmfmmjjpbfmeaaDoorCw
namespace Go.Proofs.YtmmfmmjjpbfmeaaDoor
open Go.RowKit
theorem spO_root {p : ByteArray} (h : (spO p).2 = 0) (hL : (spO p).1 = []) : p = ⟨#[47]⟩ := by
  rcases spO_ok h with ⟨h1, _⟩ | ⟨h1, _⟩
  · exact h1
  · rw [hL] at h1
    have := congrArg List.length h1
    unfold nms at this
    rw [List.length_map, pcs_len] at this
    simp at this
theorem ck_empty : ck ⟨#[]⟩ = 22 := by
  unfold ck
  rw [if_neg (by decide), if_pos (.inl (by rw [Lib.toList_data]))]
theorem not_slash {I : List ByteArray} {s : ByteArray} (h : stat (I ++ [s]) = 0) : whB I ≠ ⟨#[47]⟩ := by
  intro e
  have e1 : I.flatMap (fun s => 47 :: s.data.toList) = [47] := by
    apply bs_inj
    exact e
  cases I with
  | nil => cases e1
  | cons a R =>
    rw [List.flatMap_cons, List.cons_append, List.cons.injEq] at e1
    have e2 : a.data.toList = [] := by
      have := e1.2
      rw [List.append_eq_nil_iff] at this
      exact this.1
    have e3 : a = ⟨#[]⟩ := by rw [← bs_data a, e2]; rfl
    have h0 := stat_all h 0 (by simp)
    rw [show (a :: R ++ [s])[0]'(by simp) = a from rfl, e3, ck_empty] at h0
    cases h0
set_option maxRecDepth 100000 in
set_option maxHeartbeats 8000000 in
theorem whole_walk (p : ByteArray) (w : World) : Calls Tryd.prog 5 #[.string p] w fun e w' => e = .returned (.bool true) ∧ Below w.heap.size w w' := by
  go_enter Tryd.func5, Tryd.ntmps5
  go_wp2_with fail
  refine (speaks_any _).mono ?_
  rintro e w1 ⟨rfl, hB1⟩
  have HB1 := Lib.hid hB1
  clear hB1
  go_wp2_with fail
  refine (nsplit_any p _).mono ?_
  rintro e w4 ⟨ao, cap, rfl, hS1, hB4⟩
  have HB4 := Lib.hid (HB1.out.trans (hB4.mono HB1.out.size))
  have HS1 := Lib.hid hS1
  clear hB4 HB1 hS1
  obtain ⟨L, hL⟩ : ∃ L, (spO p).1 = L := ⟨_, rfl⟩
  obtain ⟨c, hc⟩ : ∃ c, (spO p).2 = c := ⟨_, rfl⟩
  rw [hL] at HS1 ⊢
  rw [hc]
  have hl16 : L.length ≤ 16 := by rw [← hL]; exact spO_len p
  have HL := Lib.hid hL
  have HC := Lib.hid hc
  clear hL hc
  by_cases h0 : c = 0
  · subst h0
    have hck : ∀ i (h : i < L.length), ck L[i] = 0 := by
      rcases spO_ok HC.out with ⟨_, k⟩ | ⟨k, _, _, _, k5⟩
      · rw [HL.out] at k; subst k; exact fun i h => absurd h (by simp)
      · rw [HL.out] at k; rw [← k] at k5; exact stat_all k5
    have HK := Lib.hid hck
    have hsz : (whB L).size ≤ 256 := by
      rcases spO_ok HC.out with ⟨_, k⟩ | ⟨k, k2, k3, _⟩
      · rw [HL.out] at k; subst k; decide
      · rw [HL.out] at k; rw [k, whB_nms p k2]; exact k3
    clear hck
    go_wp2_with fail
    go_loopg [5, 6] L.length (fun g v u wx => ∃ i : Nat, i + g = L.length ∧ v = .string (whB (L.take i)) ∧ u = .int .i64 i ∧ StrAt wx ao L ∧ Below w.heap.size w wx)
    case atStart => exact ⟨0, by omega, rfl, rfl, HS1.out, HB4.out⟩
    case round =>
      obtain ⟨i, hig, rfl, rfl, hS, hB⟩ := hrel
      have HS := Lib.hid hS
      have HB := Lib.hid hB
      clear hS hB HS1 HB4
      cases gk with
      | succ g =>
        have hi : i < L.length := by omega
        have hiz : (i : Int) < (L.length : Int) := by omega
        obtain ⟨g3, k1, _, k3⟩ := HS.out i hi
        subst k1
        have k5 := whB_size_le L i
        have k6 := whB_size_le L (i + 1)
        have HT := Lib.hid (whB_take L i hi)
        rw [HT.out, size_append, size_append, show (⟨#[47]⟩ : ByteArray).size = 1 from rfl] at k6
        have hk := HK.out i hi
        obtain ⟨z, hzz⟩ : ∃ z, L[i] = z := ⟨_, rfl⟩
        rw [hzz] at k3 hk HT k6
        have HZ := Lib.hid hzz
        clear hzz
        generalize hy : whB (L.take i) = y at *
        have hz1 : y.size + (1 + z.size) ≤ 256 := by omega
        clear k5 k6 hy
        go_wp2_with fail
        refine (check_any z _).mono ?_
        rintro e w5 ⟨rfl, hb5⟩
        rw [hk]
        have HS5 := Lib.hid (HS.out.below hb5)
        have HB5 := Lib.hid (HB.out.trans (hb5.mono HB.out.size))
        obtain ⟨_, k1, _, k4⟩ := HS5.out i hi
        injection k1 with k1
        injection k1 with k1
        subst k1
        rw [HZ.out] at k4
        clear k3 hk hb5
        go_wp2
        go_roundg g
        case measure => omega
        case rel => exact ⟨i + 1, by omega, by rw [HT.out], by first | rfl | simp, HS5.out, HB5.out⟩
      | zero =>
        obtain rfl : i = L.length := by omega
        have hiz : ¬ ((L.length : Int) < (L.length : Int)) := by omega
        rw [List.take_length]
        cases hLL : L with
        | nil =>
          have hp := spO_root HC.out (HL.out.trans hLL)
          subst hLL
          subst hp
          go_wp2
          go_ret
          exact ⟨rfl, HB.out⟩
        | cons a R =>
          obtain ⟨I, s, hI⟩ : ∃ I s, L = I ++ [s] := ⟨L.dropLast, L.getLast (by rw [hLL]; simp), (List.dropLast_concat_getLast (by rw [hLL]; simp)).symm⟩
          rw [← hLL]
          obtain ⟨q1, q2, q3, q4, q5⟩ := pa_some HC.out (HL.out.trans hI)
          have hns := not_slash q5
          have hLm : L.length = I.length + 1 := by rw [hI, List.length_append]; rfl
          rw [hLm]
          rw [show whB L = p from by rw [hI]; exact q2]
          have hsz2 : (whB I).size + 1 + s.size ≤ 256 := by
            have := congrArg ByteArray.size q2
            rw [whB_snoc, size_append, size_append, show (⟨#[47]⟩ : ByteArray).size = 1 from rfl] at this
            omega
          have HQ := Lib.hid q1
          have HN := Lib.hid hns
          have H2 : Hid (p = whB I ++ (⟨#[47]⟩ ++ s)) := Lib.hid (by rw [← q2, whB_snoc])
          clear q1 q2 q3 q4 q5 hns hI hLL hLm HL HC HK HS hsz hl16 hiz hig
          generalize I.length = m at *
          go_wp2_with fail
          refine (parent_any p _).mono ?_
          rintro e w7 ⟨rfl, hB7⟩
          rw [HQ.out]
          have HB7 := Lib.hid (HB.out.trans (hB7.mono HB.out.size))
          clear hB7 HB HQ
          by_cases hem : whB I = ⟨#[]⟩
          · rw [if_pos hem]
            have h3 : p = ⟨#[47]⟩ ++ s := by
              rw [H2.out, hem]
              apply ByteArray.ext
              apply Array.ext'
              simp
            subst h3
            clear hem H2 HN
            have hs2 : 1 + s.size ≤ 256 := by omega
            have hq : (((⟨#[]⟩ : ByteArray) ++ (⟨#[47]⟩ : ByteArray) ++ s).toList == ((⟨#[47]⟩ : ByteArray) ++ s).toList) = true := by
              rw [show ((⟨#[]⟩ : ByteArray) ++ (⟨#[47]⟩ : ByteArray)) = ⟨#[47]⟩ from rfl]
              exact beq_self_eq_true _
            go_wp2
            go_ret
            exact ⟨rfl, HB7.out⟩
          · rw [if_neg hem]
            have hb : ((whB I).toList == [47]) = false := by
              rw [Lib.toList_data, beq_eq_false_iff_ne]
              intro e
              exact HN.out (by rw [← bs_data (whB I), e]; rfl)
            generalize whB I = y at *
            have h3 : p = y ++ ⟨#[47]⟩ ++ s := by rw [H2.out, ByteArray.append_assoc]
            subst h3
            clear hem H2 HN
            go_wp2
            go_ret
            exact ⟨rfl, HB7.out⟩
  · have hcz : (c != 0) = true := by simpa using h0
    have hLn : L = [] := by rw [← HL.out]; exact spO_nil (by rw [HC.out]; exact h0)
    subst hLn
    clear h0
    go_wp2
    go_ret
    exact ⟨rfl, HB4.out⟩
end Go.Proofs.YtmmfmmjjpbfmeaaDoor
