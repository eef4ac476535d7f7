/-
  The document's row, as long as shorter ones are told. No condition but the form's length.
-/
import Derived.Test.YtjogcdkebplcpaaGreatDoorRf
namespace Go.Proofs.YtjogcdkebplcpaaGreatDoor
open Go.RowKit Sch

theorem below_le {B B' : Nat} {a b : World} (h : Below B' a b) (hB : B ≤ B') : Below B a b := ⟨h.os, h.tape, h.output, h.size, fun k hk => h.block k (by omega)⟩
theorem drop_at {T : List UInt8} {b : Nat} (h : b < T.length) : T.drop b = T[b] :: T.drop (b + 1) := List.drop_eq_getElem_cons h

set_option maxRecDepth 100000 in
set_option maxHeartbeats 4000000 in
theorem skip_of (T : List UInt8) (hT : T.length ≤ 1000) (N n : Nat) (hn : n ≤ 16) (HSK : 0 < N → SkC T (N - 1) (n + 1)) (HAR : 0 < N → ArC T (N - 1) (n + 1)) : SkC T N n := by
  intro a w ha hN
  obtain ⟨S, hS⟩ : ∃ S : ByteArray, S = ⟨T.toArray⟩ := ⟨_, rfl⟩
  have hsz : S.size = T.length := by rw [hS]; show T.toArray.size = _; simp
  have hat : ∀ j (hj : j < S.size) (hj2 : j < T.length), S[j] = T[j] := by
    intro j hj hj2; subst hS; rfl
  have hdig : ∀ (a : Nat) (w : World), a ≤ T.length → Calls Tryz.prog 30 #[.string S, .int .i64 a] w (DPost T (num6 (T.drop a)) w) := fun a w h => by rw [hS]; exact digits_any T a w hT h
  have hsk : 0 < N → ∀ (a : Nat) (w : World), a ≤ T.length → T.length - a ≤ N - 1 → Calls Tryz.prog 26 #[.string S, .int .i64 a, .int .i64 ((n + 1 : Nat) : Int)] w fun r w' => r = .returned (.int .i64 (pl T (Gn (n + 1) (T.drop a)))) ∧ Below w.heap.size w w' := fun h a w h1 h2 => by rw [hS]; exact HSK h a w h1 h2
  have har : 0 < N → ∀ (a : Nat) (w : World), a ≤ T.length → T.length - a ≤ N - 1 → Calls Tryz.prog 48 #[.string S, .int .i64 a, .int .i64 ((n + 1 : Nat) : Int)] w fun r w' => r = .returned (.int .i64 (pl T (armsF (Gn (n + 1)) (T.length - a + 1) [] (T.drop a)))) ∧ Below w.heap.size w w' := fun h a w h1 h2 => by rw [hS]; exact HAR h a w h1 h2
  rw [← hS]
  obtain ⟨g0, hg0⟩ : ∃ g0, g0 = pl T (Gn n (T.drop a)) := ⟨_, rfl⟩
  rw [← hg0]
  have HA := Lib.hid hat
  have HS := Lib.hid hS
  have HSZ := Lib.hid hsz
  have HG0 := Lib.hid hg0
  have HDI := Lib.hid hdig
  have HSKC := Lib.hid hsk
  have HARC := Lib.hid har
  have hs1 : S.size ≤ 1000 := by omega
  have hs2 : a ≤ S.size := by omega
  have hs3 : T.length ≤ S.size := by omega
  have hs4 : S.size ≤ T.length := by omega
  have hn2 : (n : Int) ≤ 16 := by omega
  clear hat hS hsz hg0 hdig hsk har HSK HAR
  go_enter Tryz.func26, Tryz.ntmps26
  go_wp2
  go_loopg [1] (S.size - a + 1) (fun k i wr => ∃ b : Nat, b ≤ S.size ∧ i = .int .i64 b ∧ S.size - b < k ∧ S.size - b ≤ N ∧ g0 = pl T (Gn n (T.drop b)) ∧ Below w.heap.size w wr)
  case atStart => exact ⟨a, hs2, rfl, by omega, by omega, HG0.out, Below.refl _ _⟩
  case round =>
    obtain ⟨b, hb, rfl, hk, hbN, hgb, hB⟩ := hrel
    have HGB := Lib.hid hgb
    have HB := Lib.hid hB
    have hsB := hB.size
    clear hgb hB
    by_cases hbs : b < S.size
    · have hbT : b < T.length := by omega
      obtain ⟨c, hcT⟩ : ∃ c, c = T[b] := ⟨_, rfl⟩
      have hat : S[b] = c := by rw [hcT]; exact HA.out b hbs hbT
      have hdr : T.drop b = c :: T.drop (b + 1) := by rw [hcT]; exact drop_at hbT
      have HDR := Lib.hid hdr
      clear hcT hdr
      by_cases hc : isSign c = true
      · have hgs : g0 = pl T ((sr n c (T.drop (b + 1))).bind (Gn n)) := by rw [HGB.out, HDR.out, Gn_step n hn c _ hc]
        have HGS := Lib.hid hgs
        clear hgs
        rcases isSign_cases hc with rfl | rfl | rfl | rfl | rfl | rfl | rfl | rfl
        · go_wp2
          go_roundg (S.size - b)
          case measure => omega
          case rel =>
            refine ⟨b + 1, by omega, by go_num, by omega, by omega, ?_, HB.out⟩
            rw [HGS.out]; rfl
        · go_wp2
          go_roundg (S.size - b)
          case measure => omega
          case rel =>
            refine ⟨b + 1, by omega, by go_num, by omega, by omega, ?_, HB.out⟩
            rw [HGS.out]; rfl
        · go_wp2
          go_roundg (S.size - b)
          case measure => omega
          case rel =>
            refine ⟨b + 1, by omega, by go_num, by omega, by omega, ?_, HB.out⟩
            rw [HGS.out]; rfl
        · go_wp2_with fail
          refine (HDI.out (b + 1) wr (by omega)).mono ?_
          rintro r w1 ⟨rfl, h1⟩
          generalize hx : num6 (T.drop (b + 1)) = x at h1
          have HX := Lib.hid hx
          clear hx
          cases x with
          | none =>
            obtain ⟨k, rfl⟩ := h1
            have hg1 : g0 = -1 := by rw [HGS.out]; simp [sr, isOne, isNum, HX.out, pl]
            have HG1 := Lib.hid hg1
            clear hg1
            go_wp2
            go_ret
            exact ⟨by rw [HG1.out]; rfl, HB.out⟩
          | some y =>
            obtain ⟨m, t'⟩ := y
            simp only at h1
            subst h1
            have hl := num6_short _ _ _ HX.out
            simp only [List.length_drop] at hl
            have he := ends_drop (ends_of_drop (num6_ends _ _ _ HX.out))
            have hg1 : g0 = pl T (Gn n t') := by rw [HGS.out]; simp [sr, isOne, isNum, HX.out]
            have HG1 := Lib.hid hg1
            have HE := Lib.hid he
            obtain ⟨b2, hb2⟩ : ∃ b2, b2 = T.length - t'.length := ⟨_, rfl⟩
            rw [← hb2]
            have hb3 : b < b2 := by omega
            have hb4 : b2 ≤ S.size := by omega
            have HB2 := Lib.hid hb2
            clear hg1 he hb2
            go_wp2
            go_roundg (S.size - b2 + 1)
            case measure => omega
            case rel => exact ⟨b2, hb4, rfl, by omega, by omega, by rw [HG1.out, HB2.out, HE.out], HB.out⟩
        · go_wp2_with fail
          refine (HDI.out (b + 1) wr (by omega)).mono ?_
          rintro r w1 ⟨rfl, h1⟩
          generalize hx : num6 (T.drop (b + 1)) = x at h1
          have HX := Lib.hid hx
          clear hx
          cases x with
          | none =>
            obtain ⟨k, rfl⟩ := h1
            have hg1 : g0 = -1 := by rw [HGS.out]; simp [sr, isOne, isNum, HX.out, pl]
            have HG1 := Lib.hid hg1
            clear hg1
            go_wp2
            go_ret
            exact ⟨by rw [HG1.out]; rfl, HB.out⟩
          | some y =>
            obtain ⟨m, t'⟩ := y
            simp only at h1
            subst h1
            have hl := num6_short _ _ _ HX.out
            simp only [List.length_drop] at hl
            have he := ends_drop (ends_of_drop (num6_ends _ _ _ HX.out))
            have hg1 : g0 = pl T (Gn n t') := by rw [HGS.out]; simp [sr, isOne, isNum, HX.out]
            have HG1 := Lib.hid hg1
            have HE := Lib.hid he
            obtain ⟨b2, hb2⟩ : ∃ b2, b2 = T.length - t'.length := ⟨_, rfl⟩
            rw [← hb2]
            have hb3 : b < b2 := by omega
            have hb4 : b2 ≤ S.size := by omega
            have HB2 := Lib.hid hb2
            clear hg1 he hb2
            go_wp2
            go_roundg (S.size - b2 + 1)
            case measure => omega
            case rel => exact ⟨b2, hb4, rfl, by omega, by omega, by rw [HG1.out, HB2.out, HE.out], HB.out⟩
        · by_cases h1 : b + 1 < S.size
          · have h1T : b + 1 < T.length := by omega
            obtain ⟨d, hdT⟩ : ∃ d, d = T[b + 1] := ⟨_, rfl⟩
            have hat1 : S[b + 1] = d := by rw [hdT]; exact HA.out (b + 1) h1 h1T
            have hdr1 : T.drop (b + 1) = d :: T.drop (b + 2) := by rw [hdT]; exact drop_at h1T
            have HDR1 := Lib.hid hdr1
            clear hdT hdr1
            by_cases hd : d = 40
            · subst hd
              go_wp2_with fail
              refine (HSKC.out (by omega) (b + 2) wr (by omega) (by omega)).mono ?_
              rintro r w1 ⟨rfl, hB1⟩
              have hBB : Below w.heap.size w w1 := HB.out.trans (below_le hB1 hsB)
              have HBB := Lib.hid hBB
              clear hB1 hBB
              generalize hx : Gn (n + 1) (T.drop (b + 2)) = x
              have HX := Lib.hid hx
              clear hx
              cases x with
              | none =>
                simp only [pl]
                have hg1 : g0 = -1 := by rw [HGS.out]; rw [HDR1.out]; simp [sr, isOne, isNum, isOpt, HX.out, pl]
                have HG1 := Lib.hid hg1
                clear hg1
                go_wp2
                all_goals
                  go_ret
                  exact ⟨by rw [HG1.out]; rfl, HBB.out⟩
              | some t3 =>
                simp only [pl]
                have hle := Gn_le HX.out
                simp only [List.length_drop] at hle
                have hen := ends_drop (ends_of_drop (Gn_ends HX.out))
                have HEN := Lib.hid hen
                clear hen
                obtain ⟨b2, hb2⟩ : ∃ b2, b2 = T.length - t3.length := ⟨_, rfl⟩
                rw [← hb2]
                have hb3 : b + 2 ≤ b2 := by omega
                have hb4 : b2 ≤ S.size := by omega
                have HB2 := Lib.hid hb2
                clear hb2
                cases t3 with
                | nil =>
                  have hb5 : ¬ b2 < S.size := by have := HB2.out; simp at this; omega
                  have hg1 : g0 = -1 := by rw [HGS.out]; rw [HDR1.out]; simp [sr, isOne, isNum, isOpt, HX.out, pl]
                  have HG1 := Lib.hid hg1
                  clear hg1
                  go_wp2
                  all_goals
                    go_ret
                    exact ⟨by rw [HG1.out]; rfl, HBB.out⟩
                | cons e t4 =>
                  have hb5 : b2 < S.size := by have := HB2.out; simp only [List.length_cons] at this hle; omega
                  have hdr2 : T.drop b2 = e :: t4 := by rw [HB2.out]; exact HEN.out
                  have hb5T : b2 < T.length := by omega
                  have hat2 : S[b2] = e := by
                    rw [HA.out b2 hb5 hb5T]
                    rw [drop_at hb5T] at hdr2
                    exact (List.cons.inj hdr2).1
                  have hdr3 : T.drop (b2 + 1) = t4 := by
                    rw [drop_at hb5T] at hdr2
                    exact (List.cons.inj hdr2).2
                  have HDR3 := Lib.hid hdr3
                  have hl4 : b2 + 1 + t4.length = T.length := by have := HB2.out; simp only [List.length_cons] at this hle; omega
                  clear hdr2 hdr3
                  by_cases he : e = 41
                  · subst he
                    have hg1 : g0 = pl T (Gn n t4) := by rw [HGS.out, HDR1.out]; simp [sr, isOne, isNum, isOpt, HX.out]
                    have HG1 := Lib.hid hg1
                    clear hg1
                    go_wp2
                    go_roundg (S.size - b2)
                    case measure => omega
                    case rel => exact ⟨b2 + 1, by omega, by go_num, by omega, by omega, by rw [HG1.out, HDR3.out], HBB.out⟩
                  · have q1 : (((S[b2]).toNat : Int) == 41) = false := by
                      rw [beq_eq_false_iff_ne, hat2]; intro q; exact he (UInt8.toNat_inj.1 (by show _ = 41; omega))
                    have q2 : (((S[b2]).toNat : Int) != 41) = true := by simp only [bne, q1]; rfl
                    have HE := Lib.hid he
                    clear he hat2
                    have hg1 : g0 = -1 := by rw [HGS.out]; rw [HDR1.out]; simp [sr, isOne, isNum, isOpt, HX.out, pl, HE.out]
                    have HG1 := Lib.hid hg1
                    clear hg1
                    go_wp2
                    all_goals
                      go_ret
                      exact ⟨by rw [HG1.out]; rfl, HBB.out⟩
            · have q1 : (((S[b + 1]).toNat : Int) == 40) = false := by
                rw [beq_eq_false_iff_ne, hat1]; intro q; exact hd (UInt8.toNat_inj.1 (by show _ = 40; omega))
              have q2 : (((S[b + 1]).toNat : Int) != 40) = true := by simp only [bne, q1]; rfl
              have HD := Lib.hid hd
              clear hd hat1
              have hg1 : g0 = -1 := by rw [HGS.out]; rw [HDR1.out]; simp [sr, isOne, isNum, isOpt, HD.out, pl]
              have HG1 := Lib.hid hg1
              clear hg1
              go_wp2
              all_goals
                go_ret
                exact ⟨by rw [HG1.out]; rfl, HB.out⟩
          · have hnil : T.drop (b + 1) = [] := List.drop_eq_nil_of_le (by omega)
            have HNIL := Lib.hid hnil
            clear hnil
            have hg1 : g0 = -1 := by rw [HGS.out]; rw [HNIL.out]; simp [sr, isOne, isNum, isOpt, pl]
            have HG1 := Lib.hid hg1
            clear hg1
            go_wp2
            all_goals
              go_ret
              exact ⟨by rw [HG1.out]; rfl, HB.out⟩
        · by_cases h1 : b + 1 < S.size
          · have h1T : b + 1 < T.length := by omega
            obtain ⟨d, hdT⟩ : ∃ d, d = T[b + 1] := ⟨_, rfl⟩
            have hat1 : S[b + 1] = d := by rw [hdT]; exact HA.out (b + 1) h1 h1T
            have hdr1 : T.drop (b + 1) = d :: T.drop (b + 2) := by rw [hdT]; exact drop_at h1T
            have HDR1 := Lib.hid hdr1
            clear hdT hdr1
            by_cases hd : d = 40
            · subst hd
              go_wp2_with fail
              refine (HSKC.out (by omega) (b + 2) wr (by omega) (by omega)).mono ?_
              rintro r w1 ⟨rfl, hB1⟩
              have hBB : Below w.heap.size w w1 := HB.out.trans (below_le hB1 hsB)
              have HBB := Lib.hid hBB
              clear hB1 hBB
              generalize hx : Gn (n + 1) (T.drop (b + 2)) = x
              have HX := Lib.hid hx
              clear hx
              cases x with
              | none =>
                simp only [pl]
                have hg1 : g0 = -1 := by rw [HGS.out]; rw [HDR1.out]; simp [sr, isOne, isNum, isOpt, HX.out, pl]
                have HG1 := Lib.hid hg1
                clear hg1
                go_wp2
                all_goals
                  go_ret
                  exact ⟨by rw [HG1.out]; rfl, HBB.out⟩
              | some t3 =>
                simp only [pl]
                have hle := Gn_le HX.out
                simp only [List.length_drop] at hle
                have hen := ends_drop (ends_of_drop (Gn_ends HX.out))
                have HEN := Lib.hid hen
                clear hen
                obtain ⟨b2, hb2⟩ : ∃ b2, b2 = T.length - t3.length := ⟨_, rfl⟩
                rw [← hb2]
                have hb3 : b + 2 ≤ b2 := by omega
                have hb4 : b2 ≤ S.size := by omega
                have HB2 := Lib.hid hb2
                clear hb2
                cases t3 with
                | nil =>
                  have hb5 : ¬ b2 < S.size := by have := HB2.out; simp at this; omega
                  have hg1 : g0 = -1 := by rw [HGS.out]; rw [HDR1.out]; simp [sr, isOne, isNum, isOpt, HX.out, pl]
                  have HG1 := Lib.hid hg1
                  clear hg1
                  go_wp2
                  all_goals
                    go_ret
                    exact ⟨by rw [HG1.out]; rfl, HBB.out⟩
                | cons e t4 =>
                  have hb5 : b2 < S.size := by have := HB2.out; simp only [List.length_cons] at this hle; omega
                  have hdr2 : T.drop b2 = e :: t4 := by rw [HB2.out]; exact HEN.out
                  have hb5T : b2 < T.length := by omega
                  have hat2 : S[b2] = e := by
                    rw [HA.out b2 hb5 hb5T]
                    rw [drop_at hb5T] at hdr2
                    exact (List.cons.inj hdr2).1
                  have hdr3 : T.drop (b2 + 1) = t4 := by
                    rw [drop_at hb5T] at hdr2
                    exact (List.cons.inj hdr2).2
                  have HDR3 := Lib.hid hdr3
                  have hl4 : b2 + 1 + t4.length = T.length := by have := HB2.out; simp only [List.length_cons] at this hle; omega
                  clear hdr2 hdr3
                  by_cases he : e = 41
                  · subst he
                    by_cases hem : b2 = b + 2
                    · have hq : t4.length + 1 = T.length - (b + 2) := by omega
                      have HQ := Lib.hid hq
                      have q3 : ((b2 : Int) == (b : Int) + 2) = true := by rw [beq_iff_eq]; omega
                      clear hq
                      have hg1 : g0 = -1 := by rw [HGS.out]; rw [HDR1.out]; simp [sr, isOne, isNum, isOpt, HX.out, pl, HQ.out]
                      have HG1 := Lib.hid hg1
                      clear hg1
                      go_wp2
                      all_goals
                        go_ret
                        exact ⟨by rw [HG1.out]; rfl, HBB.out⟩
                    · have hq : ¬ t4.length + 1 = T.length - (b + 2) := by omega
                      have HQ := Lib.hid hq
                      have q3 : ((b2 : Int) == (b : Int) + 2) = false := by rw [beq_eq_false_iff_ne]; omega
                      clear hq
                      have hg1 : g0 = pl T (Gn n t4) := by rw [HGS.out, HDR1.out]; simp [sr, isOne, isNum, isOpt, HX.out, HQ.out]
                      have HG1 := Lib.hid hg1
                      clear hg1
                      go_wp2
                      go_roundg (S.size - b2)
                      case measure => omega
                      case rel => exact ⟨b2 + 1, by omega, by go_num, by omega, by omega, by rw [HG1.out, HDR3.out], HBB.out⟩
                  · have q1 : (((S[b2]).toNat : Int) == 41) = false := by
                      rw [beq_eq_false_iff_ne, hat2]; intro q; exact he (UInt8.toNat_inj.1 (by show _ = 41; omega))
                    have q2 : (((S[b2]).toNat : Int) != 41) = true := by simp only [bne, q1]; rfl
                    have HE := Lib.hid he
                    clear he hat2
                    have hg1 : g0 = -1 := by rw [HGS.out]; rw [HDR1.out]; simp [sr, isOne, isNum, isOpt, HX.out, pl, HE.out]
                    have HG1 := Lib.hid hg1
                    clear hg1
                    go_wp2
                    all_goals
                      go_ret
                      exact ⟨by rw [HG1.out]; rfl, HBB.out⟩
            · have q1 : (((S[b + 1]).toNat : Int) == 40) = false := by
                rw [beq_eq_false_iff_ne, hat1]; intro q; exact hd (UInt8.toNat_inj.1 (by show _ = 40; omega))
              have q2 : (((S[b + 1]).toNat : Int) != 40) = true := by simp only [bne, q1]; rfl
              have HD := Lib.hid hd
              clear hd hat1
              have hg1 : g0 = -1 := by rw [HGS.out]; rw [HDR1.out]; simp [sr, isOne, isNum, isOpt, HD.out, pl]
              have HG1 := Lib.hid hg1
              clear hg1
              go_wp2
              all_goals
                go_ret
                exact ⟨by rw [HG1.out]; rfl, HB.out⟩
          · have hnil : T.drop (b + 1) = [] := List.drop_eq_nil_of_le (by omega)
            have HNIL := Lib.hid hnil
            clear hnil
            have hg1 : g0 = -1 := by rw [HGS.out]; rw [HNIL.out]; simp [sr, isOne, isNum, isOpt, pl]
            have HG1 := Lib.hid hg1
            clear hg1
            go_wp2
            all_goals
              go_ret
              exact ⟨by rw [HG1.out]; rfl, HB.out⟩
        · go_wp2_with fail
          refine (HARC.out (by omega) (b + 1) wr (by omega) (by omega)).mono ?_
          rintro r w1 ⟨rfl, hB1⟩
          have hBB : Below w.heap.size w w1 := HB.out.trans (below_le hB1 hsB)
          have HBB := Lib.hid hBB
          clear hB1 hBB
          have hsr : sr n 60 (T.drop (b + 1)) = armsF (Gn (n + 1)) (T.length - (b + 1) + 1) [] (T.drop (b + 1)) := by
            simp [sr, isOne, isNum, isOpt]
          have HSR := Lib.hid hsr
          clear hsr
          generalize hx : armsF (Gn (n + 1)) (T.length - (b + 1) + 1) [] (T.drop (b + 1)) = x
          have HX := Lib.hid hx
          clear hx
          cases x with
          | none =>
            simp only [pl]
            have hg1 : g0 = -1 := by rw [HGS.out]; rw [HSR.out, HX.out]; rfl
            have HG1 := Lib.hid hg1
            clear hg1
            go_wp2
            all_goals
              go_ret
              exact ⟨by rw [HG1.out]; rfl, HBB.out⟩
          | some t' =>
            simp only [pl]
            have hen := armsF_ends (by omega) (by simp) HX.out
            have hl := hen.2
            simp only [List.length_drop] at hl
            have he := ends_drop (ends_of_drop hen.1)
            have hg1 : g0 = pl T (Gn n t') := by rw [HGS.out, HSR.out, HX.out]; rfl
            have HG1 := Lib.hid hg1
            have HE := Lib.hid he
            obtain ⟨b2, hb2⟩ : ∃ b2, b2 = T.length - t'.length := ⟨_, rfl⟩
            rw [← hb2]
            have hb3 : b < b2 := by omega
            have hb4 : b2 ≤ S.size := by omega
            have HB2 := Lib.hid hb2
            clear hg1 he hb2 hen
            go_wp2
            go_roundg (S.size - b2 + 1)
            case measure => omega
            case rel => exact ⟨b2, hb4, rfl, by omega, by omega, by rw [HG1.out, HB2.out, HE.out], HBB.out⟩
      · have hc' : isSign c = false := by simpa using hc
        have hne : ∀ d : UInt8, isSign d = true → (((S[b]).toNat : Int) == (d.toNat : Int)) = false := by
          intro d hd
          rw [beq_eq_false_iff_ne, hat]
          intro e
          have e2 : c = d := UInt8.toNat_inj.1 (by omega)
          rw [e2, hd] at hc'
          cases hc'
        have n1 : (((S[b]).toNat : Int) == 117) = false := hne 117 rfl
        have n2 : (((S[b]).toNat : Int) == 113) = false := hne 113 rfl
        have n3 : (((S[b]).toNat : Int) == 98) = false := hne 98 rfl
        have n4 : (((S[b]).toNat : Int) == 111) = false := hne 111 rfl
        have n5 : (((S[b]).toNat : Int) == 102) = false := hne 102 rfl
        have n6 : (((S[b]).toNat : Int) == 63) = false := hne 63 rfl
        have n7 : (((S[b]).toNat : Int) == 42) = false := hne 42 rfl
        have n8 : (((S[b]).toNat : Int) == 60) = false := hne 60 rfl
        have hg1 : g0 = (b : Int) := by
          rw [HGB.out, HDR.out, Gn_stop n hn c _ hc']
          show ((T.length - (c :: T.drop (b + 1)).length : Nat) : Int) = _
          simp; omega
        have HG1 := Lib.hid hg1
        clear hg1 hne hat hc hc'
        go_wp2
        go_ret
        exact ⟨by rw [HG1.out]; rfl, HB.out⟩
    · have hg1 : g0 = (b : Int) := by
        rw [HGB.out, List.drop_eq_nil_of_le (by omega), Gn_nil n hn]
        show ((T.length - ([] : List UInt8).length : Nat) : Int) = _
        simp; omega
      have HG1 := Lib.hid hg1
      clear hg1
      go_wp2
      go_ret
      exact ⟨by rw [HG1.out]; rfl, HB.out⟩
end Go.Proofs.YtjogcdkebplcpaaGreatDoor
