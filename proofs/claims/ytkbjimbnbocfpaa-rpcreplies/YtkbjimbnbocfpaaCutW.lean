/-
  RpcCut's walk: it answers true, and makes new blocks alone. Its condition: the arguments are no longer than memory.
-/
import Derived.Test.YtkbjimbnbocfpaaSk
import Derived.Test.YtkbjimbnbocfpaaCt
import Derived.Deep.DeepCutAuto
import Derived.Deep.QuietTactic
import Derived.BigQuiet
import Derived.WalkSmall
namespace Go.Proofs.Ytkbjimbnbocfpaa
open Go.RowKit
abbrev plainC (a b c d : Int) (s : ByteArray) : Cl := ⟨a, b, c, d, false, 0, ⟨#[]⟩, 0, 0, [], s⟩
theorem put_plain (a b c d : Int) (s : ByteArray) (w : World) (hs : s.size ≤ 9223372036854700000) :
    Calls Try.prog 11 #[.agg #[.int .i64 a, .int .i64 b, .int .i64 c, .int .i64 d, .bool false, .int .i64 0, .string ⟨#[]⟩, .int .i64 0, .int .i64 0, .slice none 0 0, .string s]] w
      fun e w' => e = .returned (.tuple #[.string (if (plainC a b c d s).ok then restS (plainC a b c d s).headP s else ⟨#[]⟩), .int .i64 (if (plainC a b c d s).ok then restC (plainC a b c d s).headP s else 4)]) ∧ Below w.heap.size w w' := putCall_plain (plainC a b c d s) none 0 w rfl hs
theorem cut_take (l : List UInt8) (k : Nat) : (⟨l.toArray⟩ : ByteArray).extract 0 k = ⟨(l.take k).toArray⟩ := by
  apply ByteArray.ext
  rw [ByteArray.data_extract]
  simp
theorem str_cut (s : ByteArray) (k : Nat) : s.extract 0 k = ⟨(s.data.toList.take k).toArray⟩ := by
  apply ByteArray.ext
  rw [ByteArray.data_extract]
  apply Array.ext'
  simp
theorem plain_us {a b c d : Int} {s : ByteArray} (h : (plainC a b c d s).ok = true) : isU a = true ∧ isU b = true ∧ isU c = true ∧ isU d = true := by
  simp [Cl.ok, areU] at h
  exact ⟨h.1.1, h.1.2.1, h.1.2.2.1, h.1.2.2.2⟩
/-- What GetCall answers of a cut call. -/
theorem get_good (a b c d : Int) (s : ByteArray) (k : Nat) (w : World) (ho : (plainC a b c d s).ok = true) (hl : 40 + s.size ≤ 65536) (h4 : 40 ≤ k) (hk : k ≤ 40 + s.size) (hm : k % 4 = 0) (S : ByteArray) (hS : S = (⟨((plainC a b c d s).headP ++ s.data.toList).toArray⟩ : ByteArray).extract 0 k) :
    Calls Try.prog 14 #[.string S] w fun r w' => ∃ vo va vc, r = .returned (.tuple #[.agg #[.int .i64 a, .int .i64 b, .int .i64 c, .int .i64 d, .bool false, .int .i64 0, .string ⟨#[]⟩, .int .i64 0, .int .i64 0, .slice vo va vc, .string (s.extract 0 (k - 40))], .string ⟨#[]⟩, .int .i64 0]) ∧ Below w.heap.size w w' := by
  obtain ⟨ha, hb, hc, hd⟩ := plain_us ho
  have hsl : s.data.toList.length = s.size := by simp
  have e : S = ⟨((plainC a b c d s).headP ++ s.data.toList.take (k - 40)).toArray⟩ := by
    rw [hS, cut_take, List.take_append, List.take_of_length_le (by rw [headP_length]; omega), headP_length]
  have hg := get_whole (plainC a b c d s) (s.data.toList.take (k - 40)) ha hb hc hd (by rw [List.length_take]; omega) (by rw [List.length_take]; omega)
  have h := getCall_any S w
  rw [e, hg] at h
  rw [e]
  refine h.mono ?_
  rintro r w' ⟨vg, rfl, hgo, hbl⟩
  obtain ⟨vo, va, vc, rfl⟩ := owned_slice hgo
  exact ⟨vo, va, vc, by rw [str_cut], hbl⟩
theorem get_none (a b c d : Int) (s : ByteArray) (k : Nat) (w : World) (ho : (plainC a b c d s).ok = true) (hl : 40 + s.size ≤ 65536) (hk : k ≤ 40 + s.size) (hm : k < 40 ∨ k % 4 ≠ 0) (S : ByteArray) (hS : S = (⟨((plainC a b c d s).headP ++ s.data.toList).toArray⟩ : ByteArray).extract 0 k) :
    Calls Try.prog 14 #[.string S] w fun r w' => ∃ (t : ByteArray) (x : Int), r = .returned (.tuple #[zeroC, .string t, .int .i64 x]) ∧ (x != 0) = true ∧ Below w.heap.size w w' := by
  obtain ⟨ha, hb, hc, hd⟩ := plain_us ho
  have hsl : s.data.toList.length = s.size := by simp
  have hg := get_cut (plainC a b c d s) s.data.toList k ha hb hc hd (by omega) hm (by omega)
  have h := getCall_any S w
  rw [hS, cut_take] at h
  rw [hS, cut_take]
  generalize getO ⟨(((plainC a b c d s).headP ++ s.data.toList).take k).toArray⟩ = g at *
  refine h.mono ?_
  cases g with
  | err e =>
    rintro r w' ⟨rfl, hB⟩
    exact ⟨_, e, rfl, hg, hB⟩
  | ref xid v lo hi =>
    rintro r w' ⟨rfl, hB⟩
    exact ⟨_, 62, rfl, rfl, hB⟩
  | ok => cases hg
set_option maxRecDepth 100000 in
set_option maxHeartbeats 1000000 in
theorem cut_walk (a b c d cut : Int) (s : ByteArray) (w : World) (hs : s.size ≤ 9223372036854700000) :
    Calls Try.prog 8 #[.agg #[.int .i64 a, .int .i64 b, .int .i64 c, .int .i64 d], .string s, .int .i64 cut] w fun e w' => e = .returned (.bool true) ∧ Below w.heap.size w w' := by
  go_enter Try.func8, Try.ntmps8
  go_wp2_with fail
  refine (speaks_any _).mono ?_
  rintro e w1 ⟨rfl, hB1⟩
  have c0 : w1.cell? ⟨w.heap.size, 0, none⟩ = some (.int .i64 a) := by rw [hB1.cell (by simp)]; simp [World.cell?_alloc_at]
  have c1 : w1.cell? ⟨w.heap.size, 1, none⟩ = some (.int .i64 b) := by rw [hB1.cell (by simp)]; simp [World.cell?_alloc_at]
  have c2 : w1.cell? ⟨w.heap.size, 2, none⟩ = some (.int .i64 c) := by rw [hB1.cell (by simp)]; simp [World.cell?_alloc_at]
  have c3 : w1.cell? ⟨w.heap.size, 3, none⟩ = some (.int .i64 d) := by rw [hB1.cell (by simp)]; simp [World.cell?_alloc_at]
  have HB1 : Hid (Below w.heap.size w w1) := Lib.hid (((Below.refl _ _).alloc (Nat.le_refl _) _).trans (hB1.mono (by simp)))
  clear hB1
  go_wp2_with fail
  refine (put_plain a b c d s _ hs).mono ?_
  rintro e w2 ⟨rfl, hB2⟩
  have HB2 := Lib.hid (HB1.out.trans (hB2.mono HB1.out.size))
  clear hB2 c0 c1 c2 c3 HB1
  cases ho : (plainC a b c d s).ok
  · simp only [Bool.false_eq_true, if_false]
    go_wp2
    go_ret
    exact ⟨rfl, HB2.out⟩
  · simp only [if_true]
    by_cases hr : s.size % 4 ≠ 0 ∨ 65536 < (plainC a b c d s).headP.length + s.size
    · have e1 : restC (plainC a b c d s).headP s = 2 := if_pos hr
      rw [e1]
      go_wp2
      go_ret
      exact ⟨rfl, HB2.out⟩
    · have e1 : restC (plainC a b c d s).headP s = 0 := if_neg hr
      have e2 : restS (plainC a b c d s).headP s = ⟨((plainC a b c d s).headP ++ s.data.toList).toArray⟩ := if_neg hr
      rw [headP_length] at hr
      obtain ⟨T, hT⟩ : ∃ T : ByteArray, T = ⟨((plainC a b c d s).headP ++ s.data.toList).toArray⟩ := ⟨_, rfl⟩
      have hTs : T.size = 40 + s.size := by
        rw [hT]
        show ((plainC a b c d s).headP ++ s.data.toList).toArray.size = _
        simp [headP_length]
      rw [e1, e2, ← hT]
      have HT := Lib.hid hT
      clear hT e1 e2
      go_upto_region 6 with (fail)
      go_cut [37] (fun s37 wc => s37 = .bool (decide (cut < 0 ∨ (40 : Int) + s.size < cut)) ∧ w2 = wc)
      case first =>
        by_cases hc0 : cut < 0
        · go_wp2
          go_meet
          exact ⟨by simp [hc0], rfl⟩
        · by_cases hc1 : (40 : Int) + s.size < cut
          · go_wp2
            go_meet
            exact ⟨by simp [hc1], rfl⟩
          · go_wp2
            go_meet
            exact ⟨by simp [hc0, hc1], rfl⟩
      case rest =>
        obtain ⟨rfl, rfl⟩ := hcut
        go_upto_if 37 with (fail)
        go_cut [2] (fun c1 wc => ∃ k : Nat, k ≤ 40 + s.size ∧ c1 = .int .i64 k ∧ w2 = wc)
        case first =>
          by_cases hcc : cut < 0 ∨ (40 : Int) + s.size < cut
          · have hd : decide (cut < 0 ∨ (40 : Int) + s.size < cut) = true := decide_eq_true hcc
            go_wp2
            all_goals (go_meet; first | exact ⟨3, by omega, rfl, rfl⟩ | (exfalso; omega))
          · have hd : decide (cut < 0 ∨ (40 : Int) + s.size < cut) = false := decide_eq_false hcc
            go_wp2
            all_goals (go_meet; first | exact ⟨cut.toNat, by omega, by rw [Int.toNat_of_nonneg (by omega)], rfl⟩ | (exfalso; omega))
        case rest =>
          obtain ⟨k, hk, rfl, rfl⟩ := hcut
          by_cases hg : 40 ≤ k ∧ k % 4 = 0
          · have hd1 : decide ((40 : Int) ≤ (k : Int)) = true := decide_eq_true (by omega)
            have hd2 : ((k : Int) % 4 == 0) = true := beq_iff_eq.2 (by omega)
            go_wp2_with fail
            refine (get_good a b c d s k _ ho (by omega) hg.1 hk hg.2 _ (by rw [HT.out])).mono ?_
            rintro e w3 ⟨vo, va, vc, rfl, hB3⟩
            have HB3 := Lib.hid (HB2.out.trans (hB3.mono HB2.out.size))
            clear hB3
            have hek : (k : Int) - 40 = ((k - 40 : Nat) : Int) := by omega
            have hks : k - 40 ≤ s.size := by omega
            go_wp2_with fail
            go_quiet (fail)
            go_wp2
            go_ret
            exact ⟨by simp, below_drewN (HB3.out.alloc HB3.out.size _) _⟩
          · go_wp2_with fail
            refine (get_none a b c d s k _ ho (by omega) hk (by omega) _ (by rw [HT.out])).mono ?_
            rintro e w3 ⟨t, x, rfl, hx, hB3⟩
            have HB3 := Lib.hid (HB2.out.trans (hB3.mono HB2.out.size))
            clear hB3
            go_wp2
            all_goals first
              | (go_ret; exact ⟨rfl, HB3.out.alloc HB3.out.size _⟩)
              | (exfalso; rename_i h1 h2; have h2 := beq_iff_eq.1 h2; omega)
end Go.Proofs.Ytkbjimbnbocfpaa
