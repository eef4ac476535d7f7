/-
  The document's May answers the same. Its condition: the groups lie in memory.
-/
import Derived.Test.YtedcgmagkkoggaaMy
namespace Go.Proofs.Ytedcgmagkkoggaa
open Go.RowKit
attribute [go_sem] and1
theorem two_way (n : Int) : n % 2 = 0 ∨ n % 2 = 1 := by omega
theorem ok3_all (b g : Int) : ok3 b g = true ↔ ∀ i : Nat, i < 3 → ¬ (b / 2 ^ i % 2 = 1 ∧ g / 2 ^ i % 2 = 0) := by
  constructor
  · intro h i hi
    unfold ok3 at h
    simp only [Bool.and_eq_true, Bool.or_eq_true, bne_iff_ne, beq_iff_eq] at h
    obtain ⟨h0, h1, h2⟩ := h
    match i, hi with
    | 0, _ => simp only [Int.pow_zero, Int.ediv_one]; omega
    | 1, _ => rw [show (2 : Int) ^ 1 = 2 from rfl]; omega
    | 2, _ => rw [show (2 : Int) ^ 2 = 4 from rfl]; omega
  · intro h
    have h0 := h 0 (by decide)
    have h1 := h 1 (by decide)
    have h2 := h 2 (by decide)
    rw [show (2 : Int) ^ 0 = 1 from rfl, Int.ediv_one, Int.ediv_one] at h0
    rw [show (2 : Int) ^ 1 = 2 from rfl] at h1
    rw [show (2 : Int) ^ 2 = 4 from rfl] at h2
    unfold ok3
    simp only [Bool.and_eq_true, Bool.or_eq_true, bne_iff_ne, beq_iff_eq]
    omega
theorem shift_two (m : Int) (a i : Nat) : m / 2 ^ a / 2 ^ i = m / 2 ^ (a + i) := by
  have h : (0 : Int) ≤ 2 ^ a := Int.pow_nonneg (by decide)
  rw [Int.ediv_ediv, if_neg (fun k => absurd k.1 (by omega)), Int.sub_zero, Int.pow_add]
/-- How far the bits of a caller lie. -/
def farB (own grp uid gid : Int) (G : List Int) : Nat := if uid = own then 6 else if gid = grp ∨ grp ∈ G then 3 else 0
theorem mayB_far (mode own grp uid gid : Int) (G : List Int) (b : Int) (h : uid ≠ 0) : mayB mode own grp uid gid G b = ok3 b (mode / 2 ^ farB own grp uid gid G) := by
  unfold mayB farB
  rw [if_neg h]
  split
  · rfl
  · split
    · rfl
    · rw [Int.pow_zero, Int.ediv_one]

theorem mem_next (G : List Int) (k : Nat) (hlt : k < G.length) (gid grp : Int) : decide (gid = grp ∨ grp ∈ G.take (k + 1)) = (decide (gid = grp ∨ grp ∈ G.take k) || G[k] == grp) := by
  have e : (grp ∈ G.take (k + 1)) ↔ (grp ∈ G.take k ∨ G[k] = grp) := by
    rw [List.take_succ_eq_append_getElem hlt, List.mem_append, List.mem_singleton]
    exact or_congr Iff.rfl eq_comm
  by_cases h3 : G[k] = grp
  · rw [beq_iff_eq.2 h3, Bool.or_true]
    exact decide_eq_true (.inr (e.2 (.inr h3)))
  · rw [beq_eq_false_iff_ne.2 h3, Bool.or_false]
    exact decide_eq_decide.2 (or_congr Iff.rfl (e.trans (or_iff_left h3)))
set_option maxRecDepth 100000 in
set_option maxHeartbeats 4000000 in
theorem refmay_any (mode own grp uid gid b : Int) (G : List Int) (ao : Option Addr) (cap : Nat) (w : World) (hI : IntsAt w ao G) (hl : G.length ≤ 9223372036854775807) :
    Calls Try.prog 18 #[.int .i64 mode, .int .i64 own, .int .i64 grp, .int .i64 uid, .int .i64 gid, .slice ao G.length cap, .int .i64 b] w fun e w' => e = .returned (.bool (mayB mode own grp uid gid G b)) ∧ w = w' := by
  have HI := Lib.hid hI
  clear hI
  by_cases h0 : uid = 0
  · subst h0
    go_enter Try.func18, Try.ntmps18
    go_wp2
    go_ret
    exact ⟨congrArg (fun b => Ending.returned (Value.bool b)) (by unfold mayB; rw [if_pos rfl]), rfl⟩
  · have b0 : (uid == 0) = false := by simpa using h0
    have HM := Lib.hid (mayB_far mode own grp uid gid G b h0)
    have HF : Hid (farB own grp uid gid G = if uid = own then 6 else if gid = grp ∨ grp ∈ G then 3 else 0) := Lib.hid rfl
    go_enter Try.func18, Try.ntmps18
    go_wp2
    go_loop [15, 16] (fun t i => ∃ k : Nat, k ≤ G.length ∧ i = .int .i64 k ∧ t = .bool (decide (gid = grp ∨ grp ∈ G.take k))) (fun _ i => G.length - (intOf i).toNat)
    case atStart => exact ⟨0, Nat.zero_le _, rfl, by simp; rfl⟩
    case round =>
      obtain ⟨k, hk, rfl, rfl⟩ := hrel
      by_cases hlt : k < G.length
      · obtain ⟨g, off, rfl, hg, hc⟩ := HI.out k hlt
        have HT : Hid (decide (gid = grp ∨ grp ∈ G.take (k + 1)) = (decide (gid = grp ∨ grp ∈ G.take k) || G[k] == grp)) := Lib.hid (by
          exact mem_next G k hlt gid grp)
        generalize G[k] = n at *
        generalize decide (gid = grp ∨ grp ∈ G.take k) = t at *
        cases t with
        | true =>
          go_wp2
          go_round
          case rel => exact ⟨k + 1, by omega, by go_num, by rw [HT.out]; rfl⟩
          case measure => simp [intOf]; omega
        | false =>
          go_wp2
          go_round
          case rel => exact ⟨k + 1, by omega, by go_num, by rw [HT.out]; rfl⟩
          case measure => simp [intOf]; omega
      · obtain rfl : k = G.length := by omega
        rw [List.take_length]
        by_cases ho : uid = own
        · subst ho
          have hfar : farB uid grp uid gid G = 6 := by rw [HF.out, if_pos rfl]
          have HA : Hid (mayB mode uid grp uid gid G b = ok3 b (mode / 2 ^ 6)) := Lib.hid (by rw [HM.out, hfar])
          clear HM HF hfar HI
          go_wp2
          go_loop [18] (fun k => ∃ j : Int, 0 ≤ j ∧ j ≤ 3 ∧ k = .int .i64 j ∧ ∀ i : Nat, (i : Int) < j → ¬ (b / 2 ^ i % 2 = 1 ∧ mode / 2 ^ (6 + i) % 2 = 0)) (fun k => 3 - (intOf k).toNat)
          case atStart => exact ⟨0, by decide, by decide, rfl, fun i hi => absurd hi (by omega)⟩
          case round =>
            obtain ⟨j, hj0, hj, rfl, hA⟩ := hrel
            have HP := Lib.hid hA
            clear hA
            obtain rfl | rfl | rfl | rfl : j = 0 ∨ j = 1 ∨ j = 2 ∨ j = 3 := by omega
            · rcases two_way (b) with h1 | h1
              · have hx : (b % 2 == 1) = false := by rw [h1]; rfl
                have hy : ¬ (b % 2 = 1) := by rw [h1]; decide
                clear h1
                go_wp2
                go_round
                case rel =>
                  refine ⟨1, by decide, by decide, rfl, fun i hi => ?_⟩
                  rcases Nat.lt_or_ge i 0 with h | h
                  · exact HP.out i (by omega)
                  · obtain rfl : i = 0 := by omega
                    intro h; exact hy (by simpa using h.1)
                case measure => simp [intOf]
              · have hx : (b % 2 == 1) = true := by rw [h1]; rfl
                rcases two_way (mode / 64) with h2 | h2
                · have hz : (mode / 64 % 2 == 0) = true := by rw [h2]; rfl
                  have H1 := Lib.hid h1; have H2 := Lib.hid h2; clear h1 h2
                  go_wp2
                  go_ret
                  refine ⟨congrArg (fun b => Ending.returned (Value.bool b)) ?_, rfl⟩
                  rw [HA.out]
                  cases hk : ok3 b (mode / 2 ^ 6) with
                  | false => rfl
                  | true => exact absurd ⟨by simpa using H1.out, by rw [shift_two]; simpa using H2.out⟩ ((ok3_all _ _).1 hk 0 (by decide))
                · have hz : (mode / 64 % 2 == 0) = false := by rw [h2]; rfl
                  have hy : ¬ (mode / 64 % 2 = 0) := by rw [h2]; decide
                  clear h1 h2
                  go_wp2
                  go_round
                  case rel =>
                    refine ⟨1, by decide, by decide, rfl, fun i hi => ?_⟩
                    rcases Nat.lt_or_ge i 0 with h | h
                    · exact HP.out i (by omega)
                    · obtain rfl : i = 0 := by omega
                      intro h; exact hy (by simpa using h.2)
                  case measure => simp [intOf]
            · rcases two_way (b / 2) with h1 | h1
              · have hx : (b / 2 % 2 == 1) = false := by rw [h1]; rfl
                have hy : ¬ (b / 2 % 2 = 1) := by rw [h1]; decide
                clear h1
                go_wp2
                go_round
                case rel =>
                  refine ⟨2, by decide, by decide, rfl, fun i hi => ?_⟩
                  rcases Nat.lt_or_ge i 1 with h | h
                  · exact HP.out i (by omega)
                  · obtain rfl : i = 1 := by omega
                    intro h; exact hy (by simpa using h.1)
                case measure => simp [intOf]
              · have hx : (b / 2 % 2 == 1) = true := by rw [h1]; rfl
                rcases two_way (mode / 128) with h2 | h2
                · have hz : (mode / 128 % 2 == 0) = true := by rw [h2]; rfl
                  have H1 := Lib.hid h1; have H2 := Lib.hid h2; clear h1 h2
                  go_wp2
                  go_ret
                  refine ⟨congrArg (fun b => Ending.returned (Value.bool b)) ?_, rfl⟩
                  rw [HA.out]
                  cases hk : ok3 b (mode / 2 ^ 6) with
                  | false => rfl
                  | true => exact absurd ⟨by simpa using H1.out, by rw [shift_two]; simpa using H2.out⟩ ((ok3_all _ _).1 hk 1 (by decide))
                · have hz : (mode / 128 % 2 == 0) = false := by rw [h2]; rfl
                  have hy : ¬ (mode / 128 % 2 = 0) := by rw [h2]; decide
                  clear h1 h2
                  go_wp2
                  go_round
                  case rel =>
                    refine ⟨2, by decide, by decide, rfl, fun i hi => ?_⟩
                    rcases Nat.lt_or_ge i 1 with h | h
                    · exact HP.out i (by omega)
                    · obtain rfl : i = 1 := by omega
                      intro h; exact hy (by simpa using h.2)
                  case measure => simp [intOf]
            · rcases two_way (b / 4) with h1 | h1
              · have hx : (b / 4 % 2 == 1) = false := by rw [h1]; rfl
                have hy : ¬ (b / 4 % 2 = 1) := by rw [h1]; decide
                clear h1
                go_wp2
                go_round
                case rel =>
                  refine ⟨3, by decide, by decide, rfl, fun i hi => ?_⟩
                  rcases Nat.lt_or_ge i 2 with h | h
                  · exact HP.out i (by omega)
                  · obtain rfl : i = 2 := by omega
                    intro h; exact hy (by simpa using h.1)
                case measure => simp [intOf]
              · have hx : (b / 4 % 2 == 1) = true := by rw [h1]; rfl
                rcases two_way (mode / 256) with h2 | h2
                · have hz : (mode / 256 % 2 == 0) = true := by rw [h2]; rfl
                  have H1 := Lib.hid h1; have H2 := Lib.hid h2; clear h1 h2
                  go_wp2
                  go_ret
                  refine ⟨congrArg (fun b => Ending.returned (Value.bool b)) ?_, rfl⟩
                  rw [HA.out]
                  cases hk : ok3 b (mode / 2 ^ 6) with
                  | false => rfl
                  | true => exact absurd ⟨by simpa using H1.out, by rw [shift_two]; simpa using H2.out⟩ ((ok3_all _ _).1 hk 2 (by decide))
                · have hz : (mode / 256 % 2 == 0) = false := by rw [h2]; rfl
                  have hy : ¬ (mode / 256 % 2 = 0) := by rw [h2]; decide
                  clear h1 h2
                  go_wp2
                  go_round
                  case rel =>
                    refine ⟨3, by decide, by decide, rfl, fun i hi => ?_⟩
                    rcases Nat.lt_or_ge i 2 with h | h
                    · exact HP.out i (by omega)
                    · obtain rfl : i = 2 := by omega
                      intro h; exact hy (by simpa using h.2)
                  case measure => simp [intOf]
            · go_wp2
              go_ret
              refine ⟨congrArg (fun b => Ending.returned (Value.bool b)) ?_, rfl⟩
              rw [HA.out, (ok3_all _ _).2 (fun i hi => by rw [shift_two]; exact HP.out i (by omega))]
        · have bo : (uid == own) = false := by simpa using ho
          by_cases hg : gid = grp ∨ grp ∈ G
          · have hfar : farB own grp uid gid G = 3 := by rw [HF.out, if_neg ho, if_pos hg]
            have dg : decide (gid = grp ∨ grp ∈ G) = true := decide_eq_true hg
            clear hg
            rw [dg]
            have HA : Hid (mayB mode own grp uid gid G b = ok3 b (mode / 2 ^ 3)) := Lib.hid (by rw [HM.out, hfar])
            clear HM HF hfar HI
            go_wp2
            go_loop [18] (fun k => ∃ j : Int, 0 ≤ j ∧ j ≤ 3 ∧ k = .int .i64 j ∧ ∀ i : Nat, (i : Int) < j → ¬ (b / 2 ^ i % 2 = 1 ∧ mode / 2 ^ (3 + i) % 2 = 0)) (fun k => 3 - (intOf k).toNat)
            case atStart => exact ⟨0, by decide, by decide, rfl, fun i hi => absurd hi (by omega)⟩
            case round =>
              obtain ⟨j, hj0, hj, rfl, hA⟩ := hrel
              have HP := Lib.hid hA
              clear hA
              obtain rfl | rfl | rfl | rfl : j = 0 ∨ j = 1 ∨ j = 2 ∨ j = 3 := by omega
              · rcases two_way (b) with h1 | h1
                · have hx : (b % 2 == 1) = false := by rw [h1]; rfl
                  have hy : ¬ (b % 2 = 1) := by rw [h1]; decide
                  clear h1
                  go_wp2
                  go_round
                  case rel =>
                    refine ⟨1, by decide, by decide, rfl, fun i hi => ?_⟩
                    rcases Nat.lt_or_ge i 0 with h | h
                    · exact HP.out i (by omega)
                    · obtain rfl : i = 0 := by omega
                      intro h; exact hy (by simpa using h.1)
                  case measure => simp [intOf]
                · have hx : (b % 2 == 1) = true := by rw [h1]; rfl
                  rcases two_way (mode / 8) with h2 | h2
                  · have hz : (mode / 8 % 2 == 0) = true := by rw [h2]; rfl
                    have H1 := Lib.hid h1; have H2 := Lib.hid h2; clear h1 h2
                    go_wp2
                    go_ret
                    refine ⟨congrArg (fun b => Ending.returned (Value.bool b)) ?_, rfl⟩
                    rw [HA.out]
                    cases hk : ok3 b (mode / 2 ^ 3) with
                    | false => rfl
                    | true => exact absurd ⟨by simpa using H1.out, by rw [shift_two]; simpa using H2.out⟩ ((ok3_all _ _).1 hk 0 (by decide))
                  · have hz : (mode / 8 % 2 == 0) = false := by rw [h2]; rfl
                    have hy : ¬ (mode / 8 % 2 = 0) := by rw [h2]; decide
                    clear h1 h2
                    go_wp2
                    go_round
                    case rel =>
                      refine ⟨1, by decide, by decide, rfl, fun i hi => ?_⟩
                      rcases Nat.lt_or_ge i 0 with h | h
                      · exact HP.out i (by omega)
                      · obtain rfl : i = 0 := by omega
                        intro h; exact hy (by simpa using h.2)
                    case measure => simp [intOf]
              · rcases two_way (b / 2) with h1 | h1
                · have hx : (b / 2 % 2 == 1) = false := by rw [h1]; rfl
                  have hy : ¬ (b / 2 % 2 = 1) := by rw [h1]; decide
                  clear h1
                  go_wp2
                  go_round
                  case rel =>
                    refine ⟨2, by decide, by decide, rfl, fun i hi => ?_⟩
                    rcases Nat.lt_or_ge i 1 with h | h
                    · exact HP.out i (by omega)
                    · obtain rfl : i = 1 := by omega
                      intro h; exact hy (by simpa using h.1)
                  case measure => simp [intOf]
                · have hx : (b / 2 % 2 == 1) = true := by rw [h1]; rfl
                  rcases two_way (mode / 16) with h2 | h2
                  · have hz : (mode / 16 % 2 == 0) = true := by rw [h2]; rfl
                    have H1 := Lib.hid h1; have H2 := Lib.hid h2; clear h1 h2
                    go_wp2
                    go_ret
                    refine ⟨congrArg (fun b => Ending.returned (Value.bool b)) ?_, rfl⟩
                    rw [HA.out]
                    cases hk : ok3 b (mode / 2 ^ 3) with
                    | false => rfl
                    | true => exact absurd ⟨by simpa using H1.out, by rw [shift_two]; simpa using H2.out⟩ ((ok3_all _ _).1 hk 1 (by decide))
                  · have hz : (mode / 16 % 2 == 0) = false := by rw [h2]; rfl
                    have hy : ¬ (mode / 16 % 2 = 0) := by rw [h2]; decide
                    clear h1 h2
                    go_wp2
                    go_round
                    case rel =>
                      refine ⟨2, by decide, by decide, rfl, fun i hi => ?_⟩
                      rcases Nat.lt_or_ge i 1 with h | h
                      · exact HP.out i (by omega)
                      · obtain rfl : i = 1 := by omega
                        intro h; exact hy (by simpa using h.2)
                    case measure => simp [intOf]
              · rcases two_way (b / 4) with h1 | h1
                · have hx : (b / 4 % 2 == 1) = false := by rw [h1]; rfl
                  have hy : ¬ (b / 4 % 2 = 1) := by rw [h1]; decide
                  clear h1
                  go_wp2
                  go_round
                  case rel =>
                    refine ⟨3, by decide, by decide, rfl, fun i hi => ?_⟩
                    rcases Nat.lt_or_ge i 2 with h | h
                    · exact HP.out i (by omega)
                    · obtain rfl : i = 2 := by omega
                      intro h; exact hy (by simpa using h.1)
                  case measure => simp [intOf]
                · have hx : (b / 4 % 2 == 1) = true := by rw [h1]; rfl
                  rcases two_way (mode / 32) with h2 | h2
                  · have hz : (mode / 32 % 2 == 0) = true := by rw [h2]; rfl
                    have H1 := Lib.hid h1; have H2 := Lib.hid h2; clear h1 h2
                    go_wp2
                    go_ret
                    refine ⟨congrArg (fun b => Ending.returned (Value.bool b)) ?_, rfl⟩
                    rw [HA.out]
                    cases hk : ok3 b (mode / 2 ^ 3) with
                    | false => rfl
                    | true => exact absurd ⟨by simpa using H1.out, by rw [shift_two]; simpa using H2.out⟩ ((ok3_all _ _).1 hk 2 (by decide))
                  · have hz : (mode / 32 % 2 == 0) = false := by rw [h2]; rfl
                    have hy : ¬ (mode / 32 % 2 = 0) := by rw [h2]; decide
                    clear h1 h2
                    go_wp2
                    go_round
                    case rel =>
                      refine ⟨3, by decide, by decide, rfl, fun i hi => ?_⟩
                      rcases Nat.lt_or_ge i 2 with h | h
                      · exact HP.out i (by omega)
                      · obtain rfl : i = 2 := by omega
                        intro h; exact hy (by simpa using h.2)
                    case measure => simp [intOf]
              · go_wp2
                go_ret
                refine ⟨congrArg (fun b => Ending.returned (Value.bool b)) ?_, rfl⟩
                rw [HA.out, (ok3_all _ _).2 (fun i hi => by rw [shift_two]; exact HP.out i (by omega))]
          · have hfar : farB own grp uid gid G = 0 := by rw [HF.out, if_neg ho, if_neg hg]
            have dg : decide (gid = grp ∨ grp ∈ G) = false := decide_eq_false hg
            clear hg
            rw [dg]
            have HA : Hid (mayB mode own grp uid gid G b = ok3 b (mode / 2 ^ 0)) := Lib.hid (by rw [HM.out, hfar])
            clear HM HF hfar HI
            go_wp2
            go_loop [18] (fun k => ∃ j : Int, 0 ≤ j ∧ j ≤ 3 ∧ k = .int .i64 j ∧ ∀ i : Nat, (i : Int) < j → ¬ (b / 2 ^ i % 2 = 1 ∧ mode / 2 ^ (0 + i) % 2 = 0)) (fun k => 3 - (intOf k).toNat)
            case atStart => exact ⟨0, by decide, by decide, rfl, fun i hi => absurd hi (by omega)⟩
            case round =>
              obtain ⟨j, hj0, hj, rfl, hA⟩ := hrel
              have HP := Lib.hid hA
              clear hA
              obtain rfl | rfl | rfl | rfl : j = 0 ∨ j = 1 ∨ j = 2 ∨ j = 3 := by omega
              · rcases two_way (b) with h1 | h1
                · have hx : (b % 2 == 1) = false := by rw [h1]; rfl
                  have hy : ¬ (b % 2 = 1) := by rw [h1]; decide
                  clear h1
                  go_wp2
                  go_round
                  case rel =>
                    refine ⟨1, by decide, by decide, rfl, fun i hi => ?_⟩
                    rcases Nat.lt_or_ge i 0 with h | h
                    · exact HP.out i (by omega)
                    · obtain rfl : i = 0 := by omega
                      intro h; exact hy (by simpa using h.1)
                  case measure => simp [intOf]
                · have hx : (b % 2 == 1) = true := by rw [h1]; rfl
                  rcases two_way (mode) with h2 | h2
                  · have hz : (mode % 2 == 0) = true := by rw [h2]; rfl
                    have H1 := Lib.hid h1; have H2 := Lib.hid h2; clear h1 h2
                    go_wp2
                    go_ret
                    refine ⟨congrArg (fun b => Ending.returned (Value.bool b)) ?_, rfl⟩
                    rw [HA.out]
                    cases hk : ok3 b (mode / 2 ^ 0) with
                    | false => rfl
                    | true => exact absurd ⟨by simpa using H1.out, by rw [shift_two]; simpa using H2.out⟩ ((ok3_all _ _).1 hk 0 (by decide))
                  · have hz : (mode % 2 == 0) = false := by rw [h2]; rfl
                    have hy : ¬ (mode % 2 = 0) := by rw [h2]; decide
                    clear h1 h2
                    go_wp2
                    go_round
                    case rel =>
                      refine ⟨1, by decide, by decide, rfl, fun i hi => ?_⟩
                      rcases Nat.lt_or_ge i 0 with h | h
                      · exact HP.out i (by omega)
                      · obtain rfl : i = 0 := by omega
                        intro h; exact hy (by simpa using h.2)
                    case measure => simp [intOf]
              · rcases two_way (b / 2) with h1 | h1
                · have hx : (b / 2 % 2 == 1) = false := by rw [h1]; rfl
                  have hy : ¬ (b / 2 % 2 = 1) := by rw [h1]; decide
                  clear h1
                  go_wp2
                  go_round
                  case rel =>
                    refine ⟨2, by decide, by decide, rfl, fun i hi => ?_⟩
                    rcases Nat.lt_or_ge i 1 with h | h
                    · exact HP.out i (by omega)
                    · obtain rfl : i = 1 := by omega
                      intro h; exact hy (by simpa using h.1)
                  case measure => simp [intOf]
                · have hx : (b / 2 % 2 == 1) = true := by rw [h1]; rfl
                  rcases two_way (mode / 2) with h2 | h2
                  · have hz : (mode / 2 % 2 == 0) = true := by rw [h2]; rfl
                    have H1 := Lib.hid h1; have H2 := Lib.hid h2; clear h1 h2
                    go_wp2
                    go_ret
                    refine ⟨congrArg (fun b => Ending.returned (Value.bool b)) ?_, rfl⟩
                    rw [HA.out]
                    cases hk : ok3 b (mode / 2 ^ 0) with
                    | false => rfl
                    | true => exact absurd ⟨by simpa using H1.out, by rw [shift_two]; simpa using H2.out⟩ ((ok3_all _ _).1 hk 1 (by decide))
                  · have hz : (mode / 2 % 2 == 0) = false := by rw [h2]; rfl
                    have hy : ¬ (mode / 2 % 2 = 0) := by rw [h2]; decide
                    clear h1 h2
                    go_wp2
                    go_round
                    case rel =>
                      refine ⟨2, by decide, by decide, rfl, fun i hi => ?_⟩
                      rcases Nat.lt_or_ge i 1 with h | h
                      · exact HP.out i (by omega)
                      · obtain rfl : i = 1 := by omega
                        intro h; exact hy (by simpa using h.2)
                    case measure => simp [intOf]
              · rcases two_way (b / 4) with h1 | h1
                · have hx : (b / 4 % 2 == 1) = false := by rw [h1]; rfl
                  have hy : ¬ (b / 4 % 2 = 1) := by rw [h1]; decide
                  clear h1
                  go_wp2
                  go_round
                  case rel =>
                    refine ⟨3, by decide, by decide, rfl, fun i hi => ?_⟩
                    rcases Nat.lt_or_ge i 2 with h | h
                    · exact HP.out i (by omega)
                    · obtain rfl : i = 2 := by omega
                      intro h; exact hy (by simpa using h.1)
                  case measure => simp [intOf]
                · have hx : (b / 4 % 2 == 1) = true := by rw [h1]; rfl
                  rcases two_way (mode / 4) with h2 | h2
                  · have hz : (mode / 4 % 2 == 0) = true := by rw [h2]; rfl
                    have H1 := Lib.hid h1; have H2 := Lib.hid h2; clear h1 h2
                    go_wp2
                    go_ret
                    refine ⟨congrArg (fun b => Ending.returned (Value.bool b)) ?_, rfl⟩
                    rw [HA.out]
                    cases hk : ok3 b (mode / 2 ^ 0) with
                    | false => rfl
                    | true => exact absurd ⟨by simpa using H1.out, by rw [shift_two]; simpa using H2.out⟩ ((ok3_all _ _).1 hk 2 (by decide))
                  · have hz : (mode / 4 % 2 == 0) = false := by rw [h2]; rfl
                    have hy : ¬ (mode / 4 % 2 = 0) := by rw [h2]; decide
                    clear h1 h2
                    go_wp2
                    go_round
                    case rel =>
                      refine ⟨3, by decide, by decide, rfl, fun i hi => ?_⟩
                      rcases Nat.lt_or_ge i 2 with h | h
                      · exact HP.out i (by omega)
                      · obtain rfl : i = 2 := by omega
                        intro h; exact hy (by simpa using h.2)
                    case measure => simp [intOf]
              · go_wp2
                go_ret
                refine ⟨congrArg (fun b => Ending.returned (Value.bool b)) ?_, rfl⟩
                rw [HA.out, (ok3_all _ _).2 (fun i hi => by rw [shift_two]; exact HP.out i (by omega))]
end Go.Proofs.Ytedcgmagkkoggaa
