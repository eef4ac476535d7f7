/-
  TimerGrows' walk: it answers true, and makes new blocks alone. Its conditions: the words fit into 64 bits, and there are no more than a slice holds.
-/
import Derived.Test.YtfelndloobnipaaGr
namespace Go.Proofs.Ytfelndloobnipaa
open Go.RowKit Ieee

theorem cmp_dec (x y : Int) : compare x y = if x < y then .lt else if x = y then .eq else .gt := rfl
theorem ord_ge0 (v : Nat) (h : v < 4607182418800017408) : FloatKind.f64.format.order v 0 = some .gt ∨ FloatKind.f64.format.order v 0 = some .eq := by
  rw [order_rung v 0 (by unfold INF; omega) (by decide), cmp_dec, if_neg (by omega)]
  split
  · exact .inr rfl
  · exact .inl rfl
theorem ord_lt1 (v : Nat) (h : v < 4607182418800017408) : FloatKind.f64.format.order v 4607182418800017408 = some .lt := by
  rw [order_rung v 4607182418800017408 (by unfold INF; omega) (by decide), cmp_dec, if_pos (by omega)]
theorem ord_eqx (x : Nat) (h : x < INF) : FloatKind.f64.format.order x x = some .eq := by
  rw [order_rung x x (by omega) (by omega), cmp_dec, if_neg (by omega), if_pos rfl]
theorem tms_nat (k : Nat) (h : k ≤ 1000) : tms (k : Int) = k := by unfold tms; omega
set_option maxRecDepth 100000 in
set_option maxHeartbeats 1000000 in
theorem grow_walk (L : List Nat) (ao : Option Addr) (cap : Nat) (n : Int) (w : World) (hI : WrdAt w ao L) (hl : L.length * 8 ≤ 140737488355328) :
    Calls Try.prog 4 #[.slice ao L.length cap, .int .i64 n] w fun e w' => e = .returned (.bool true) ∧ Below w.heap.size w w' := by
  have HI := Lib.hid hI
  clear hI
  go_enter Try.func4, Try.ntmps4
  go_wp2_with fail
  refine (speaks_any _).mono ?_
  rintro e w1 ⟨rfl, hb⟩
  have H1 := Lib.hid (One.start w w1 hb)
  clear hb
  go_wp2_with fail
  refine (new_any _).mono ?_
  rintro e w' ⟨rfl, rfl⟩
  obtain ⟨p, hp⟩ : ∃ p, w1.heap.size = p := ⟨_, rfl⟩
  rw [hp] at H1 ⊢
  clear hp
  generalize w1.alloc _ = w2 at *
  go_wp2_with fail
  go_loopw [6] (fun i wr => ∃ k : Nat, ∃ s : St, k ≤ L.length ∧ i = .int .i64 k ∧ One w wr p s) (fun i _ => L.length - (intOf i).toNat)
  case atStart => exact ⟨0, none, Nat.zero_le _, rfl, H1.out⟩
  case round =>
    obtain ⟨k, s, hk, rfl, hM⟩ := hrel
    rename World => wq
    have HM := Lib.hid hM
    clear hM H1
    by_cases hlt : k < L.length
    · obtain ⟨g, off, rfl, hg, hc, hw⟩ := (HI.out.below HM.out.below) k hlt
      generalize L[k] = x at *
      have hxx : ((x : Int)).toNat = x := Int.toNat_natCast x
      go_wp2_with fail
      refine (sample_any _ p x s hw HM.out.ok HM.out.at_).mono ?_
      rintro e w4 ⟨rfl, ht, ho⟩
      have H4 := Lib.hid (HM.out.step x ht ho)
      clear ht ho
      generalize smp s x = s1 at *
      go_wp2
      exact ⟨⟨k + 1, s1, by omega, by go_num, H4.out⟩, by simp [intOf]; omega⟩
    · obtain rfl : k = L.length := by omega
      go_wp2_with fail
      go_loopw [7, 8] (fun l i wr => ∃ k : Nat, ∃ l0 : Nat, k ≤ 20 ∧ i = .int .i64 k ∧ l = .int .i64 l0 ∧ l0 ≤ wt (min (up k (bs s)) INF) ∧ One w wr p s) (fun _ i _ => 20 - (intOf i).toNat)
      case atStart => exact ⟨0, 1, by decide, rfl, rfl, (wt_hi _).2, HM.out⟩
      case round =>
        obtain ⟨k, l0, hk20, rfl, rfl, hl0, hM⟩ := hrel
        have HM := Lib.hid hM
        clear hM
        by_cases hlt2 : k < 20
        · have hwa := wait_any wr p k s HM.out.at_ HM.out.ok
          rw [tms_nat k (by omega)] at hwa
          have hnext : wt (min (up k (bs s)) INF) ≤ wt (min (up (k + 1) (bs s)) INF) := wt_mono (by have h7 : up k (bs s) ≤ up (k + 1) (bs s) := up_mono (Nat.le_succ k) (bs s); generalize up k (bs s) = A at *; generalize up (k + 1) (bs s) = B at *; generalize INF = I; omega)
          have hhi := (wt_hi (min (up k (bs s)) INF)).1
          have HW := Lib.hid hwa
          clear hwa
          generalize wt (min (up k (bs s)) INF) = x at *
          go_wp2_with fail
          refine HW.out.mono ?_
          rintro e w5 ⟨rfl, k5, rfl⟩
          go_wp2
          exact ⟨⟨k + 1, x, by omega, by go_num, rfl, hnext, HM.out.drew k5⟩, by simp [intOf]; omega⟩
        · clear hl0
          obtain rfl : k = 20 := by omega
          have hn : n < 0 ∨ 50 < n ∨ (0 ≤ n ∧ n ≤ 50) := by omega
          rcases hn with hn | hn | ⟨hn, hn'⟩
          · skip
            obtain ⟨N, x, v, y, S, hN, hx, hxi, hS0, hS1, hS, hv1, hy, hge⟩ := learned_s 7 (by omega)
            have e6 := ord_eqx x hxi
            have e7 := Lib.hid (ord_ge0 v hv1)
            have e8 := ord_lt1 v hv1
            have HV := Lib.hid hS
            have HS := Lib.hid hS1
            have HX := Lib.hid hxi
            have HT := Lib.hid hy
            have HN := Lib.hid hN
            have HG := Lib.hid hge
            have HZ := Lib.hid hS0
            clear hS hS1 hxi hy hN hge hS0 hv1
            go_wp2_with fail
            refine (new_any _).mono ?_
            rintro e w' ⟨rfl, rfl⟩
            have H3 := Lib.hid (One.start w wr HM.out.below)
            obtain ⟨q, hq⟩ : ∃ q, wr.heap.size = q := ⟨_, rfl⟩
            rw [hq] at H3 ⊢
            clear hq
            generalize wr.alloc _ = w3 at *
            rename World => w4
            go_wp2_with fail
            rw [show (7 : Int) = N from by rw [HN.out]; rfl]
            go_loopw [11] (fun i wr => ∃ k : Nat, k ≤ 200 ∧ i = .int .i64 k ∧ One w wr q (S k)) (fun i _ => 200 - (intOf i).toNat)
            case atStart => exact ⟨0, by decide, rfl, by rw [HZ.out]; exact H3.out⟩
            case round =>
              obtain ⟨k, hk2, rfl, hM⟩ := hrel
              have H4 := Lib.hid hM
              clear hM H3
              by_cases hlt3 : k < 200
              · go_wp2_with fail
                refine (sample_any _ q x (S k) (by have := HX.out; unfold INF at this; omega) H4.out.ok H4.out.at_).mono ?_
                rintro e w5 ⟨rfl, ht, ho⟩
                have H5 := Lib.hid (H4.out.step x ht ho)
                clear ht ho
                go_wp2
                exact ⟨⟨k + 1, by omega, by go_num, by rw [HS.out]; exact H5.out⟩, by simp [intOf]; omega⟩
              · obtain rfl : k = 200 := by omega
                rw [HV.out] at H4
                go_wp2_with fail
                refine (smooth_any _ q _ H4.out.at_).mono ?_
                rintro e w5 ⟨rfl, k5, rfl⟩
                have hwa := wait_any (wr.drewN k5) q 0 _ (H4.out.drew k5).at_ H4.out.ok
                rw [HT.out] at hwa
                have HW := Lib.hid hwa
                clear hwa
                simp only [Option.getD_some]
                rcases e7.out with e9 | e9
                all_goals go_wp2_with fail
                all_goals refine HW.out.mono ?_
                all_goals rintro e w6 ⟨rfl, k6, rfl⟩
                all_goals go_wp2
                all_goals go_ret
                all_goals refine ⟨?_, (H4.out.drew _).below⟩
                all_goals (have := HG.out; rw [← HN.out] at this; simp [this])
          · skip
            obtain ⟨N, x, v, y, S, hN, hx, hxi, hS0, hS1, hS, hv1, hy, hge⟩ := learned_s 7 (by omega)
            have e6 := ord_eqx x hxi
            have e7 := Lib.hid (ord_ge0 v hv1)
            have e8 := ord_lt1 v hv1
            have HV := Lib.hid hS
            have HS := Lib.hid hS1
            have HX := Lib.hid hxi
            have HT := Lib.hid hy
            have HN := Lib.hid hN
            have HG := Lib.hid hge
            have HZ := Lib.hid hS0
            clear hS hS1 hxi hy hN hge hS0 hv1
            go_wp2_with fail
            refine (new_any _).mono ?_
            rintro e w' ⟨rfl, rfl⟩
            have H3 := Lib.hid (One.start w wr HM.out.below)
            obtain ⟨q, hq⟩ : ∃ q, wr.heap.size = q := ⟨_, rfl⟩
            rw [hq] at H3 ⊢
            clear hq
            generalize wr.alloc _ = w3 at *
            rename World => w4
            go_wp2_with fail
            rw [show (7 : Int) = N from by rw [HN.out]; rfl]
            go_loopw [11] (fun i wr => ∃ k : Nat, k ≤ 200 ∧ i = .int .i64 k ∧ One w wr q (S k)) (fun i _ => 200 - (intOf i).toNat)
            case atStart => exact ⟨0, by decide, rfl, by rw [HZ.out]; exact H3.out⟩
            case round =>
              obtain ⟨k, hk2, rfl, hM⟩ := hrel
              have H4 := Lib.hid hM
              clear hM H3
              by_cases hlt3 : k < 200
              · go_wp2_with fail
                refine (sample_any _ q x (S k) (by have := HX.out; unfold INF at this; omega) H4.out.ok H4.out.at_).mono ?_
                rintro e w5 ⟨rfl, ht, ho⟩
                have H5 := Lib.hid (H4.out.step x ht ho)
                clear ht ho
                go_wp2
                exact ⟨⟨k + 1, by omega, by go_num, by rw [HS.out]; exact H5.out⟩, by simp [intOf]; omega⟩
              · obtain rfl : k = 200 := by omega
                rw [HV.out] at H4
                go_wp2_with fail
                refine (smooth_any _ q _ H4.out.at_).mono ?_
                rintro e w5 ⟨rfl, k5, rfl⟩
                have hwa := wait_any (wr.drewN k5) q 0 _ (H4.out.drew k5).at_ H4.out.ok
                rw [HT.out] at hwa
                have HW := Lib.hid hwa
                clear hwa
                simp only [Option.getD_some]
                rcases e7.out with e9 | e9
                all_goals go_wp2_with fail
                all_goals refine HW.out.mono ?_
                all_goals rintro e w6 ⟨rfl, k6, rfl⟩
                all_goals go_wp2
                all_goals go_ret
                all_goals refine ⟨?_, (H4.out.drew _).below⟩
                all_goals (have := HG.out; rw [← HN.out] at this; simp [this])
          · obtain ⟨m, rfl⟩ : ∃ m : Nat, n = m := ⟨n.toNat, by omega⟩
            obtain ⟨N, x, v, y, S, hN, hx, hxi, hS0, hS1, hS, hv1, hy, hge⟩ := learned_s m (by omega)
            have e6 := ord_eqx x hxi
            have e7 := Lib.hid (ord_ge0 v hv1)
            have e8 := ord_lt1 v hv1
            have HV := Lib.hid hS
            have HS := Lib.hid hS1
            have HX := Lib.hid hxi
            have HT := Lib.hid hy
            have HN := Lib.hid hN
            have HG := Lib.hid hge
            have HZ := Lib.hid hS0
            clear hS hS1 hxi hy hN hge hS0 hv1
            go_wp2_with fail
            refine (new_any _).mono ?_
            rintro e w' ⟨rfl, rfl⟩
            have H3 := Lib.hid (One.start w wr HM.out.below)
            obtain ⟨q, hq⟩ : ∃ q, wr.heap.size = q := ⟨_, rfl⟩
            rw [hq] at H3 ⊢
            clear hq
            generalize wr.alloc _ = w3 at *
            rename World => w4
            go_wp2_with fail
            rw [show (m : Int) = N from HN.out.symm]
            go_loopw [11] (fun i wr => ∃ k : Nat, k ≤ 200 ∧ i = .int .i64 k ∧ One w wr q (S k)) (fun i _ => 200 - (intOf i).toNat)
            case atStart => exact ⟨0, by decide, rfl, by rw [HZ.out]; exact H3.out⟩
            case round =>
              obtain ⟨k, hk2, rfl, hM⟩ := hrel
              have H4 := Lib.hid hM
              clear hM H3
              by_cases hlt3 : k < 200
              · go_wp2_with fail
                refine (sample_any _ q x (S k) (by have := HX.out; unfold INF at this; omega) H4.out.ok H4.out.at_).mono ?_
                rintro e w5 ⟨rfl, ht, ho⟩
                have H5 := Lib.hid (H4.out.step x ht ho)
                clear ht ho
                go_wp2
                exact ⟨⟨k + 1, by omega, by go_num, by rw [HS.out]; exact H5.out⟩, by simp [intOf]; omega⟩
              · obtain rfl : k = 200 := by omega
                rw [HV.out] at H4
                go_wp2_with fail
                refine (smooth_any _ q _ H4.out.at_).mono ?_
                rintro e w5 ⟨rfl, k5, rfl⟩
                have hwa := wait_any (wr.drewN k5) q 0 _ (H4.out.drew k5).at_ H4.out.ok
                rw [HT.out] at hwa
                have HW := Lib.hid hwa
                clear hwa
                simp only [Option.getD_some]
                rcases e7.out with e9 | e9
                all_goals go_wp2_with fail
                all_goals refine HW.out.mono ?_
                all_goals rintro e w6 ⟨rfl, k6, rfl⟩
                all_goals go_wp2
                all_goals go_ret
                all_goals refine ⟨?_, (H4.out.drew _).below⟩
                all_goals (have := HG.out; rw [← HN.out] at this; simp [this])
end Go.Proofs.Ytfelndloobnipaa
