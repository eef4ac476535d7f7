/-
  The document's Wait: what the program's Wait answers. Its condition: what was learned are rungs no greater than infinity.
-/
import Derived.Test.YtfelndloobnipaaRs
namespace Go.Proofs.Ytfelndloobnipaa
open Go.RowKit Ieee

theorem vl_fi (k : Nat) (h : k < 65) : vl (fi k) = k * ONE ∧ fi k < INF := by
  have h' : ∀ k : Fin 65, vl (fi (k.val : Int)) = k.val * ONE ∧ fi (k.val : Int) < INF := by decide +kernel
  exact h' ⟨k, h⟩
theorem fi_letter (j : Nat) : floatOfInt .f64 (j : Int) = fi (j : Int) := rfl
theorem le_fi (x k : Nat) (hx : x ≤ INF) (h : k < 65) : (FloatKind.f64.format.order x (fi (k : Int)) == some .lt || FloatKind.f64.format.order x (fi (k : Int)) == some .eq) = decide (ce x ≤ k) := by
  obtain ⟨h1, h2⟩ := vl_fi k h
  rw [order_rung x _ hx (Nat.le_of_lt h2), (cmpi _ _).1, (cmpi _ _).2.2]
  have h3 : ce x ≤ k ↔ x ≤ fi (k : Int) := by
    rw [ce_le, ← h1]
    have := vl_iff (fi (k : Int)) x
    omega
  by_cases hc : ce x ≤ k
  · have h4 := h3.1 hc
    rw [decide_eq_true hc]
    by_cases he : x = fi (k : Int)
    · rw [decide_eq_true (show (x : Int) = (fi (k : Int) : Nat) from by omega)]; simp
    · rw [decide_eq_true (show (x : Int) < (fi (k : Int) : Nat) from by omega)]; rfl
  · have h4 : ¬ x ≤ fi (k : Int) := fun h => hc (h3.2 h)
    rw [decide_eq_false hc, decide_eq_false (show ¬ (x : Int) < (fi (k : Int) : Nat) from by omega), decide_eq_false (show ¬ (x : Int) = (fi (k : Int) : Nat) from by omega)]
    rfl
theorem wt_at (x j : Nat) (h : j = 1 ∨ j ≤ ce x) (hc : ce x ≤ j) (hj : j < 64) (h1 : 1 ≤ j) : wt x = j := by
  unfold wt
  rw [if_neg (fun hlt => by have := (ce_64 x).1 (by omega); omega)]
  omega
theorem wt_end (x : Nat) (h : 64 = 1 ∨ 64 ≤ ce x) : wt x = 64 := by
  unfold wt
  have := ce_64 x
  split <;> omega
theorem wt_64 (x : Nat) (h : W64 ≤ x) : wt x = 64 := by
  unfold wt
  split
  · rfl
  · have h1 : x = W64 := by omega
    subst h1
    have : ce W64 = 64 := by decide +kernel
    rw [this]
    rfl
theorem up_zero_of (k b : Nat) (h : up k b = 0) : b = 0 := by
  have h0 := vl_up k b
  rw [h, show vl 0 = 0 from rfl] at h0
  have : vl b = 0 := by
    rcases Nat.eq_zero_or_pos (vl b) with e | e
    · exact e
    · have := Nat.mul_pos e (Nat.two_pow_pos k); omega
  rw [← show vl 0 = 0 from rfl] at this
  exact (vl_eq b 0).1 this
def SW (w0 w : World) : Prop := w = w0
/-- As often doubled, at most infinity. -/
def X (b i : Nat) : Nat := min (up i b) INF
theorem X_le (b i : Nat) : X b i ≤ INF := by unfold X; omega
theorem X_next (b i : Nat) : double.mul (X b i) 4611686018427387904 = some (X b (i + 1)) := by
  rw [mul_two _ (X_le b i)]
  unfold X
  rw [dbl_cap]
  rfl
theorem X_mono (b : Nat) {i k : Nat} (h : i ≤ k) : X b i ≤ X b k := by
  have := up_mono h b
  unfold X
  generalize up i b = A at *
  generalize up k b = B at *
  generalize INF = I
  omega
theorem X_zero (b i k : Nat) (h : X b i = 0) : X b k = 0 := by
  unfold X INF at *
  have : up i b = 0 := by omega
  rw [up_zero_of i b this, up_zero]
  rfl
theorem X_zero' (b : Nat) (h : b ≤ INF) : X b 0 = b := by unfold X; exact Nat.min_eq_left h
theorem rcells {w : World} {q : Nat} {s : St} (h : RAt w q s) : ∃ a b c, w.heap[q]? = some (.cells #[.float .f64 a, .float .f64 b, .bool c] 29 (0, 0)) ∧ (s = none ∧ c = false ∨ s = some (a, b) ∧ c = true) := by
  cases s with
  | none => exact ⟨0, 0, false, h, .inl ⟨rfl, rfl⟩⟩
  | some mv => exact ⟨mv.1, mv.2, true, h, .inr ⟨rfl, rfl⟩⟩
set_option maxRecDepth 100000 in
set_option maxHeartbeats 4000000 in
theorem rwait_some (w0 : World) (q a v b : Nat) (n : Int) (h : RAt w0 q (some (a, v))) (hb : b ≤ INF) (f : Nat) (hf : double.mul 4616189618054758400 v = some f) (hs : double.add a f = some b) :
    Calls Try.prog 14 #[.pointer (some ⟨q, 0, none⟩), .int .i64 n] w0 fun e w' => e = .returned (.int .i64 (wt (X b (tms n)) : Nat)) ∧ w' = w0 := by
  have h : w0.heap[q]? = some (.cells #[.float .f64 a, .float .f64 v, .bool true] 29 (0, 0)) := h
  obtain ⟨c0, c1, c2, f0, f1, f2⟩ := three_cells h
  have e1 := fun W T => run_float_arith (P := Try.prog) W .mul T .f64 _ _ _ hf
  have e2 := fun W T => run_float_arith (P := Try.prog) W .add T .f64 _ _ _ hs
  clear h hf hs
  generalize hxe : X b (tms n) = xe
  have HXE := Lib.hid hxe
  clear hxe
  go_enter Try.func14, Try.ntmps14
  go_wp2_with fail
  go_loopw [5, 7] (fun v i wr => ∃ k : Nat, k ≤ tms n ∧ v = .float .f64 (X b k) ∧ i = .int .i64 k ∧ SW w0 wr) (fun _ i _ => 1000 - (intOf i).toNat)
  case atStart => exact ⟨0, Nat.zero_le _, by rw [X_zero' b hb], rfl, rfl⟩
  case round =>
    obtain ⟨k, hk, rfl, rfl, hW⟩ := hrel
    have HW := Lib.hid hW
    clear hW
    have ht : tms n ≤ 1000 ∧ ((k : Int) < n → k < 1000 → k + 1 ≤ tms n) ∧ (¬ (k : Int) < n → k = tms n) ∧ (¬ k < 1000 → k = tms n) := by unfold tms at *; omega
    have HT := Lib.hid ht
    clear ht
    have HM := Lib.hid (fun j (h : k ≤ j) => X_mono b h)
    have HN := Lib.hid (X_next b k)
    have HZ := Lib.hid (X_zero b (k + 1) (tms n))
    have hxi := X_le b k
    have hxi2 := X_le b (k + 1)
    have hlt := order_rung (X b k) 4634204016564240384 hxi (by decide)
    by_cases h1 : (k : Int) < n
    · by_cases h2 : k < 1000
      · by_cases h3 : X b k < W64
        · have hlt' : (FloatKind.f64.format.order (X b k) 4634204016564240384 == some .lt) = true := by
            rw [hlt, (cmpi _ _).1]
            exact decide_eq_true (by unfold W64 at h3; omega)
          have e1 := fun W T => run_float_arith (P := Try.prog) W .mul T .f64 _ _ _ HN.out
          have hez := eq_zero (X b (k + 1)) (by unfold INF at hxi2; omega) (decide_eq_false (by unfold INF at hxi2; omega))
          rw [show X b (k + 1) % 9223372036854775808 = X b (k + 1) from Nat.mod_eq_of_lt (by unfold INF at hxi2; omega)] at hez
          generalize hx1 : X b (k + 1) = x at *
          generalize X b k = x0 at *
          by_cases h4 : x = 0
          · rw [decide_eq_true h4] at hez
            have HXX : Hid (wt x = wt xe ∧ x ≤ INF) := Lib.hid ⟨by rw [← HXE.out, HZ.out h4, h4], hxi2⟩
            clear h3 hlt HN HM HZ hxi hxi2 h4 hx1
            obtain ⟨hwx, hxi⟩ := HXX.out
            go_wp2_with fail
            go_loopw [8] (fun k wr => ∃ j : Nat, 1 ≤ j ∧ j ≤ 64 ∧ (j = 1 ∨ j ≤ ce x) ∧ k = .int .i64 j ∧ SW w0 wr) (fun k _ => 64 - (intOf k).toNat)
            case atStart => exact ⟨1, by decide, by decide, .inl rfl, rfl, HW.out⟩
            case round =>
              obtain ⟨j, hj1, hj2, hj3, rfl, hW2⟩ := hrel
              have HW2 := Lib.hid hW2
              clear hW2
              have HJ := Lib.hid hj3
              clear hj3
              by_cases hj : j < 64
              · have hle := le_fi x j hxi (by omega)
                have hfl := fi_letter j
                generalize fi (j : Int) = y at *
                by_cases hc : ce x ≤ j
                · rw [decide_eq_true hc] at hle
                  have HC := Lib.hid hc
                  clear hc
                  go_wp2
                  go_ret
                  refine ⟨?_, HW2.out⟩
                  have h9 : wt x = j := wt_at x j HJ.out HC.out (by omega) hj1
                  rw [← hwx, h9]
                  rfl
                · rw [decide_eq_false hc] at hle
                  have HC := Lib.hid hc
                  clear hc
                  go_wp2
                  exact ⟨⟨j + 1, by omega, by omega, .inr (by have := HC.out; omega), by go_num, HW2.out⟩, by simp [intOf]; omega⟩
              · obtain rfl : j = 64 := by omega
                go_wp2
                go_ret
                refine ⟨?_, HW2.out⟩
                have h9 : wt x = 64 := wt_end x HJ.out
                rw [← hwx, h9]
                rfl
          · rw [decide_eq_false h4] at hez
            have HX1 := Lib.hid hx1
            clear h3 hlt HN HM HZ hxi hxi2 h4 hx1
            go_wp2
            exact ⟨⟨k + 1, HT.out.2.1 h1 h2, by rw [HX1.out], by go_num, HW.out⟩, by simp [intOf]; omega⟩
        · have hlt' : (FloatKind.f64.format.order (X b k) 4634204016564240384 == some .lt) = false := by
            rw [hlt, (cmpi _ _).1]
            exact decide_eq_false (by unfold W64 at h3; omega)
          have HXX : Hid (wt (X b k) = wt xe ∧ X b k ≤ INF) := Lib.hid ⟨by rw [← HXE.out, wt_64 _ (by omega), wt_64 _ (Nat.le_trans (by omega) (HM.out _ hk))], hxi⟩
          clear h3 hlt HN HM HZ hxi hxi2
          generalize X b k = x at *
          obtain ⟨hwx, hxi⟩ := HXX.out
          go_wp2_with fail
          go_loopw [8] (fun k wr => ∃ j : Nat, 1 ≤ j ∧ j ≤ 64 ∧ (j = 1 ∨ j ≤ ce x) ∧ k = .int .i64 j ∧ SW w0 wr) (fun k _ => 64 - (intOf k).toNat)
          case atStart => exact ⟨1, by decide, by decide, .inl rfl, rfl, HW.out⟩
          case round =>
            obtain ⟨j, hj1, hj2, hj3, rfl, hW2⟩ := hrel
            have HW2 := Lib.hid hW2
            clear hW2
            have HJ := Lib.hid hj3
            clear hj3
            by_cases hj : j < 64
            · have hle := le_fi x j hxi (by omega)
              have hfl := fi_letter j
              generalize fi (j : Int) = y at *
              by_cases hc : ce x ≤ j
              · rw [decide_eq_true hc] at hle
                have HC := Lib.hid hc
                clear hc
                go_wp2
                go_ret
                refine ⟨?_, HW2.out⟩
                have h9 : wt x = j := wt_at x j HJ.out HC.out (by omega) hj1
                rw [← hwx, h9]
                rfl
              · rw [decide_eq_false hc] at hle
                have HC := Lib.hid hc
                clear hc
                go_wp2
                exact ⟨⟨j + 1, by omega, by omega, .inr (by have := HC.out; omega), by go_num, HW2.out⟩, by simp [intOf]; omega⟩
            · obtain rfl : j = 64 := by omega
              go_wp2
              go_ret
              refine ⟨?_, HW2.out⟩
              have h9 : wt x = 64 := wt_end x HJ.out
              rw [← hwx, h9]
              rfl
      · have HXX : Hid (wt (X b k) = wt xe ∧ X b k ≤ INF) := Lib.hid ⟨by rw [← HXE.out, ← HT.out.2.2.2 h2], hxi⟩
        clear hlt HN HM HZ hxi hxi2
        generalize X b k = x at *
        obtain ⟨hwx, hxi⟩ := HXX.out
        go_wp2_with fail
        go_loopw [8] (fun k wr => ∃ j : Nat, 1 ≤ j ∧ j ≤ 64 ∧ (j = 1 ∨ j ≤ ce x) ∧ k = .int .i64 j ∧ SW w0 wr) (fun k _ => 64 - (intOf k).toNat)
        case atStart => exact ⟨1, by decide, by decide, .inl rfl, rfl, HW.out⟩
        case round =>
          obtain ⟨j, hj1, hj2, hj3, rfl, hW2⟩ := hrel
          have HW2 := Lib.hid hW2
          clear hW2
          have HJ := Lib.hid hj3
          clear hj3
          by_cases hj : j < 64
          · have hle := le_fi x j hxi (by omega)
            have hfl := fi_letter j
            generalize fi (j : Int) = y at *
            by_cases hc : ce x ≤ j
            · rw [decide_eq_true hc] at hle
              have HC := Lib.hid hc
              clear hc
              go_wp2
              go_ret
              refine ⟨?_, HW2.out⟩
              have h9 : wt x = j := wt_at x j HJ.out HC.out (by omega) hj1
              rw [← hwx, h9]
              rfl
            · rw [decide_eq_false hc] at hle
              have HC := Lib.hid hc
              clear hc
              go_wp2
              exact ⟨⟨j + 1, by omega, by omega, .inr (by have := HC.out; omega), by go_num, HW2.out⟩, by simp [intOf]; omega⟩
          · obtain rfl : j = 64 := by omega
            go_wp2
            go_ret
            refine ⟨?_, HW2.out⟩
            have h9 : wt x = 64 := wt_end x HJ.out
            rw [← hwx, h9]
            rfl
    · have HXX : Hid (wt (X b k) = wt xe ∧ X b k ≤ INF) := Lib.hid ⟨by rw [← HXE.out, ← HT.out.2.2.1 h1], hxi⟩
      clear hlt HN HM HZ hxi hxi2
      generalize X b k = x at *
      obtain ⟨hwx, hxi⟩ := HXX.out
      go_wp2_with fail
      go_loopw [8] (fun k wr => ∃ j : Nat, 1 ≤ j ∧ j ≤ 64 ∧ (j = 1 ∨ j ≤ ce x) ∧ k = .int .i64 j ∧ SW w0 wr) (fun k _ => 64 - (intOf k).toNat)
      case atStart => exact ⟨1, by decide, by decide, .inl rfl, rfl, HW.out⟩
      case round =>
        obtain ⟨j, hj1, hj2, hj3, rfl, hW2⟩ := hrel
        have HW2 := Lib.hid hW2
        clear hW2
        have HJ := Lib.hid hj3
        clear hj3
        by_cases hj : j < 64
        · have hle := le_fi x j hxi (by omega)
          have hfl := fi_letter j
          generalize fi (j : Int) = y at *
          by_cases hc : ce x ≤ j
          · rw [decide_eq_true hc] at hle
            have HC := Lib.hid hc
            clear hc
            go_wp2
            go_ret
            refine ⟨?_, HW2.out⟩
            have h9 : wt x = j := wt_at x j HJ.out HC.out (by omega) hj1
            rw [← hwx, h9]
            rfl
          · rw [decide_eq_false hc] at hle
            have HC := Lib.hid hc
            clear hc
            go_wp2
            exact ⟨⟨j + 1, by omega, by omega, .inr (by have := HC.out; omega), by go_num, HW2.out⟩, by simp [intOf]; omega⟩
        · obtain rfl : j = 64 := by omega
          go_wp2
          go_ret
          refine ⟨?_, HW2.out⟩
          have h9 : wt x = 64 := wt_end x HJ.out
          rw [← hwx, h9]
          rfl
set_option maxRecDepth 100000 in
set_option maxHeartbeats 4000000 in
theorem rwait_none (w0 : World) (q b : Nat) (n : Int) (h : RAt w0 q none) (hb : b ≤ INF) (hbb : b = 4616189618054758400) :
    Calls Try.prog 14 #[.pointer (some ⟨q, 0, none⟩), .int .i64 n] w0 fun e w' => e = .returned (.int .i64 (wt (X b (tms n)) : Nat)) ∧ w' = w0 := by
  have h : w0.heap[q]? = some (.cells #[.float .f64 0, .float .f64 0, .bool false] 29 (0, 0)) := h
  obtain ⟨c0, c1, c2, f0, f1, f2⟩ := three_cells h
  have HB := Lib.hid hbb
  clear h hbb
  generalize hxe : X b (tms n) = xe
  have HXE := Lib.hid hxe
  clear hxe
  go_enter Try.func14, Try.ntmps14
  go_wp2_with fail
  rw [← HB.out]
  go_loopw [5, 7] (fun v i wr => ∃ k : Nat, k ≤ tms n ∧ v = .float .f64 (X b k) ∧ i = .int .i64 k ∧ SW w0 wr) (fun _ i _ => 1000 - (intOf i).toNat)
  case atStart => exact ⟨0, Nat.zero_le _, by rw [X_zero' b hb], rfl, rfl⟩
  case round =>
    obtain ⟨k, hk, rfl, rfl, hW⟩ := hrel
    have HW := Lib.hid hW
    clear hW
    have ht : tms n ≤ 1000 ∧ ((k : Int) < n → k < 1000 → k + 1 ≤ tms n) ∧ (¬ (k : Int) < n → k = tms n) ∧ (¬ k < 1000 → k = tms n) := by unfold tms at *; omega
    have HT := Lib.hid ht
    clear ht
    have HM := Lib.hid (fun j (h : k ≤ j) => X_mono b h)
    have HN := Lib.hid (X_next b k)
    have HZ := Lib.hid (X_zero b (k + 1) (tms n))
    have hxi := X_le b k
    have hxi2 := X_le b (k + 1)
    have hlt := order_rung (X b k) 4634204016564240384 hxi (by decide)
    by_cases h1 : (k : Int) < n
    · by_cases h2 : k < 1000
      · by_cases h3 : X b k < W64
        · have hlt' : (FloatKind.f64.format.order (X b k) 4634204016564240384 == some .lt) = true := by
            rw [hlt, (cmpi _ _).1]
            exact decide_eq_true (by unfold W64 at h3; omega)
          have e1 := fun W T => run_float_arith (P := Try.prog) W .mul T .f64 _ _ _ HN.out
          have hez := eq_zero (X b (k + 1)) (by unfold INF at hxi2; omega) (decide_eq_false (by unfold INF at hxi2; omega))
          rw [show X b (k + 1) % 9223372036854775808 = X b (k + 1) from Nat.mod_eq_of_lt (by unfold INF at hxi2; omega)] at hez
          generalize hx1 : X b (k + 1) = x at *
          generalize X b k = x0 at *
          by_cases h4 : x = 0
          · rw [decide_eq_true h4] at hez
            have HXX : Hid (wt x = wt xe ∧ x ≤ INF) := Lib.hid ⟨by rw [← HXE.out, HZ.out h4, h4], hxi2⟩
            clear h3 hlt HN HM HZ hxi hxi2 h4 hx1
            obtain ⟨hwx, hxi⟩ := HXX.out
            go_wp2_with fail
            go_loopw [8] (fun k wr => ∃ j : Nat, 1 ≤ j ∧ j ≤ 64 ∧ (j = 1 ∨ j ≤ ce x) ∧ k = .int .i64 j ∧ SW w0 wr) (fun k _ => 64 - (intOf k).toNat)
            case atStart => exact ⟨1, by decide, by decide, .inl rfl, rfl, HW.out⟩
            case round =>
              obtain ⟨j, hj1, hj2, hj3, rfl, hW2⟩ := hrel
              have HW2 := Lib.hid hW2
              clear hW2
              have HJ := Lib.hid hj3
              clear hj3
              by_cases hj : j < 64
              · have hle := le_fi x j hxi (by omega)
                have hfl := fi_letter j
                generalize fi (j : Int) = y at *
                by_cases hc : ce x ≤ j
                · rw [decide_eq_true hc] at hle
                  have HC := Lib.hid hc
                  clear hc
                  go_wp2
                  go_ret
                  refine ⟨?_, HW2.out⟩
                  have h9 : wt x = j := wt_at x j HJ.out HC.out (by omega) hj1
                  rw [← hwx, h9]
                  rfl
                · rw [decide_eq_false hc] at hle
                  have HC := Lib.hid hc
                  clear hc
                  go_wp2
                  exact ⟨⟨j + 1, by omega, by omega, .inr (by have := HC.out; omega), by go_num, HW2.out⟩, by simp [intOf]; omega⟩
              · obtain rfl : j = 64 := by omega
                go_wp2
                go_ret
                refine ⟨?_, HW2.out⟩
                have h9 : wt x = 64 := wt_end x HJ.out
                rw [← hwx, h9]
                rfl
          · rw [decide_eq_false h4] at hez
            have HX1 := Lib.hid hx1
            clear h3 hlt HN HM HZ hxi hxi2 h4 hx1
            go_wp2
            exact ⟨⟨k + 1, HT.out.2.1 h1 h2, by rw [HX1.out], by go_num, HW.out⟩, by simp [intOf]; omega⟩
        · have hlt' : (FloatKind.f64.format.order (X b k) 4634204016564240384 == some .lt) = false := by
            rw [hlt, (cmpi _ _).1]
            exact decide_eq_false (by unfold W64 at h3; omega)
          have HXX : Hid (wt (X b k) = wt xe ∧ X b k ≤ INF) := Lib.hid ⟨by rw [← HXE.out, wt_64 _ (by omega), wt_64 _ (Nat.le_trans (by omega) (HM.out _ hk))], hxi⟩
          clear h3 hlt HN HM HZ hxi hxi2
          generalize X b k = x at *
          obtain ⟨hwx, hxi⟩ := HXX.out
          go_wp2_with fail
          go_loopw [8] (fun k wr => ∃ j : Nat, 1 ≤ j ∧ j ≤ 64 ∧ (j = 1 ∨ j ≤ ce x) ∧ k = .int .i64 j ∧ SW w0 wr) (fun k _ => 64 - (intOf k).toNat)
          case atStart => exact ⟨1, by decide, by decide, .inl rfl, rfl, HW.out⟩
          case round =>
            obtain ⟨j, hj1, hj2, hj3, rfl, hW2⟩ := hrel
            have HW2 := Lib.hid hW2
            clear hW2
            have HJ := Lib.hid hj3
            clear hj3
            by_cases hj : j < 64
            · have hle := le_fi x j hxi (by omega)
              have hfl := fi_letter j
              generalize fi (j : Int) = y at *
              by_cases hc : ce x ≤ j
              · rw [decide_eq_true hc] at hle
                have HC := Lib.hid hc
                clear hc
                go_wp2
                go_ret
                refine ⟨?_, HW2.out⟩
                have h9 : wt x = j := wt_at x j HJ.out HC.out (by omega) hj1
                rw [← hwx, h9]
                rfl
              · rw [decide_eq_false hc] at hle
                have HC := Lib.hid hc
                clear hc
                go_wp2
                exact ⟨⟨j + 1, by omega, by omega, .inr (by have := HC.out; omega), by go_num, HW2.out⟩, by simp [intOf]; omega⟩
            · obtain rfl : j = 64 := by omega
              go_wp2
              go_ret
              refine ⟨?_, HW2.out⟩
              have h9 : wt x = 64 := wt_end x HJ.out
              rw [← hwx, h9]
              rfl
      · have HXX : Hid (wt (X b k) = wt xe ∧ X b k ≤ INF) := Lib.hid ⟨by rw [← HXE.out, ← HT.out.2.2.2 h2], hxi⟩
        clear hlt HN HM HZ hxi hxi2
        generalize X b k = x at *
        obtain ⟨hwx, hxi⟩ := HXX.out
        go_wp2_with fail
        go_loopw [8] (fun k wr => ∃ j : Nat, 1 ≤ j ∧ j ≤ 64 ∧ (j = 1 ∨ j ≤ ce x) ∧ k = .int .i64 j ∧ SW w0 wr) (fun k _ => 64 - (intOf k).toNat)
        case atStart => exact ⟨1, by decide, by decide, .inl rfl, rfl, HW.out⟩
        case round =>
          obtain ⟨j, hj1, hj2, hj3, rfl, hW2⟩ := hrel
          have HW2 := Lib.hid hW2
          clear hW2
          have HJ := Lib.hid hj3
          clear hj3
          by_cases hj : j < 64
          · have hle := le_fi x j hxi (by omega)
            have hfl := fi_letter j
            generalize fi (j : Int) = y at *
            by_cases hc : ce x ≤ j
            · rw [decide_eq_true hc] at hle
              have HC := Lib.hid hc
              clear hc
              go_wp2
              go_ret
              refine ⟨?_, HW2.out⟩
              have h9 : wt x = j := wt_at x j HJ.out HC.out (by omega) hj1
              rw [← hwx, h9]
              rfl
            · rw [decide_eq_false hc] at hle
              have HC := Lib.hid hc
              clear hc
              go_wp2
              exact ⟨⟨j + 1, by omega, by omega, .inr (by have := HC.out; omega), by go_num, HW2.out⟩, by simp [intOf]; omega⟩
          · obtain rfl : j = 64 := by omega
            go_wp2
            go_ret
            refine ⟨?_, HW2.out⟩
            have h9 : wt x = 64 := wt_end x HJ.out
            rw [← hwx, h9]
            rfl
    · have HXX : Hid (wt (X b k) = wt xe ∧ X b k ≤ INF) := Lib.hid ⟨by rw [← HXE.out, ← HT.out.2.2.1 h1], hxi⟩
      clear hlt HN HM HZ hxi hxi2
      generalize X b k = x at *
      obtain ⟨hwx, hxi⟩ := HXX.out
      go_wp2_with fail
      go_loopw [8] (fun k wr => ∃ j : Nat, 1 ≤ j ∧ j ≤ 64 ∧ (j = 1 ∨ j ≤ ce x) ∧ k = .int .i64 j ∧ SW w0 wr) (fun k _ => 64 - (intOf k).toNat)
      case atStart => exact ⟨1, by decide, by decide, .inl rfl, rfl, HW.out⟩
      case round =>
        obtain ⟨j, hj1, hj2, hj3, rfl, hW2⟩ := hrel
        have HW2 := Lib.hid hW2
        clear hW2
        have HJ := Lib.hid hj3
        clear hj3
        by_cases hj : j < 64
        · have hle := le_fi x j hxi (by omega)
          have hfl := fi_letter j
          generalize fi (j : Int) = y at *
          by_cases hc : ce x ≤ j
          · rw [decide_eq_true hc] at hle
            have HC := Lib.hid hc
            clear hc
            go_wp2
            go_ret
            refine ⟨?_, HW2.out⟩
            have h9 : wt x = j := wt_at x j HJ.out HC.out (by omega) hj1
            rw [← hwx, h9]
            rfl
          · rw [decide_eq_false hc] at hle
            have HC := Lib.hid hc
            clear hc
            go_wp2
            exact ⟨⟨j + 1, by omega, by omega, .inr (by have := HC.out; omega), by go_num, HW2.out⟩, by simp [intOf]; omega⟩
        · obtain rfl : j = 64 := by omega
          go_wp2
          go_ret
          refine ⟨?_, HW2.out⟩
          have h9 : wt x = 64 := wt_end x HJ.out
          rw [← hwx, h9]
          rfl
/-- The document's Wait, WHATEVER WAS LEARNED. -/
theorem rwait_any (w : World) (q : Nat) (n : Int) (s : St) (h : RAt w q s) (hs : Okay s) : Calls Try.prog 14 #[.pointer (some ⟨q, 0, none⟩), .int .i64 n] w fun e w' => e = .returned (.int .i64 (wt (min (up (tms n) (bs s)) INF) : Nat)) ∧ w' = w := by
  cases s with
  | none => exact rwait_none w q (bs none) n h (by decide) rfl
  | some mv =>
    obtain ⟨f, hf, hf'⟩ := mul_rung 4616189618054758400 mv.2 (by decide) (by decide) hs.2
    obtain ⟨b, hb, hb'⟩ := add_rung mv.1 f hs.1 hf'
    have e2 : bs (some mv) = b := by
      show fv .add mv.1 (fv .mul 4616189618054758400 mv.2) = b
      rw [fv_of (op := .mul) hf]
      exact fv_of (op := .add) hb
    rw [e2]
    exact rwait_some w q mv.1 mv.2 b n h hb' f hf hb
end Go.Proofs.Ytfelndloobnipaa
