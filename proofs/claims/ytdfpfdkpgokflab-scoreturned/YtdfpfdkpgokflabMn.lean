/-
  What Mean and the document's Mean answer of a row of floats: one float or no number, and of how many. Their conditions: the words fit into 64 bits, the row is no longer than memory.
-/
import Derived.Test.YtdfpfdkpgokflabFl
namespace Go.Proofs.Ytdfpfdkpgokflab
open Go.RowKit Ieee

def infB (x : Nat) : Bool := decide (x % 9223372036854775808 = 9218868437227405312)
def fin (x : Nat) : Bool := decide (x % 9223372036854775808 < 9218868437227405312)
theorem fin_skip (x : Nat) : (nan x || infB x) = !fin x := by
  unfold nan infB fin
  by_cases a : x % 9223372036854775808 < 9218868437227405312
  · rw [decide_eq_true a, decide_eq_false (by omega), decide_eq_false (by omega)]; rfl
  · rw [decide_eq_false a]
    by_cases b : x % 9223372036854775808 = 9218868437227405312
    · rw [decide_eq_true b]; simp
    · rw [decide_eq_true (show 9218868437227405312 < x % 9223372036854775808 by omega)]; simp

theorem and_not_sign (x : Nat) (hx : x < 18446744073709551616) : bits .andNot .u64 (x : Int) 9223372036854775808 = ((x % 9223372036854775808 : Nat) : Int) := by
  have h1 : (BitVec.ofInt 64 (x : Int)).toNat = x := by
    rw [BitVec.ofInt_natCast, BitVec.toNat_ofNat]; exact Nat.mod_eq_of_lt (by omega)
  have h2 : (~~~ (BitVec.ofInt 64 9223372036854775808)).toNat = 9223372036854775807 := by decide
  show IntKind.u64.wrap ((BitVec.ofInt 64 (x : Int) &&& ~~~ BitVec.ofInt 64 9223372036854775808).toNat : Int) = _
  rw [BitVec.toNat_and, h1, h2, IntKind.wrap_u64, show 9223372036854775807 = 2 ^ 63 - 1 from rfl, Nat.and_two_pow_sub_one_eq_mod]
  omega
theorem abs_any (x : Nat) (w : World) (hx : x < 18446744073709551616) : Calls Try.prog 13 #[.float .f64 x] w fun e w' => e = .returned (.float .f64 (x % 9223372036854775808)) ∧ w = w' := by
  have hn := and_not_sign x hx
  go_enter Try.func13, Try.ntmps13
  go_wp2
  go_ret
  exact ⟨by first | rfl | simp, rfl⟩
theorem gt_max (x : Nat) : (FloatKind.f64.format.order (x % 9223372036854775808) 9218868437227405311 == some .gt) = infB x := by
  show (double.order _ _ == some .gt) = _
  have hr := Nat.mod_lt x (show 0 < 9223372036854775808 from by decide)
  unfold infB
  generalize x % 9223372036854775808 = r at *
  by_cases h : 9218868437227405312 < r
  · rw [order_nanl _ _ (decide_eq_true (by omega)), decide_eq_false (by omega)]; rfl
  · rw [order_word _ _ (by omega) (by decide) (decide_eq_false (by omega)) (by decide)]
    have e1 : kz r = r := by unfold kz sgn; rw [decide_eq_false (by omega)]; rfl
    have e2 : kz 9218868437227405311 = 9218868437227405311 := rfl
    rw [e1, e2]
    by_cases h2 : r = 9218868437227405312
    · subst h2; rfl
    · rw [decide_eq_false h2]
      show (some (compareOfLessAndEq (r : Int) 9218868437227405311) == some .gt) = false
      unfold compareOfLessAndEq
      split
      · rfl
      · rw [if_pos (by omega)]; rfl
theorem isinf_any (x : Nat) (w : World) (hx : x < 18446744073709551616) : Calls Try.prog 9 #[.float .f64 x, .int .i64 0] w fun e w' => e = .returned (.bool (infB x)) ∧ w = w' := by
  have hg := gt_max x
  go_enter Try.func9, Try.ntmps9
  go_wp2_with (go_at_call 13; refine (abs_any _ _ hx).mono ?_; rintro e w' ⟨rfl, rfl⟩)
  go_ret
  exact ⟨rfl, rfl⟩
set_option maxRecDepth 100000 in
theorem nan_any (w : World) : Calls Try.prog 7 #[] w fun e w' => e = .returned (.float .f64 9221120237041090561) ∧ w = w' := by
  go_enter Try.func7, Try.ntmps7
  go_wp2
  go_ret
  exact ⟨rfl, rfl⟩

/-- The sum and the count of what numbers there are. -/
def sumO (L : List Nat) : Option Nat := L.foldl (fun a x => if fin x then fo .add a (some x) else a) (some 0)
def cntO (L : List Nat) : Nat := L.foldl (fun n x => if fin x then n + 1 else n) 0
def meanO (L : List Nat) : Option Nat := fo .quo (sumO L) (some (fi (cntO L)))
theorem sumO_snoc (L : List Nat) (x : Nat) : sumO (L ++ [x]) = if fin x then fo .add (sumO L) (some x) else sumO L := by simp [sumO]
theorem cntO_snoc (L : List Nat) (x : Nat) : cntO (L ++ [x]) = if fin x then cntO L + 1 else cntO L := by simp [cntO]
theorem cntO_le (L : List Nat) : cntO L ≤ L.length := by
  have h : ∀ (L : List Nat) (n : Nat), L.foldl (fun n x => if fin x then n + 1 else n) n ≤ n + L.length := by
    intro L
    induction L with
    | nil => intro n; simp
    | cons x r ih =>
      intro n
      simp only [List.foldl_cons, List.length_cons]
      refine Nat.le_trans (ih _) ?_
      split <;> omega
  have := h L 0
  unfold cntO; omega
theorem cntO_zero (L : List Nat) (h : cntO L = 0) : sumO L = some 0 := by
  have g : ∀ (L : List Nat) (n : Nat) (a : Option Nat), L.foldl (fun n x => if fin x then n + 1 else n) n = 0 → n = 0 ∧ L.foldl (fun a x => if fin x then fo .add a (some x) else a) a = a := by
    intro L
    induction L with
    | nil => intro n a h; exact ⟨h, rfl⟩
    | cons x r ih =>
      intro n a h
      simp only [List.foldl_cons] at h ⊢
      by_cases e : fin x = true
      · rw [if_pos e] at h
        have := (ih (n + 1) a h).1
        omega
      · rw [if_neg e] at h ⊢
        exact ih n a h
  exact (g L 0 (some 0) h).2
theorem mean_none (L : List Nat) (h : cntO L = 0) : meanO L = none := by
  unfold meanO
  rw [cntO_zero L h, h]
  decide +kernel

/-- The floats L lie at ao; the numbers. -/
def FltAt (w : World) (ao : Option Addr) (L : List Nat) : Prop := ∀ i (_ : i < L.length), ∃ g off, ao = some ⟨g, off, none⟩ ∧ g < w.heap.size ∧ w.cell? ⟨g, off + i, none⟩ = some (.float .f64 L[i]) ∧ L[i] < 18446744073709551616
def WrdAt (w : World) (ao : Option Addr) (L : List Nat) : Prop := ∀ i (_ : i < L.length), ∃ g off, ao = some ⟨g, off, none⟩ ∧ g < w.heap.size ∧ w.cell? ⟨g, off + i, none⟩ = some (.int .u64 (L[i] : Int)) ∧ L[i] < 18446744073709551616
theorem WrdAt.below {w w' : World} {ao : Option Addr} {L : List Nat} (h : WrdAt w ao L) (hb : Below w.heap.size w w') : WrdAt w' ao L := by
  intro i hi
  obtain ⟨g, off, e1, e2, e3, e4⟩ := h i hi
  have := hb.size
  exact ⟨g, off, e1, by omega, (hb.cell (p := ⟨g, off + i, none⟩) e2).trans e3, e4⟩

set_option maxHeartbeats 400000 in
theorem mean_any (L : List Nat) (ao : Option Addr) (cap : Nat) (w : World) (hI : FltAt w ao L) (hl : L.length ≤ 9223372036854775806) :
    Calls Try.prog 6 #[.slice ao L.length cap] w fun e w' => ∃ r n, e = .returned (.tuple #[.float .f64 r, .int .i64 (cntO L)]) ∧ FV (meanO L) r ∧ w' = w.drewN n := by
  have HI := Lib.hid hI
  clear hI
  go_enter Try.func6, Try.ntmps6
  go_wp2
  go_loopw [4, 5, 10] (fun s c i wr => ∃ k r m : Nat, k ≤ L.length ∧ s = .float .f64 r ∧ FV (sumO (L.take k)) r ∧ c = .int .i64 (cntO (L.take k) : Nat) ∧ i = .int .i64 k ∧ wr = w.drewN m) (fun s c i _ => L.length - (intOf i).toNat)
  case atStart => exact ⟨0, 0, 0, Nat.zero_le _, rfl, rfl, rfl, rfl, rfl⟩
  case round =>
    obtain ⟨k, r, m, hk, rfl, hF, rfl, rfl, rfl⟩ := hrel
    have HF := Lib.hid hF
    clear hF
    have HC := Lib.hid (cntO_le (L.take k))
    by_cases hlt : k < L.length
    · obtain ⟨g, off, rfl, hg, hc, hw⟩ := HI.out k hlt
      have HS : Hid (sumO (L.take (k + 1)) = if fin L[k] then fo .add (sumO (L.take k)) (some L[k]) else sumO (L.take k)) := Lib.hid (by rw [List.take_succ_eq_append_getElem hlt, sumO_snoc])
      have HN : Hid (cntO (L.take (k + 1)) = if fin L[k] then cntO (L.take k) + 1 else cntO (L.take k)) := Lib.hid (by rw [List.take_succ_eq_append_getElem hlt, cntO_snoc])
      have HK := Lib.hid (fin_skip L[k])
      have hcl : cntO (L.take k) ≤ k := Nat.le_trans HC.out (by rw [List.length_take]; omega)
      clear HC
      generalize L[k] = x at *
      generalize cntO (L.take k) = n at *
      go_wp2_with first | (go_at_call 12; refine (isnan_any _ _).mono ?_; rintro e w' ⟨rfl, rfl⟩) | (go_at_call 9; refine (isinf_any _ _ hw).mono ?_; rintro e w' ⟨rfl, rfl⟩)
      · have e : fin x = false := by have := HK.out; simp_all
        refine ⟨⟨k + 1, r, m, by omega, rfl, ?_, ?_, by go_num, rfl⟩, by simp [intOf]; omega⟩
        · rw [HS.out, e]; exact HF.out
        · rw [HN.out, e]; rfl
      · have e : fin x = false := by have := HK.out; simp_all
        refine ⟨⟨k + 1, r, m, by omega, rfl, ?_, ?_, by go_num, rfl⟩, by simp [intOf]; omega⟩
        · rw [HS.out, e]; exact HF.out
        · rw [HN.out, e]; rfl
      · have e : fin x = true := by have := HK.out; simp_all
        refine ⟨⟨k + 1, _, _, by omega, rfl, ?_, ?_, by go_num, rfl⟩, by simp [intOf]; omega⟩
        · rw [HS.out, e]; exact FV.op .add HF.out (b := some x) rfl _
        · rw [HN.out, e]; simp
    · obtain rfl : k = L.length := by omega
      rw [List.take_length] at *
      have HZ := Lib.hid (mean_none L)
      have HM : Hid (meanO L = fo .quo (sumO L) (some (fi (cntO L)))) := Lib.hid rfl
      clear HC
      by_cases hz : cntO L = 0
      · have HZ := Lib.hid (HZ.out hz)
        rw [hz]
        go_wp2_with (go_at_call 7; refine (nan_any _).mono ?_; rintro e w' ⟨rfl, rfl⟩)
        go_ret2
        refine ⟨9221120237041090561, _, by rw [hz]; rfl, ?_, rfl⟩
        rw [HZ.out]
        exact ⟨by decide, by decide⟩
      · have hle := cntO_le L
        generalize hn : cntO L = n at *
        have hn := Lib.hid hn
        have hd : ((n : Int) == 0) = false := by simp; omega
        go_wp2
        go_ret2
        refine ⟨fres .quo r (floatOfInt .f64 n) (w.drewN m), _, by rw [hn.out]; rfl, ?_, rfl⟩
        rw [HM.out]
        exact FV.op .quo HF.out (b := some (fi n)) rfl _

end Go.Proofs.Ytdfpfdkpgokflab
