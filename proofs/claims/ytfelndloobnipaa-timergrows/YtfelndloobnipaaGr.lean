/-
  What two hundred equal samples come to. Its condition: the number is one of 0 to 50.
-/
import Derived.Test.YtfelndloobnipaaDeafW
import Derived.Test.YtfelndloobnipaaMo
namespace Go.Proofs.Ytfelndloobnipaa
open Go.RowKit Ieee

/-- A sample that comes again and again. -/
def smpN (x : Nat) : Nat → St
  | 0 => none
  | k + 1 => smp (smpN x k) x
/-- A number is reckoned out first. -/
def force {α : Type} (n : Nat) (f : Nat → α) : α := Nat.rec (f 0) (fun k _ => f (k + 1)) n
theorem force_eq {α : Type} (n : Nat) (f : Nat → α) : force n f = f n := by cases n <;> rfl
def stp (v : Nat) : Nat := fv .add (fv .mul 4604930618986332160 v) 0
def stpN (v : Nat) : Nat → Nat
  | 0 => v
  | k + 1 => stp (stpN v k)
def runN (k : Nat) : Nat → Bool := Nat.rec (motive := fun _ => Nat → Bool) (fun v => decide (v < 4607182418800017408)) (fun _ ih v => force (stp v) ih) k
theorem stpN_out (v k : Nat) : stpN (stp v) k = stp (stpN v k) := by
  induction k with
  | zero => rfl
  | succ k ih => show stp _ = stp (stp _); rw [ih]
theorem runN_eq (k v : Nat) : runN k v = decide (stpN v k < 4607182418800017408) := by
  induction k generalizing v with
  | zero => rfl
  | succ k ih =>
    show force (stp v) (runN k) = _
    rw [force_eq, ih, stpN_out]
    rfl
def goodN (n : Nat) : Bool := decide (fi n < INF) && decide (fi n % 9223372036854775808 = fi n) && decide (far (fi n) (fi n) = 0) && decide (fv .mul 4598175219545276416 0 = 0) && decide (fv .add (fv .mul 4606056518893174784 (fi n)) (fv .mul 4593671619917905920 (fi n)) = fi n) && decide (n ≤ wt (fi n))
theorem good_all : (List.range 51).all goodN = true := by decide +kernel
theorem run_all : (List.range 51).all (fun n => force (fv .quo (fi n) 4611686018427387904) (runN 13)) = true := by decide +kernel
theorem good_at (n : Nat) (h : n < 51) : goodN n = true := by
  have := good_all
  rw [List.all_eq_true] at this
  exact this n (List.mem_range.2 h)
theorem run_at (n : Nat) (h : n < 51) : stpN (fv .quo (fi n) 4611686018427387904) 13 < 4607182418800017408 := by
  have := run_all
  rw [List.all_eq_true] at this
  have := this n (List.mem_range.2 h)
  rw [force_eq, runN_eq] at this
  exact of_decide_eq_true this
theorem stp_le (v : Nat) (h : v < INF) : stp v ≤ v := by
  obtain ⟨t, ht, _⟩ := mul_rung 4604930618986332160 v (by decide) (by decide) (Nat.le_of_lt h)
  have hle := mul75 v t h ht
  unfold stp
  rw [fv_of (op := .mul) ht, fv_of (op := .add) (add_zero t (by omega))]
  exact hle
theorem stpN_le (v k : Nat) (h : v < INF) : stpN v k ≤ v := by
  induction k with
  | zero => exact Nat.le_refl _
  | succ k ih => exact Nat.le_trans (stp_le _ (by omega)) ih
theorem stpN_add (v j k : Nat) : stpN v (j + k) = stpN (stpN v j) k := by
  induction k with
  | zero => rfl
  | succ k ih => show stp (stpN v (j + k)) = stp _; rw [ih]
theorem good_facts (n : Nat) (h : n < 51) : fi n < INF ∧ fi n % 9223372036854775808 = fi n ∧ far (fi n) (fi n) = 0 ∧ fv .mul 4598175219545276416 0 = 0 ∧ fv .add (fv .mul 4606056518893174784 (fi n)) (fv .mul 4593671619917905920 (fi n)) = fi n ∧ n ≤ wt (fi n) := by
  have := good_at n h
  simp only [goodN, Bool.and_eq_true, decide_eq_true_eq] at this
  exact ⟨this.1.1.1.1.1, this.1.1.1.1.2, this.1.1.1.2, this.1.1.2, this.1.2, this.2⟩
theorem smpN_at (n : Nat) (h : n < 51) (k : Nat) : smpN (fi n) (k + 1) = some (fi n, stpN (fv .quo (fi n) 4611686018427387904) k) := by
  obtain ⟨h1, h2, h3, h4, h5, _⟩ := good_facts n h
  have ha : acc (fi n) = true := decide_eq_true (Or.inl h1)
  induction k with
  | zero =>
    show smp none (fi n) = _
    unfold smp
    rw [ha, if_pos rfl, h2]
    rfl
  | succ k ih =>
    show smp (smpN (fi n) (k + 1)) (fi n) = _
    rw [ih]
    unfold smp
    rw [ha, if_pos rfl, h2]
    show some (fv .add (fv .mul 4606056518893174784 (fi n)) (fv .mul 4593671619917905920 (fi n)), fv .add (fv .mul 4604930618986332160 _) (fv .mul 4598175219545276416 (far (fi n) (fi n)))) = _
    rw [h5, h3, h4]
    rfl
/-- What two hundred equal samples come to. -/
theorem learned (n : Nat) (h : n < 51) : ∃ v, smpN (fi n) 200 = some (fi n, v) ∧ v < 4607182418800017408 ∧ n ≤ wt (min (up (tms 0) (bs (some (fi n, v)))) INF) := by
  obtain ⟨h1, _, _, _, _, h6⟩ := good_facts n h
  have hv : stpN (fv .quo (fi n) 4611686018427387904) 199 < 4607182418800017408 := by
    rw [show 199 = 13 + 186 from rfl, stpN_add]
    have h13 := run_at n h
    have := stpN_le (stpN (fv .quo (fi n) 4611686018427387904) 13) 186 (by unfold INF; omega)
    omega
  refine ⟨_, smpN_at n h 199, hv, ?_⟩
  generalize stpN (fv .quo (fi n) 4611686018427387904) 199 = v at *
  obtain ⟨f, hf, hf'⟩ := mul_rung 4616189618054758400 v (by decide) (by decide) (by unfold INF; omega)
  obtain ⟨b, hb, hb'⟩ := add_rung (fi n) f (Nat.le_of_lt h1) hf'
  have hge := add_ge _ _ _ (Nat.le_of_lt h1) hf' hb
  have e : bs (some (fi n, v)) = b := by
    show fv .add (fi n) (fv .mul 4616189618054758400 v) = b
    rw [fv_of (op := .mul) hf]
    exact fv_of (op := .add) hb
  rw [e, show tms 0 = 0 from rfl]
  show n ≤ wt (min b INF)
  rw [Nat.min_eq_left hb']
  exact Nat.le_trans h6 (wt_mono hge)
theorem smpN_ok (x k : Nat) : Okay (smpN x k) := by
  induction k with
  | zero => trivial
  | succ k ih => exact smp_ok _ _ ih
theorem learned_x (m : Nat) (N : Int) (x : Nat) (hN : N = m) (hx : floatOfInt .f64 N = x) (h : m < 51) : ∃ v, smpN x 200 = some (x, v) ∧ v < 4607182418800017408 ∧ m ≤ wt (min (up (tms 0) (bs (some (x, v)))) INF) ∧ x < INF := by
  subst hN hx
  obtain ⟨v, h1, h2, h3⟩ := learned m h
  exact ⟨v, h1, h2, h3, (good_facts m h).1⟩
/-- The same, with letters for all of it. -/
theorem learned_s (m : Nat) (h : m < 51) : ∃ (N : Int) (x v y : Nat) (S : Nat → St), N = m ∧ floatOfInt .f64 N = x ∧ x < INF ∧ S 0 = none ∧ (∀ k, S (k + 1) = smp (S k) x) ∧ S 200 = some (x, v) ∧ v < 4607182418800017408 ∧ wt (min (up (tms 0) (bs (some (x, v)))) INF) = y ∧ (m : Int) ≤ y := by
  obtain ⟨v, h1, h2, h3, h4⟩ := learned_x m m _ rfl rfl h
  exact ⟨m, _, v, _, smpN _, rfl, rfl, h4, rfl, fun _ => rfl, h1, h2, rfl, by omega⟩
end Go.Proofs.Ytfelndloobnipaa
