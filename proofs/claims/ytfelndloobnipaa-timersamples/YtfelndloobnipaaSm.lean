/-
  Sample, of the program's timer: which samples are taken, and what is learned. Its conditions: the sample's word fits into 64 bits; what was learned are rungs no greater than infinity.
-/
import Derived.Test.YtfelndloobnipaaWa
namespace Go.Proofs.Ytfelndloobnipaa
open Go.RowKit Ieee

@[go_sem] theorem run_store_float {P : Program} {w : World} {a : Addr} {m : Mode} (k : FloatKind) (x : Nat) : (store a (.float k x) m).run P w = stored P w a (.float k x) m := run_store P w a _ m rfl
/-- Block p alone has turned. -/
structure Only (p : Nat) (w w' : World) : Prop where
  os : w'.os = w.os
  tape : w'.tape = w.tape
  output : w'.output = w.output
  size : w'.heap.size = w.heap.size
  block : ∀ k, k ≠ p → w'.heap[k]? = w.heap[k]?
theorem Only.refl (p : Nat) (w : World) : Only p w w := ⟨rfl, rfl, rfl, rfl, fun _ _ => rfl⟩
theorem Only.trans {p : Nat} {a b c : World} (h : Only p a b) (k : Only p b c) : Only p a c :=
  ⟨k.os.trans h.os, k.tape.trans h.tape, k.output.trans h.output, k.size.trans h.size, fun i hi => (k.block i hi).trans (h.block i hi)⟩
theorem Only.drew {p : Nat} {a b : World} (h : Only p a b) (n : Nat) : Only p a (b.drewN n) := ⟨h.os, h.tape, h.output, h.size, h.block⟩
theorem Only.drew1 {p : Nat} {a b : World} (h : Only p a b) : Only p a b.drew := ⟨h.os, h.tape, h.output, h.size, h.block⟩
theorem Only.set {p : Nat} {a b : World} (h : Only p a b) (o : Nat) (u : Value) : Only p a (b.setCell ⟨p, o, none⟩ u) :=
  h.trans ⟨rfl, rfl, rfl, by simp [World.setCell], fun k hk => Below.heap_setCell _ _ _ _ hk⟩
theorem Only.below {p : Nat} {w w' : World} (h : Only p w w') {B : Nat} (hp : B ≤ p) : Below B w w' :=
  ⟨h.os, h.tape, h.output, Nat.le_of_eq h.size.symm, fun k hk => h.block k (by omega)⟩
theorem two_cells {w : World} {p T : Nat} {x y : Value} (h : w.heap[p]? = some (.cells #[x, y] T (0, 0))) : w.cell? ⟨p, 0, none⟩ = some x ∧ w.cell? ⟨p, 1, none⟩ = some y ∧ w.frozen? ⟨p, 0, none⟩ = false ∧ w.frozen? ⟨p, 1, none⟩ = false := by
  refine ⟨?_, ?_, Lib.frozen_of_heap h _, Lib.frozen_of_heap h _⟩
  · rw [cell_of_row w p 0 _ _ _ h]; rfl
  · rw [cell_of_row w p 1 _ _ _ h]; rfl
theorem two_set0 {w : World} {p T : Nat} {x y : Value} (h : w.heap[p]? = some (.cells #[x, y] T (0, 0))) (u : Value) : (w.setCell ⟨p, 0, none⟩ u).heap[p]? = some (.cells #[u, y] T (0, 0)) := by
  simp [World.setCell, Array.getElem?_modify, h]
theorem two_set1 {w : World} {p T : Nat} {x y : Value} (h : w.heap[p]? = some (.cells #[x, y] T (0, 0))) (u : Value) : (w.setCell ⟨p, 1, none⟩ u).heap[p]? = some (.cells #[x, u] T (0, 0)) := by
  simp [World.setCell, Array.getElem?_modify, h]

/-- Is a sample taken? -/
def acc (x : Nat) : Bool := decide (x < INF ∨ x = 9223372036854775808)
/-- How far a sample is from the mean. -/
def far (m d : Nat) : Nat := fv .sub m d % 9223372036854775808
/-- What is learned. -/
def nxt (s : St) (d : Nat) : Nat × Nat := match s with
  | none => (d, fv .quo d 4611686018427387904)
  | some (m, v) => (fv .add (fv .mul 4606056518893174784 m) (fv .mul 4593671619917905920 d), fv .add (fv .mul 4604930618986332160 v) (fv .mul 4598175219545276416 (far m d)))
def smp (s : St) (x : Nat) : St := if acc x then some (nxt s (x % 9223372036854775808)) else s
theorem acc_lt {x : Nat} (h : acc x = true) : x % 9223372036854775808 < INF := by
  have := of_decide_eq_true h
  unfold INF at *
  omega
/-- All that comes of one sample more. -/
theorem nxt_num (m v d : Nat) (h1 : m ≤ INF) (h2 : v ≤ INF) (hd : d < INF) : ∃ t a b c e, floatBits .sub .f64 m d = some t ∧ (t ≤ INF ∨ 9223372036854775808 < t ∧ t ≤ 9223372036854775808 + INF) ∧ far m d = t % 9223372036854775808 ∧ floatBits .mul .f64 4604930618986332160 v = some a ∧ floatBits .mul .f64 4598175219545276416 (far m d) = some b ∧ floatBits .add .f64 a b = some (nxt (some (m, v)) d).2 ∧
    floatBits .mul .f64 4606056518893174784 m = some c ∧ floatBits .mul .f64 4593671619917905920 d = some e ∧ floatBits .add .f64 c e = some (nxt (some (m, v)) d).1 ∧ Okay (some (nxt (some (m, v)) d)) := by
  obtain ⟨t, ht, hto⟩ := sub_rung m d h1 hd
  have hf : far m d = t % 9223372036854775808 := by unfold far; rw [fv_of (op := .sub) ht]
  have hfi : far m d ≤ INF := by rw [hf]; unfold INF at *; omega
  obtain ⟨a, ha, ha'⟩ := mul_rung 4604930618986332160 v (by decide) (by decide) h2
  obtain ⟨b, hb, hb'⟩ := mul_rung 4598175219545276416 (far m d) (by decide) (by decide) hfi
  obtain ⟨c, hc, hc'⟩ := mul_rung 4606056518893174784 m (by decide) (by decide) h1
  obtain ⟨e, he, he'⟩ := mul_rung 4593671619917905920 d (by decide) (by decide) (Nat.le_of_lt hd)
  obtain ⟨x, hx, hx'⟩ := add_rung a b ha' hb'
  obtain ⟨y, hy, hy'⟩ := add_rung c e hc' he'
  have e1 : (nxt (some (m, v)) d).2 = x := by
    show fv .add (fv .mul 4604930618986332160 v) (fv .mul 4598175219545276416 (far m d)) = x
    rw [fv_of (op := .mul) ha, fv_of (op := .mul) hb]; exact fv_of hx
  have e2 : (nxt (some (m, v)) d).1 = y := by
    show fv .add (fv .mul 4606056518893174784 m) (fv .mul 4593671619917905920 d) = y
    rw [fv_of (op := .mul) hc, fv_of (op := .mul) he]; exact fv_of hy
  refine ⟨t, a, b, c, e, ht, hto, hf, ha, hb, by rw [e1]; exact hx, hc, he, by rw [e2]; exact hy, ?_⟩
  show (nxt (some (m, v)) d).1 ≤ INF ∧ (nxt (some (m, v)) d).2 ≤ INF
  rw [e1, e2]
  exact ⟨hy', hx'⟩
theorem nxt_none (d : Nat) (hd : d < INF) : floatBits .quo .f64 d 4611686018427387904 = some (nxt none d).2 ∧ (nxt none d).1 = d ∧ Okay (some (nxt none d)) := by
  obtain ⟨t, ht, ht'⟩ := half_rung d hd
  have e : (nxt none d).2 = t := fv_of ht
  refine ⟨by rw [e]; exact ht, rfl, ?_⟩
  show d ≤ INF ∧ (nxt none d).2 ≤ INF
  rw [e]
  exact ⟨Nat.le_of_lt hd, ht'⟩
theorem smp_ok (s : St) (x : Nat) (hs : Okay s) : Okay (smp s x) := by
  unfold smp
  split
  · rename_i h
    cases s with
    | none => exact (nxt_none _ (acc_lt h)).2.2
    | some mv =>
      obtain ⟨t, a, b, c, e, _, _, _, _, _, _, _, _, _, h⟩ := nxt_num mv.1 mv.2 _ hs.1 hs.2 (acc_lt h)
      exact h
  · exact hs

theorem lt_zero (x : Nat) (hx : x < 18446744073709551616) (hn : nan x = false) : (FloatKind.f64.format.order x 0 == some .lt) = decide (9223372036854775808 < x) := by
  have := order_word x 0 hx (by decide) hn (by decide)
  rw [show FloatKind.f64.format.order x 0 = _ from this, (cmpi _ _).1]
  have e0 : kz 0 = 0 := by decide
  rw [e0]
  unfold kz sgn
  by_cases h : 9223372036854775808 ≤ x
  · rw [decide_eq_true h, if_pos rfl]
    by_cases h' : 9223372036854775808 < x
    · rw [decide_eq_true h', decide_eq_true (by omega)]
    · rw [decide_eq_false h', decide_eq_false (by omega)]
  · rw [decide_eq_false h, if_neg (by decide), decide_eq_false (by omega), decide_eq_false (by omega)]
theorem eq_zero (x : Nat) (hx : x < 18446744073709551616) (hn : nan x = false) : (FloatKind.f64.format.order x 0 == some .eq) = decide (x % 9223372036854775808 = 0) := by
  have := order_word x 0 hx (by decide) hn (by decide)
  rw [show FloatKind.f64.format.order x 0 = _ from this, (cmpi _ _).2.2]
  have e0 : kz 0 = 0 := by decide
  rw [e0]
  unfold kz sgn
  by_cases h : 9223372036854775808 ≤ x
  · rw [decide_eq_true h, if_pos rfl]
    by_cases h' : x % 9223372036854775808 = 0
    · rw [decide_eq_true h', decide_eq_true (by omega)]
    · rw [decide_eq_false h', decide_eq_false (by omega)]
  · rw [decide_eq_false h, if_neg (by decide)]
    by_cases h' : x % 9223372036854775808 = 0
    · rw [decide_eq_true h', decide_eq_true (by omega)]
    · rw [decide_eq_false h', decide_eq_false (by omega)]
theorem sample_nil (w : World) (x : Nat) : Calls Try.prog 8 #[.pointer none, .float .f64 x] w fun e w' => e = .returned (.bool false) ∧ w = w' := by
  go_enter Try.func8, Try.ntmps8
  go_wp2
  go_ret
  exact ⟨rfl, rfl⟩
theorem sample_no (w : World) (p x : Nat) (hx : x < 18446744073709551616) (ha : acc x = false) : Calls Try.prog 8 #[.pointer (some ⟨p, 0, none⟩), .float .f64 x] w fun e w' => e = .returned (.bool false) ∧ w = w' := by
  have ha := of_decide_eq_false ha
  by_cases hn : nan x = true
  · go_enter Try.func8, Try.ntmps8
    go_wp2_with (go_at_call 17; refine (isnan_any _ _).mono ?_; rintro e w' ⟨rfl, rfl⟩; rw [hn])
    go_ret
    exact ⟨rfl, rfl⟩
  have hn := Bool.eq_false_iff.2 hn
  by_cases hi : x % 9223372036854775808 = 9218868437227405312
  · have hi := decide_eq_true hi
    go_enter Try.func8, Try.ntmps8
    go_wp2_with first
      | (go_at_call 17; refine (isnan_any _ _).mono ?_; rintro e w' ⟨rfl, rfl⟩; rw [hn])
      | (go_at_call 18; refine (isinf_any _ _ hx).mono ?_; rintro e w' ⟨rfl, rfl⟩; rw [hi])
    go_ret
    exact ⟨rfl, rfl⟩
  · have hl := lt_zero x hx hn
    rw [decide_eq_true (by have := of_decide_eq_false hn; unfold INF at ha; omega)] at hl
    have hi := decide_eq_false hi
    have HA := Lib.hid ha
    clear ha
    go_enter Try.func8, Try.ntmps8
    go_wp2_with first
      | (go_at_call 17; refine (isnan_any _ _).mono ?_; rintro e w' ⟨rfl, rfl⟩; rw [hn])
      | (go_at_call 18; refine (isinf_any _ _ hx).mono ?_; rintro e w' ⟨rfl, rfl⟩; rw [hi])
    go_ret
    exact ⟨rfl, rfl⟩
theorem acc_facts {x : Nat} (hx : x < 18446744073709551616) (ha : acc x = true) : nan x = false ∧ decide (x % 9223372036854775808 = 9218868437227405312) = false ∧ (FloatKind.f64.format.order x 0 == some .lt) = false := by
  have h := of_decide_eq_true ha
  unfold INF at h
  have hn : nan x = false := decide_eq_false (by omega)
  exact ⟨hn, decide_eq_false (by omega), by rw [lt_zero x hx hn]; exact decide_eq_false (by omega)⟩
theorem sample_first (w : World) (p x : Nat) (hx : x < 18446744073709551616) (ha : acc x = true) (h : TAt w p none) : Calls Try.prog 8 #[.pointer (some ⟨p, 0, none⟩), .float .f64 x] w fun e w' => e = .returned (.bool true) ∧ TAt w' p (some (nxt none (x % 9223372036854775808))) ∧ Only p w w' := by
  obtain ⟨hn, hi, hl⟩ := acc_facts hx ha
  obtain ⟨hq, h1, _⟩ := nxt_none _ (acc_lt ha)
  have hz := eq_zero x hx hn
  have h : w.heap[p]? = some (.cells #[.float .f64 NAN, .float .f64 NAN] 43 (0, 0)) := h
  obtain ⟨c0, c1, f0, f1⟩ := two_cells h
  have HH := Lib.hid h
  clear h
  show Calls Try.prog 8 _ w fun e w' => e = .returned (.bool true) ∧ w'.heap[p]? = some (.cells #[.float .f64 (nxt none (x % 9223372036854775808)).1, .float .f64 (nxt none (x % 9223372036854775808)).2] 43 (0, 0)) ∧ Only p w w'
  rw [h1]
  have hnn : nan NAN = true := by decide
  have e1 := fun W T => run_float_arith (P := Try.prog) W .quo T .f64 _ _ _ hq
  generalize (nxt none (x % 9223372036854775808)).2 = v at *
  clear hq h1
  by_cases h0 : x % 9223372036854775808 = 0
  · rw [decide_eq_true h0] at hz
    rw [h0] at e1 ⊢
    clear h0
    have HA := Lib.hid ha
    clear ha
    go_enter Try.func8, Try.ntmps8
    go_wp2_with first
      | (go_at_call 17; refine (isnan_any _ _).mono ?_; rintro e w' ⟨rfl, rfl⟩; first | rw [hn] | rw [hnn])
      | (go_at_call 18; refine (isinf_any _ _ hx).mono ?_; rintro e w' ⟨rfl, rfl⟩; rw [hi])
    go_ret
    exact ⟨rfl, two_set1 (two_set0 HH.out _) _, ((Only.refl p w).set 0 _).set 1 _⟩
  · rw [decide_eq_false h0] at hz
    have hxm : x % 9223372036854775808 = x := by
      have := of_decide_eq_true ha
      unfold INF at this
      omega
    rw [hxm] at e1 ⊢
    clear h0 hxm
    have HA := Lib.hid ha
    clear ha hi
    have hi : decide (x % 9223372036854775808 = 9218868437227405312) = false := (acc_facts hx HA.out).2.1
    go_enter Try.func8, Try.ntmps8
    go_wp2_with first
      | (go_at_call 17; refine (isnan_any _ _).mono ?_; rintro e w' ⟨rfl, rfl⟩; first | rw [hn] | rw [hnn])
      | (go_at_call 18; refine (isinf_any _ _ hx).mono ?_; rintro e w' ⟨rfl, rfl⟩; rw [hi])
    go_ret
    exact ⟨rfl, two_set1 (two_set0 HH.out _) _, ((Only.refl p w).set 0 _).set 1 _⟩
set_option maxHeartbeats 4000000 in
theorem sample_more (w : World) (p x m v : Nat) (hx : x < 18446744073709551616) (ha : acc x = true) (hs : Okay (some (m, v))) (h : TAt w p (some (m, v))) : Calls Try.prog 8 #[.pointer (some ⟨p, 0, none⟩), .float .f64 x] w fun e w' => e = .returned (.bool true) ∧ TAt w' p (some (nxt (some (m, v)) (x % 9223372036854775808))) ∧ Only p w w' := by
  obtain ⟨hn, hi, hl⟩ := acc_facts hx ha
  obtain ⟨t, a, b, c, e, k1, k2, k3, k4, k5, k6, k7, k8, k9, _⟩ := nxt_num m v _ hs.1 hs.2 (acc_lt ha)
  have hz := eq_zero x hx hn
  have h : w.heap[p]? = some (.cells #[.float .f64 m, .float .f64 v] 43 (0, 0)) := h
  obtain ⟨c0, c1, f0, f1⟩ := two_cells h
  have HH := Lib.hid h
  clear h
  show Calls Try.prog 8 _ w fun e w' => e = .returned (.bool true) ∧ w'.heap[p]? = some (.cells #[.float .f64 (nxt (some (m, v)) (x % 9223372036854775808)).1, .float .f64 (nxt (some (m, v)) (x % 9223372036854775808)).2] 43 (0, 0)) ∧ Only p w w'
  have ht : t < 18446744073709551616 := by unfold INF at k2; omega
  have hnn : nan m = false := decide_eq_false (by have := hs.1; unfold INF at this; omega)
  rw [k3] at k5
  have HI := Lib.hid hi
  have hd : x % 9223372036854775808 = (if x % 9223372036854775808 = 0 then 0 else x) := by
    split
    · assumption
    · have := of_decide_eq_true ha
      unfold INF at this
      omega
  generalize (nxt (some (m, v)) (x % 9223372036854775808)).1 = m' at *
  generalize (nxt (some (m, v)) (x % 9223372036854775808)).2 = v' at *
  by_cases h0 : x % 9223372036854775808 = 0
  · rw [if_pos h0] at hd
    rw [decide_eq_true h0] at hz
    rw [hd] at k1 k8
    have e1 := fun W T => run_float_arith (P := Try.prog) W .sub T .f64 _ _ _ k1
    have K := Lib.hid (And.intro k4 (And.intro k5 (And.intro k6 (And.intro k7 (And.intro k8 k9)))))
    clear h0 hd ha k2 k3 k4 k5 k6 k7 k8 k9 k1 hi
    go_enter Try.func8, Try.ntmps8
    go_wp2_with first
      | (go_at_call 17; refine (isnan_any _ _).mono ?_; rintro e w' ⟨rfl, rfl⟩; first | rw [hn] | rw [hnn])
      | (go_at_call 18; refine (isinf_any _ _ hx).mono ?_; rintro e w' ⟨rfl, rfl⟩; rw [HI.out])
    go_region_with first
      | (go_at_call 20; refine (abs_any _ _ ht).mono ?_; rintro e w' ⟨rfl, rfl⟩)
      | (go_at_call 19; refine (together_ok _ _ _ _ _ _ _ _ K.out.1 K.out.2.1 K.out.2.2.1).mono ?_; rintro e w' ⟨rfl, rfl⟩)
    all_goals go_wp2_with (go_at_call 19; refine (together_ok _ _ _ _ _ _ _ _ K.out.2.2.2.1 K.out.2.2.2.2.1 K.out.2.2.2.2.2).mono ?_; rintro e w' ⟨rfl, rfl⟩)
    all_goals go_ret
    all_goals exact ⟨rfl, two_set0 (two_set1 HH.out _) _, ((Only.refl p w).set 1 _).drew1.set 0 _⟩
  · rw [if_neg h0] at hd
    rw [decide_eq_false h0] at hz
    rw [hd] at k1 k8
    have e1 := fun W T => run_float_arith (P := Try.prog) W .sub T .f64 _ _ _ k1
    have K := Lib.hid (And.intro k4 (And.intro k5 (And.intro k6 (And.intro k7 (And.intro k8 k9)))))
    clear h0 hd ha k2 k3 k4 k5 k6 k7 k8 k9 k1 hi
    go_enter Try.func8, Try.ntmps8
    go_wp2_with first
      | (go_at_call 17; refine (isnan_any _ _).mono ?_; rintro e w' ⟨rfl, rfl⟩; first | rw [hn] | rw [hnn])
      | (go_at_call 18; refine (isinf_any _ _ hx).mono ?_; rintro e w' ⟨rfl, rfl⟩; rw [HI.out])
    go_region_with first
      | (go_at_call 20; refine (abs_any _ _ ht).mono ?_; rintro e w' ⟨rfl, rfl⟩)
      | (go_at_call 19; refine (together_ok _ _ _ _ _ _ _ _ K.out.1 K.out.2.1 K.out.2.2.1).mono ?_; rintro e w' ⟨rfl, rfl⟩)
    all_goals go_wp2_with (go_at_call 19; refine (together_ok _ _ _ _ _ _ _ _ K.out.2.2.2.1 K.out.2.2.2.2.1 K.out.2.2.2.2.2).mono ?_; rintro e w' ⟨rfl, rfl⟩)
    all_goals go_ret
    all_goals exact ⟨rfl, two_set0 (two_set1 HH.out _) _, ((Only.refl p w).set 1 _).drew1.set 0 _⟩
/-- Sample, WHATEVER COMES. -/
theorem sample_any (w : World) (p x : Nat) (s : St) (hx : x < 18446744073709551616) (hs : Okay s) (h : TAt w p s) : Calls Try.prog 8 #[.pointer (some ⟨p, 0, none⟩), .float .f64 x] w fun e w' => e = .returned (.bool (acc x)) ∧ TAt w' p (smp s x) ∧ Only p w w' := by
  cases ha : acc x with
  | false =>
    refine (sample_no w p x hx ha).mono fun e w' ⟨h1, h2⟩ => ⟨h1, ?_, ?_⟩
    · subst h2; unfold smp; rw [ha]; exact h
    · subst h2; exact Only.refl p w
  | true =>
    have e : smp s x = some (nxt s (x % 9223372036854775808)) := by unfold smp; rw [ha]; rfl
    rw [e]
    cases s with
    | none => exact sample_first w p x hx ha h
    | some mv => exact sample_more w p x mv.1 mv.2 hx ha hs h
end Go.Proofs.Ytfelndloobnipaa
