/-
  AttrLess's walk: it answers true, and makes new blocks alone. No condition.
-/
import Derived.Test.YtedcgmagkkoggaaAp
import Derived.Test.YtedcgmagkkoggaaTa
import Derived.Laws.CopyOwn
namespace Go.Proofs.Ytedcgmagkkoggaa
open Go.RowKit
theorem wrap_bit (n : Int) (j : Nat) (hj : j < 9) : IntKind.i64.wrap n / 2 ^ j % 2 = n / 2 ^ j % 2 := by
  rw [IntKind.wrap_i64]
  match j, hj with
  | 0, _ => simp only [Int.pow_zero, Int.ediv_one]; omega
  | 1, _ => rw [show (2 : Int) ^ 1 = 2 from rfl]; omega
  | 2, _ => rw [show (2 : Int) ^ 2 = 4 from rfl]; omega
  | 3, _ => rw [show (2 : Int) ^ 3 = 8 from rfl]; omega
  | 4, _ => rw [show (2 : Int) ^ 4 = 16 from rfl]; omega
  | 5, _ => rw [show (2 : Int) ^ 5 = 32 from rfl]; omega
  | 6, _ => rw [show (2 : Int) ^ 6 = 64 from rfl]; omega
  | 7, _ => rw [show (2 : Int) ^ 7 = 128 from rfl]; omega
  | 8, _ => rw [show (2 : Int) ^ 8 = 256 from rfl]; omega
theorem ofInt_bit (x : Int) (j : Nat) (hj : j < 9) : (x / 2 ^ j % 2 = 1) ↔ (BitVec.ofInt 64 x).toNat.testBit j = true := by
  rw [Nat.testBit_eq_decide_div_mod_eq, decide_eq_true_eq, BitVec.toNat_ofInt]
  match j, hj with
  | 0, _ => simp only [Int.pow_zero, Int.ediv_one, Nat.pow_zero, Nat.div_one]; omega
  | 1, _ => rw [show (2 : Int) ^ 1 = 2 from rfl, show (2 : Nat) ^ 1 = 2 from rfl]; omega
  | 2, _ => rw [show (2 : Int) ^ 2 = 4 from rfl, show (2 : Nat) ^ 2 = 4 from rfl]; omega
  | 3, _ => rw [show (2 : Int) ^ 3 = 8 from rfl, show (2 : Nat) ^ 3 = 8 from rfl]; omega
  | 4, _ => rw [show (2 : Int) ^ 4 = 16 from rfl, show (2 : Nat) ^ 4 = 16 from rfl]; omega
  | 5, _ => rw [show (2 : Int) ^ 5 = 32 from rfl, show (2 : Nat) ^ 5 = 32 from rfl]; omega
  | 6, _ => rw [show (2 : Int) ^ 6 = 64 from rfl, show (2 : Nat) ^ 6 = 64 from rfl]; omega
  | 7, _ => rw [show (2 : Int) ^ 7 = 128 from rfl, show (2 : Nat) ^ 7 = 128 from rfl]; omega
  | 8, _ => rw [show (2 : Int) ^ 8 = 256 from rfl, show (2 : Nat) ^ 8 = 256 from rfl]; omega
theorem nat_bit (n j : Nat) : ((n : Int) / 2 ^ j % 2 = 1) ↔ n.testBit j = true := by
  rw [Nat.testBit_eq_decide_div_mod_eq, decide_eq_true_eq]
  have : ((n : Int) / 2 ^ j % 2) = ((n / 2 ^ j % 2 : Nat) : Int) := by
    rw [Int.natCast_emod, Int.natCast_ediv, Int.natCast_pow]; rfl
  rw [this]
  omega
theorem or_bit (x y : Int) (j : Nat) (hj : j < 9) (h : x / 2 ^ j % 2 = 1) : bits .or .i64 x y / 2 ^ j % 2 = 1 := by
  show IntKind.i64.wrap ((BitVec.ofInt 64 x ||| BitVec.ofInt 64 y).toNat : Nat) / 2 ^ j % 2 = 1
  rw [wrap_bit _ j hj, nat_bit, BitVec.toNat_or, Nat.testBit_or, (ofInt_bit x j hj).1 h]
  rfl
theorem and_bit (x y : Int) (j : Nat) (hj : j < 9) : (bits .and .i64 x y / 2 ^ j % 2 = 1) ↔ (x / 2 ^ j % 2 = 1 ∧ y / 2 ^ j % 2 = 1) := by
  show (IntKind.i64.wrap ((BitVec.ofInt 64 x &&& BitVec.ofInt 64 y).toNat : Nat) / 2 ^ j % 2 = 1) ↔ _
  rw [wrap_bit _ j hj, nat_bit, BitVec.toNat_and, Nat.testBit_and, ofInt_bit x j hj, ofInt_bit y j hj, Bool.and_eq_true]
/-- An or of modes lets by what either lets by. -/
theorem ok3_or (b x y : Int) (a : Nat) (ha : a ≤ 6) (h : ok3 b (x / 2 ^ a) = true) : ok3 b (bits .or .i64 x y / 2 ^ a) = true := by
  rw [ok3_all] at h ⊢
  intro i hi ⟨h1, h2⟩
  have h3 := h i hi
  rw [shift_two] at h2 h3
  rcases two_way (x / 2 ^ (a + i)) with h4 | h4
  · exact h3 ⟨h1, h4⟩
  · have := or_bit x y (a + i) (by omega) h4
    omega
theorem ok3_none (b g : Int) (h : ∀ i : Nat, i < 3 → ¬ (b / 2 ^ i % 2 = 1)) : ok3 b g = true := (ok3_all b g).2 fun i hi k => h i hi k.1
theorem zero_bit (i : Nat) : ¬ ((0 : Int) / 2 ^ i % 2 = 1) := by
  rw [Int.zero_ediv]; decide
theorem pow_bit (i k : Nat) (hi : i < 3) (hk : k < 3) : ((2 : Int) ^ k / 2 ^ i % 2 = 1) ↔ i = k := by
  match i, k, hi, hk with
  | 0, 0, _, _ => decide
  | 0, 1, _, _ => decide
  | 0, 2, _, _ => decide
  | 1, 0, _, _ => decide
  | 1, 1, _, _ => decide
  | 1, 2, _, _ => decide
  | 2, 0, _, _ => decide
  | 2, 1, _, _ => decide
  | 2, 2, _, _ => decide
theorem ok3_one (b g : Int) (k : Nat) (hk : k < 3) : ok3 (bits .and .i64 b (2 ^ k)) g = true ↔ ¬ (b / 2 ^ k % 2 = 1 ∧ g / 2 ^ k % 2 = 0) := by
  rw [ok3_all]
  constructor
  · intro h ⟨h1, h2⟩
    exact h k hk ⟨(and_bit b (2 ^ k) k (by omega)).2 ⟨h1, (pow_bit k k hk hk).2 rfl⟩, h2⟩
  · intro h i hi ⟨h1, h2⟩
    obtain ⟨h3, h4⟩ := (and_bit b (2 ^ k) i (by omega)).1 h1
    have := (pow_bit i k hi hk).1 h4
    subst this
    exact h ⟨h3, h2⟩
/-- Who may do several things may do each. -/
theorem ok3_each (b g : Int) : ok3 b g = (ok3 (bits .and .i64 b 1) g && (ok3 (bits .and .i64 b 2) g && ok3 (bits .and .i64 b 4) g)) := by
  rw [Bool.eq_iff_iff, Bool.and_eq_true, Bool.and_eq_true, ok3_all]
  have h0 := ok3_one b g 0 (by decide)
  have h1 := ok3_one b g 1 (by decide)
  have h2 := ok3_one b g 2 (by decide)
  rw [show (2 : Int) ^ 0 = 1 from rfl] at h0
  rw [show (2 : Int) ^ 1 = 2 from rfl] at h1
  rw [show (2 : Int) ^ 2 = 4 from rfl] at h2
  rw [h0, h1, h2]
  constructor
  · intro h
    exact ⟨h 0 (by decide), h 1 (by decide), h 2 (by decide)⟩
  · intro ⟨k0, k1, k2⟩ i hi
    match i, hi with
    | 0, _ => exact k0
    | 1, _ => exact k1
    | 2, _ => exact k2
theorem may_zero (mode o g v b : Int) : mayB mode o g 0 v [] b = true := by unfold mayB; rw [if_pos rfl]
theorem may_each (mode o g u v b : Int) : mayB mode o g u v [] b = (mayB mode o g u v [] (bits .and .i64 b 1) && (mayB mode o g u v [] (bits .and .i64 b 2) && mayB mode o g u v [] (bits .and .i64 b 4))) := by
  by_cases h : u = 0
  · subst h; simp only [may_zero]; rfl
  · simp only [mayB_far _ _ _ _ _ _ _ h]
    exact ok3_each _ _
theorem may_or (mode more o g u v b : Int) (h : mayB mode o g u v [] b = true) : mayB (bits .or .i64 mode more) o g u v [] b = true := by
  by_cases hu : u = 0
  · subst hu; exact may_zero _ _ _ _ _
  · rw [mayB_far _ _ _ _ _ _ _ hu] at h ⊢
    refine ok3_or b mode more _ ?_ h
    unfold farB
    split
    · decide
    · split <;> decide
theorem may_none (mode o g u v : Int) : mayB mode o g u v [] 0 = true := by
  by_cases hu : u = 0
  · subst hu; exact may_zero _ _ _ _ _
  · rw [mayB_far _ _ _ _ _ _ _ hu]
    exact ok3_none _ _ fun i _ => zero_bit i
/-- What the walk keeps. -/
structure Kl (w0 : World) (A B C : Nat) (x0 y o g u v : Int) (w : World) : Prop where
  a : AAt w A 0 x0 0 o g 0 0 0 0 0 0 0 0 0 0 0 0
  b : AAt w B 0 y 0 o g 0 0 0 0 0 0 0 0 0 0 0 0
  c : w.heap[C]? = some (.cells #[.int .i64 o, .int .i64 g, .int .i64 u, .int .i64 v] 36 (0, 0))
  low : Below w0.heap.size w0 w
theorem Kl.lt {w0 w : World} {A B C : Nat} {x0 y o g u v : Int} (h : Kl w0 A B C x0 y o g u v w) : C < w.heap.size := (Array.getElem?_eq_some_iff.1 h.c).1
theorem Kl.step {w0 w w' : World} {A B C : Nat} {x0 y o g u v : Int} (h : Kl w0 A B C x0 y o g u v w) (hb : Below w.heap.size w w') : Kl w0 A B C x0 y o g u v w' :=
  ⟨h.a.keep hb, h.b.keep hb, (hb.block _ h.lt).trans h.c, h.low.trans (hb.mono h.low.size)⟩
theorem Kl.drew {w0 w : World} {A B C : Nat} {x0 y o g u v : Int} (h : Kl w0 A B C x0 y o g u v w) : Kl w0 A B C x0 y o g u v w.drew := ⟨h.a, h.b, h.c, h.low.drew⟩
theorem Kl.cs {w0 w' : World} {A B C : Nat} {x0 y o g u v : Int} (h : Kl w0 A B C x0 y o g u v w') : w'.cell? ⟨A, 0, none⟩ = some (.int .i64 0) ∧ w'.cell? ⟨A, 1, none⟩ = some (.int .i64 x0) ∧ w'.cell? ⟨A, 2, none⟩ = some (.int .i64 0) ∧ w'.cell? ⟨A, 3, none⟩ = some (.int .i64 o) ∧ w'.cell? ⟨A, 4, none⟩ = some (.int .i64 g) ∧ w'.cell? ⟨A, 5, none⟩ = some (.int .i64 0) ∧ w'.cell? ⟨A, 6, none⟩ = some (.int .i64 0) ∧ w'.cell? ⟨A, 7, none⟩ = some (.int .i64 0) ∧ w'.cell? ⟨A, 8, none⟩ = some (.int .i64 0) ∧ w'.cell? ⟨A, 9, none⟩ = some (.int .i64 0) ∧ w'.cell? ⟨A, 10, none⟩ = some (.int .i64 0) ∧ w'.cell? ⟨A, 11, none⟩ = some (.int .i64 0) ∧ w'.cell? ⟨A, 12, none⟩ = some (.int .i64 0) ∧ w'.cell? ⟨A, 13, none⟩ = some (.int .i64 0) ∧ w'.cell? ⟨A, 14, none⟩ = some (.int .i64 0) ∧ w'.cell? ⟨A, 15, none⟩ = some (.int .i64 0) ∧ w'.cell? ⟨A, 16, none⟩ = some (.int .i64 0) ∧ w'.cell? ⟨C, 0, none⟩ = some (.int .i64 o) ∧ w'.cell? ⟨C, 1, none⟩ = some (.int .i64 g) ∧ w'.cell? ⟨C, 2, none⟩ = some (.int .i64 u) ∧ w'.cell? ⟨C, 3, none⟩ = some (.int .i64 v) := by
  obtain ⟨c0, c1, c2, c3, c4, c5, c6, c7, c8, c9, c10, c11, c12, c13, c14, c15, c16⟩ := h.a.all
  refine ⟨c0, c1, c2, c3, c4, c5, c6, c7, c8, c9, c10, c11, c12, c13, c14, c15, c16, ?_, ?_, ?_, ?_⟩ <;> (rw [cell_of_row w' C _ _ _ _ h.c]; rfl)
theorem may_k {w0 w : World} {A B C : Nat} {x0 y o g u v : Int} (b uid gid : Int) (q0 q1 q2 q3 q4 q5 q6 q7 q8 q9 q10 q11 q12 q13 q14 q15 q16 : Int) (h : Kl w0 A B C x0 y o g u v w) (t : Bool) (ht : mayB q1 q3 q4 uid gid [] b = t) :
    Calls Try.prog 17 #[.agg #[.int .i64 q0, .int .i64 q1, .int .i64 q2, .int .i64 q3, .int .i64 q4, .int .i64 q5, .int .i64 q6, .int .i64 q7, .int .i64 q8, .int .i64 q9, .int .i64 q10, .int .i64 q11, .int .i64 q12, .int .i64 q13, .int .i64 q14, .int .i64 q15, .int .i64 q16], .int .i64 uid, .int .i64 gid, .slice none 0 0, .int .i64 b] w fun e w' => e = .returned (.bool t) ∧ Kl w0 A B C x0 y o g u v w' := by
  subst ht
  exact (may_any q0 q1 q2 q3 q4 q5 q6 q7 q8 q9 q10 q11 q12 q13 q14 q15 q16 uid gid b [] none 0 w (fun i hi => absurd hi (by simp)) (by decide)).mono fun e w' ⟨a, hb⟩ => ⟨a, h.step hb⟩
theorem twoNew {w : World} (o1 o2 : Obj) : Below w.heap.size w ((w.alloc o1).alloc o2).drew ∧ ((w.alloc o1).alloc o2).drew.heap[w.heap.size]? = some o1 ∧ ((w.alloc o1).alloc o2).drew.heap[w.heap.size + 1]? = some o2 := by
  refine ⟨(((Below.refl _ w).alloc (Nat.le_refl _) o1).alloc (by simp) o2).drew, ?_, ?_⟩
  · exact ((World.grownBy_alloc _ _ none).block w.heap.size (by simp) (by simp)).trans (heap_alloc_new w _)
  · have := heap_alloc_new (w.alloc o1) o2
    rw [show (w.alloc o1).heap.size = w.heap.size + 1 from by simp] at this
    exact this
theorem setRow_far {w : World} {B C : Nat} {cs : Array Value} {ob : Obj} (hn : C ≠ B) (h : w.heap[C]? = some ob) : (w.setRow B cs).heap[C]? = some ob := by
  simp only [World.setRow, Array.getElem?_modify]
  rw [if_neg (fun e => hn e.symm)]
  exact h
theorem sC {w' : World} {C : Nat} {o g u v : Int} (h : w'.heap[C]? = some (.cells #[.int .i64 o, .int .i64 g, .int .i64 u, .int .i64 v] 36 (0, 0))) : w'.cell? ⟨C, 0, none⟩ = some (.int .i64 o) ∧ w'.cell? ⟨C, 1, none⟩ = some (.int .i64 g) := by
  refine ⟨?_, ?_⟩ <;> (rw [cell_of_row w' C _ _ _ _ h]; rfl)
theorem lowK {w w2 wc : World} {X : Nat} (hA : w.heap.size = X) (h1 : Below X w w2) (h2 : Below w2.heap.size w2 wc) : Below w.heap.size w wc := by
  subst hA
  exact h1.trans (h2.mono h1.size)
set_option maxRecDepth 100000 in
set_option maxHeartbeats 400000000 in
theorem less_walk (x0 x1 x2 o g u v : Int) (w : World) :
    Calls Try.prog 6 #[.agg #[.int .i64 x0, .int .i64 x1, .int .i64 x2], .agg #[.int .i64 o, .int .i64 g, .int .i64 u, .int .i64 v]] w fun e w' => e = .returned (.bool true) ∧ Below w.heap.size w w' := by
  obtain ⟨y, hy⟩ : ∃ y, bits .or .i64 x0 x1 = y := ⟨_, rfl⟩
  have HY := Lib.hid hy
  go_enter Try.func6, Try.ntmps6
  go_wp2_with fail
  have hN : ∀ o1 o2 : Obj, Below w.heap.size w ((w.alloc o1).alloc o2) ∧ ((w.alloc o1).alloc o2).heap[w.heap.size]? = some o1 ∧ ((w.alloc o1).alloc o2).heap[w.heap.size + 1]? = some o2 := fun o1 o2 => ⟨((Below.refl _ w).alloc (Nat.le_refl _) o1).alloc (by simp) o2, (twoNew o1 o2).2.1, (twoNew o1 o2).2.2⟩
  obtain ⟨hB0, hX0, hC0⟩ := hN (.cells #[.int .i64 x0, .int .i64 x1, .int .i64 x2] 55) (.cells #[.int .i64 o, .int .i64 g, .int .i64 u, .int .i64 v] 36)
  clear hN
  have HB0 := Lib.hid hB0
  generalize ((w.alloc (.cells #[.int .i64 x0, .int .i64 x1, .int .i64 x2] 55)).alloc (.cells #[.int .i64 o, .int .i64 g, .int .i64 u, .int .i64 v] 36)) = W at *
  have hlX : w.heap.size < W.heap.size := (Array.getElem?_eq_some_iff.1 hX0).1
  have hlC : w.heap.size + 1 < W.heap.size := (Array.getElem?_eq_some_iff.1 hC0).1
  refine (speaks_any W).mono ?_
  rintro e w1 ⟨rfl, hB1⟩
  have HB1 := Lib.hid (HB0.out.trans (hB1.mono HB0.out.size))
  have hx1 := (hB1.block _ hlX).trans hX0
  have hc1 := (hB1.block _ hlC).trans hC0
  have hlw : W.heap.size ≤ w1.heap.size := hB1.size
  clear hB0 HB0 hX0 hC0 hB1
  generalize hA : w.heap.size = X at *
  generalize hCe : X + 1 = C at *
  have HA := Lib.hid hA
  clear hA
  have hXn : X ≠ w1.heap.size := by omega
  have hCn : C ≠ w1.heap.size := by omega
  have hXn1 : X ≠ w1.heap.size + 1 := by omega
  have hCn1 : C ≠ w1.heap.size + 1 := by omega
  have hCl : C < w1.heap.size := by omega
  clear hCe hlX hlC hlw
  have y0 : w1.cell? ⟨X, 0, none⟩ = some (.int .i64 x0) := by rw [cell_of_row _ _ 0 _ _ _ hx1]; rfl
  have y1 : w1.cell? ⟨X, 1, none⟩ = some (.int .i64 x1) := by rw [cell_of_row _ _ 1 _ _ _ hx1]; rfl
  have y2 : w1.cell? ⟨X, 2, none⟩ = some (.int .i64 x2) := by rw [cell_of_row _ _ 2 _ _ _ hx1]; rfl
  have z0 : w1.cell? ⟨C, 0, none⟩ = some (.int .i64 o) := by rw [cell_of_row _ _ 0 _ _ _ hc1]; rfl
  have z1 : w1.cell? ⟨C, 1, none⟩ = some (.int .i64 g) := by rw [cell_of_row _ _ 1 _ _ _ hc1]; rfl
  have HC1 := Lib.hid hc1
  clear hx1 hc1
  go_upto_region 3 with (fail)
  go_cut [5, 6, 7] (fun p q r wc => p = .int .i64 x0 ∧ q = .int .i64 x1 ∧ r = .int .i64 x2 ∧ ∃ n, wc = w1.drewN n)
  case first =>
    go_quiet (fail)
    go_wp2
    go_meet
    exact ⟨rfl, rfl, rfl, _, rfl⟩
  case rest =>
    obtain ⟨rfl, rfl, rfl, n, rfl⟩ := hcut
    have z0' : (w1.drewN n).cell? ⟨C, 0, none⟩ = some (.int .i64 o) := z0
    have z1' : (w1.drewN n).cell? ⟨C, 1, none⟩ = some (.int .i64 g) := z1
    have HC2 : Hid ((w1.drewN n).heap[C]? = some (.cells #[.int .i64 o, .int .i64 g, .int .i64 u, .int .i64 v] 36 (0, 0))) := Lib.hid HC1.out
    have HB2 : Hid (Below X w (w1.drewN n)) := Lib.hid (below_drewN HB1.out n)
    have hCl' : C < (w1.drewN n).heap.size := hCl
    have hCn' : C ≠ (w1.drewN n).heap.size := hCn
    have hCn1' : C ≠ (w1.drewN n).heap.size + 1 := hCn1
    clear y0 y1 y2 z0 z1 HC1 HB1 hXn hCn hXn1 hCn1 hCl
    generalize w1.drewN n = w2 at *
    go_upto_region 4 with (fail)
    go_cut [8, 9] (fun p q wc => ∃ A B, p = .pointer (some ⟨A, 0, none⟩) ∧ q = .pointer (some ⟨B, 0, none⟩) ∧ Below w2.heap.size w2 wc ∧ AAt wc A 0 x0 0 o g 0 0 0 0 0 0 0 0 0 0 0 0 ∧ AAt wc B 0 y 0 o g 0 0 0 0 0 0 0 0 0 0 0 0)
    case first => as_aux_lemma =>
      refine wp_region_noPanic ?_
      refine wp_region_held_drew (S := fun w' => w'.cell? ⟨C, 0, none⟩ = some (.int .i64 o) ∧ w'.cell? ⟨C, 1, none⟩ = some (.int .i64 g)) (by kernel_rfl) ⟨z0', z1'⟩ (fun hHeld => ?_)
      refine wpAnyH_take (i := 0) (oi := { dst := some 21, op := Op.move (Operand.tmp 5), type := 3, pos := "law.go:111", after := #[], guard := none }) (v := .int .i64 x0) rfl (by kernel_rfl) (by kernel_rfl) (by kernel_rfl) (fun _ _ _ h => h) (Or.inl ⟨by rfl, ?_⟩) hHeld ?_
      · intro w hSw; (try dsimp only at hSw); obtain ⟨hz0, hz1⟩ := hSw; first | (go_simp; done) | (go_simp; with_reducible rfl) | (go_simp; exact hy)
      try simp only [Act.put, List.setIfInBounds_toArray, List.set_cons_zero, List.set_cons_succ]
      refine wpAnyH_take (i := 1) (oi := { dst := some 22, op := Op.indexAddr 36 (Operand.tmp 3) (Operand.const (Value.int IntKind.i64 0)), type := 0, pos := "law.go:111", after := #[], guard := none }) (v := .pointer (some ⟨C, 0, none⟩)) rfl (by kernel_rfl) (by kernel_rfl) (by kernel_rfl) (fun _ _ _ h => h) (Or.inl ⟨by rfl, ?_⟩) hHeld ?_
      · intro w hSw; (try dsimp only at hSw); obtain ⟨hz0, hz1⟩ := hSw; first | (go_simp; done) | (go_simp; with_reducible rfl) | (go_simp; exact hy)
      try simp only [Act.put, List.setIfInBounds_toArray, List.set_cons_zero, List.set_cons_succ]
      refine wpAnyH_take (i := 2) (oi := { dst := some 23, op := Op.load 3 (Operand.tmp 22), type := 3, pos := "law.go:111", after := #[{ on := 1, ground := Ground.data }], guard := none }) (v := .int .i64 o) rfl (by kernel_rfl) (by kernel_rfl) (by kernel_rfl) (fun _ _ _ h => h) (Or.inl ⟨by rfl, ?_⟩) hHeld ?_
      · intro w hSw; (try dsimp only at hSw); obtain ⟨hz0, hz1⟩ := hSw; first | (go_simp; done) | (go_simp; with_reducible rfl) | (go_simp; exact hy)
      try simp only [Act.put, List.setIfInBounds_toArray, List.set_cons_zero, List.set_cons_succ]
      refine wpAnyH_take (i := 3) (oi := { dst := some 24, op := Op.indexAddr 36 (Operand.tmp 3) (Operand.const (Value.int IntKind.i64 1)), type := 0, pos := "law.go:111", after := #[], guard := none }) (v := .pointer (some ⟨C, 1, none⟩)) rfl (by kernel_rfl) (by kernel_rfl) (by kernel_rfl) (fun _ _ _ h => h) (Or.inl ⟨by rfl, ?_⟩) hHeld ?_
      · intro w hSw; (try dsimp only at hSw); obtain ⟨hz0, hz1⟩ := hSw; first | (go_simp; done) | (go_simp; with_reducible rfl) | (go_simp; exact hy)
      try simp only [Act.put, List.setIfInBounds_toArray, List.set_cons_zero, List.set_cons_succ]
      refine wpAnyH_take (i := 4) (oi := { dst := some 25, op := Op.load 3 (Operand.tmp 24), type := 3, pos := "law.go:111", after := #[{ on := 3, ground := Ground.data }], guard := none }) (v := .int .i64 g) rfl (by kernel_rfl) (by kernel_rfl) (by kernel_rfl) (fun _ _ _ h => h) (Or.inl ⟨by rfl, ?_⟩) hHeld ?_
      · intro w hSw; (try dsimp only at hSw); obtain ⟨hz0, hz1⟩ := hSw; first | (go_simp; done) | (go_simp; with_reducible rfl) | (go_simp; exact hy)
      try simp only [Act.put, List.setIfInBounds_toArray, List.set_cons_zero, List.set_cons_succ]
      refine wpAnyH_take (i := 5) (oi := { dst := some 26, op := Op.build 28 #[(1, Operand.tmp 21), (3, Operand.tmp 23), (4, Operand.tmp 25)], type := 28, pos := "law.go:111", after := #[{ on := 0, ground := Ground.data }, { on := 2, ground := Ground.data }, { on := 4, ground := Ground.data }], guard := none }) (v := .agg #[.int .i64 0, .int .i64 x0, .int .i64 0, .int .i64 o, .int .i64 g, .int .i64 0, .int .i64 0, .int .i64 0, .int .i64 0, .int .i64 0, .int .i64 0, .int .i64 0, .int .i64 0, .int .i64 0, .int .i64 0, .int .i64 0, .int .i64 0]) rfl (by kernel_rfl) (by kernel_rfl) (by kernel_rfl) (fun _ _ _ h => h) (Or.inl ⟨by rfl, ?_⟩) hHeld ?_
      · intro w hSw; (try dsimp only at hSw); obtain ⟨hz0, hz1⟩ := hSw; first | (go_simp; done) | (go_simp; with_reducible rfl) | (go_simp; exact hy)
      try simp only [Act.put, List.setIfInBounds_toArray, List.set_cons_zero, List.set_cons_succ]
      refine wpAnyH_take (i := 6) (oi := { dst := some 27, op := Op.move (Operand.tmp 5), type := 3, pos := "law.go:111", after := #[{ on := 16, ground := Ground.gcOnly Departure.lateStores }], guard := none }) (v := .int .i64 x0) rfl (by kernel_rfl) (by kernel_rfl) (by kernel_rfl) (fun _ _ _ h => h) (Or.inl ⟨by rfl, ?_⟩) hHeld ?_
      · intro w hSw; (try dsimp only at hSw); obtain ⟨hz0, hz1⟩ := hSw; first | (go_simp; done) | (go_simp; with_reducible rfl) | (go_simp; exact hy)
      try simp only [Act.put, List.setIfInBounds_toArray, List.set_cons_zero, List.set_cons_succ]
      refine wpAnyH_take (i := 7) (oi := { dst := some 28, op := Op.move (Operand.tmp 6), type := 3, pos := "law.go:111", after := #[{ on := 16, ground := Ground.gcOnly Departure.lateStores }], guard := none }) (v := .int .i64 x1) rfl (by kernel_rfl) (by kernel_rfl) (by kernel_rfl) (fun _ _ _ h => h) (Or.inl ⟨by rfl, ?_⟩) hHeld ?_
      · intro w hSw; (try dsimp only at hSw); obtain ⟨hz0, hz1⟩ := hSw; first | (go_simp; done) | (go_simp; with_reducible rfl) | (go_simp; exact hy)
      try simp only [Act.put, List.setIfInBounds_toArray, List.set_cons_zero, List.set_cons_succ]
      refine wpAnyH_take (i := 8) (oi := { dst := some 29, op := Op.binOp BinOp.or 3 (Operand.tmp 27) (Operand.tmp 28) 3, type := 3, pos := "law.go:111", after := #[{ on := 6, ground := Ground.data }, { on := 7, ground := Ground.data }, { on := 16, ground := Ground.gcOnly Departure.lateStores }], guard := none }) (v := .int .i64 y) rfl (by kernel_rfl) (by kernel_rfl) (by kernel_rfl) (fun _ _ _ h => h) (Or.inl ⟨by rfl, ?_⟩) hHeld ?_
      · intro w hSw; (try dsimp only at hSw); obtain ⟨hz0, hz1⟩ := hSw; first | (go_simp; done) | (go_simp; with_reducible rfl) | (go_simp; exact hy)
      try simp only [Act.put, List.setIfInBounds_toArray, List.set_cons_zero, List.set_cons_succ]
      refine wpAnyH_take (i := 9) (oi := { dst := some 30, op := Op.indexAddr 36 (Operand.tmp 3) (Operand.const (Value.int IntKind.i64 0)), type := 0, pos := "law.go:111", after := #[{ on := 16, ground := Ground.gcOnly Departure.lateStores }], guard := none }) (v := .pointer (some ⟨C, 0, none⟩)) rfl (by kernel_rfl) (by kernel_rfl) (by kernel_rfl) (fun _ _ _ h => h) (Or.inl ⟨by rfl, ?_⟩) hHeld ?_
      · intro w hSw; (try dsimp only at hSw); obtain ⟨hz0, hz1⟩ := hSw; first | (go_simp; done) | (go_simp; with_reducible rfl) | (go_simp; exact hy)
      try simp only [Act.put, List.setIfInBounds_toArray, List.set_cons_zero, List.set_cons_succ]
      refine wpAnyH_take (i := 10) (oi := { dst := some 31, op := Op.load 3 (Operand.tmp 30), type := 3, pos := "law.go:111", after := #[{ on := 9, ground := Ground.data }, { on := 16, ground := Ground.gcOnly Departure.lateStores }], guard := none }) (v := .int .i64 o) rfl (by kernel_rfl) (by kernel_rfl) (by kernel_rfl) (fun _ _ _ h => h) (Or.inl ⟨by rfl, ?_⟩) hHeld ?_
      · intro w hSw; (try dsimp only at hSw); obtain ⟨hz0, hz1⟩ := hSw; first | (go_simp; done) | (go_simp; with_reducible rfl) | (go_simp; exact hy)
      try simp only [Act.put, List.setIfInBounds_toArray, List.set_cons_zero, List.set_cons_succ]
      refine wpAnyH_take (i := 11) (oi := { dst := some 32, op := Op.indexAddr 36 (Operand.tmp 3) (Operand.const (Value.int IntKind.i64 1)), type := 0, pos := "law.go:111", after := #[{ on := 16, ground := Ground.gcOnly Departure.lateStores }], guard := none }) (v := .pointer (some ⟨C, 1, none⟩)) rfl (by kernel_rfl) (by kernel_rfl) (by kernel_rfl) (fun _ _ _ h => h) (Or.inl ⟨by rfl, ?_⟩) hHeld ?_
      · intro w hSw; (try dsimp only at hSw); obtain ⟨hz0, hz1⟩ := hSw; first | (go_simp; done) | (go_simp; with_reducible rfl) | (go_simp; exact hy)
      try simp only [Act.put, List.setIfInBounds_toArray, List.set_cons_zero, List.set_cons_succ]
      refine wpAnyH_take (i := 12) (oi := { dst := some 33, op := Op.load 3 (Operand.tmp 32), type := 3, pos := "law.go:111", after := #[{ on := 11, ground := Ground.data }, { on := 16, ground := Ground.gcOnly Departure.lateStores }], guard := none }) (v := .int .i64 g) rfl (by kernel_rfl) (by kernel_rfl) (by kernel_rfl) (fun _ _ _ h => h) (Or.inl ⟨by rfl, ?_⟩) hHeld ?_
      · intro w hSw; (try dsimp only at hSw); obtain ⟨hz0, hz1⟩ := hSw; first | (go_simp; done) | (go_simp; with_reducible rfl) | (go_simp; exact hy)
      try simp only [Act.put, List.setIfInBounds_toArray, List.set_cons_zero, List.set_cons_succ]
      refine wpAnyH_take (i := 13) (oi := { dst := some 34, op := Op.build 28 #[(1, Operand.tmp 29), (3, Operand.tmp 31), (4, Operand.tmp 33)], type := 28, pos := "law.go:111", after := #[{ on := 8, ground := Ground.data }, { on := 10, ground := Ground.data }, { on := 12, ground := Ground.data }, { on := 16, ground := Ground.gcOnly Departure.lateStores }], guard := none }) (v := .agg #[.int .i64 0, .int .i64 y, .int .i64 0, .int .i64 o, .int .i64 g, .int .i64 0, .int .i64 0, .int .i64 0, .int .i64 0, .int .i64 0, .int .i64 0, .int .i64 0, .int .i64 0, .int .i64 0, .int .i64 0, .int .i64 0, .int .i64 0]) rfl (by kernel_rfl) (by kernel_rfl) (by kernel_rfl) (fun _ _ _ h => h) (Or.inl ⟨by rfl, ?_⟩) hHeld ?_
      · intro w hSw; (try dsimp only at hSw); obtain ⟨hz0, hz1⟩ := hSw; first | (go_simp; done) | (go_simp; with_reducible rfl) | (go_simp; exact hy)
      try simp only [Act.put, List.setIfInBounds_toArray, List.set_cons_zero, List.set_cons_succ]
      refine wpAnyH_ready (rs := [14, 15]) (by kernel_rfl) (by simp) ?_
      refine AllReadyH.cons (o := { dst := some 8, op := Op.alloc 28, type := 0, pos := "law.go:111", after := #[], guard := none }) rfl (fun K hK => ?_) ?_
      · go_simp
        refine hK.out _ _ ?_ (fun hHeld2 => ?_)
        · (try dsimp only); go_keep
        clear hK K
        try simp only [Act.put, List.setIfInBounds_toArray, List.set_cons_zero, List.set_cons_succ]
        refine wpAnyH_ready (rs := [15]) (by kernel_rfl) (by simp) ?_
        refine AllReadyH.cons (o := { dst := some 9, op := Op.alloc 28, type := 0, pos := "law.go:111", after := #[], guard := none }) rfl (fun K hK => ?_) AllReadyH.nil
        go_simp
        refine hK.out _ _ ?_ (fun hHeld3 => ?_)
        · (try dsimp only); go_keep
        clear hK K
        try simp only [Act.put, List.setIfInBounds_toArray, List.set_cons_zero, List.set_cons_succ]
        have hT := twoNew (w := w2) (.cells #[.int .i64 0, .int .i64 0, .int .i64 0, .int .i64 0, .int .i64 0, .int .i64 0, .int .i64 0, .int .i64 0, .int .i64 0, .int .i64 0, .int .i64 0, .int .i64 0, .int .i64 0, .int .i64 0, .int .i64 0, .int .i64 0, .int .i64 0] 28) (.cells #[.int .i64 0, .int .i64 0, .int .i64 0, .int .i64 0, .int .i64 0, .int .i64 0, .int .i64 0, .int .i64 0, .int .i64 0, .int .i64 0, .int .i64 0, .int .i64 0, .int .i64 0, .int .i64 0, .int .i64 0, .int .i64 0, .int .i64 0] 28)
        generalize ((w2.alloc (.cells #[.int .i64 0, .int .i64 0, .int .i64 0, .int .i64 0, .int .i64 0, .int .i64 0, .int .i64 0, .int .i64 0, .int .i64 0, .int .i64 0, .int .i64 0, .int .i64 0, .int .i64 0, .int .i64 0, .int .i64 0, .int .i64 0, .int .i64 0] 28)).alloc (.cells #[.int .i64 0, .int .i64 0, .int .i64 0, .int .i64 0, .int .i64 0, .int .i64 0, .int .i64 0, .int .i64 0, .int .i64 0, .int .i64 0, .int .i64 0, .int .i64 0, .int .i64 0, .int .i64 0, .int .i64 0, .int .i64 0, .int .i64 0] 28)).drew = W4 at hT hHeld3 ⊢
        clear hHeld hHeld2
        have hC4 : W4.heap[C]? = some (.cells #[.int .i64 o, .int .i64 g, .int .i64 u, .int .i64 v] 36 (0, 0)) := (hT.1.block C hCl').trans HC2.out
        have aA : AAt W4 w2.heap.size 0 0 0 0 0 0 0 0 0 0 0 0 0 0 0 0 0 := hT.2.1
        have aB : AAt W4 (w2.heap.size + 1) 0 0 0 0 0 0 0 0 0 0 0 0 0 0 0 0 0 := hT.2.2
        have hb4 := hT.1
        clear hT
        refine wpAnyH_ready (rs := [16]) (by kernel_rfl) (by simp) ?_
        refine AllReadyH.cons (o := { dst := none, op := Op.store 28 (Operand.tmp 8) (Operand.tmp 26), type := 0, pos := "law.go:111", after := #[{ on := 14, ground := Ground.data }, { on := 5, ground := Ground.data }, { on := 0, ground := Ground.phase }, { on := 1, ground := Ground.phase }, { on := 2, ground := Ground.phase }, { on := 3, ground := Ground.phase }, { on := 4, ground := Ground.phase }, { on := 5, ground := Ground.phase }, { on := 6, ground := Ground.textOnly Departure.lateStores }, { on := 7, ground := Ground.textOnly Departure.lateStores }, { on := 8, ground := Ground.textOnly Departure.lateStores }, { on := 9, ground := Ground.textOnly Departure.lateStores }, { on := 10, ground := Ground.textOnly Departure.lateStores }, { on := 11, ground := Ground.textOnly Departure.lateStores }, { on := 12, ground := Ground.textOnly Departure.lateStores }, { on := 13, ground := Ground.textOnly Departure.lateStores }, { on := 14, ground := Ground.phase }, { on := 15, ground := Ground.phase }], guard := none }) rfl (fun K hK => ?_) AllReadyH.nil
        rw [if_pos (by rfl)]
        refine store28_at w2.heap.size 0 x0 0 o g 0 0 0 0 0 0 0 0 0 0 0 0 0 0 0 0 0 0 0 0 0 0 0 0 0 0 0 0 0 aA _ _ rfl rfl rfl ?_
        have hC5 : (W4.setRow w2.heap.size #[.int .i64 0, .int .i64 x0, .int .i64 0, .int .i64 o, .int .i64 g, .int .i64 0, .int .i64 0, .int .i64 0, .int .i64 0, .int .i64 0, .int .i64 0, .int .i64 0, .int .i64 0, .int .i64 0, .int .i64 0, .int .i64 0, .int .i64 0]).heap[C]? = some (.cells #[.int .i64 o, .int .i64 g, .int .i64 u, .int .i64 v] 36 (0, 0)) := setRow_far hCn' hC4
        have aA5 := aA.set 0 x0 0 o g 0 0 0 0 0 0 0 0 0 0 0 0
        have aB5 : AAt (W4.setRow w2.heap.size #[.int .i64 0, .int .i64 x0, .int .i64 0, .int .i64 o, .int .i64 g, .int .i64 0, .int .i64 0, .int .i64 0, .int .i64 0, .int .i64 0, .int .i64 0, .int .i64 0, .int .i64 0, .int .i64 0, .int .i64 0, .int .i64 0, .int .i64 0]) (w2.heap.size + 1) 0 0 0 0 0 0 0 0 0 0 0 0 0 0 0 0 0 := setRow_far (by omega) aB
        have hb5 := below_setRow hb4 (Nat.le_refl _) #[.int .i64 0, .int .i64 x0, .int .i64 0, .int .i64 o, .int .i64 g, .int .i64 0, .int .i64 0, .int .i64 0, .int .i64 0, .int .i64 0, .int .i64 0, .int .i64 0, .int .i64 0, .int .i64 0, .int .i64 0, .int .i64 0, .int .i64 0]
        refine hK.out _ _ (sC hC5) (fun hHeld4 => ?_)
        clear hK K aA aB hb4 hC4 hHeld3
        generalize W4.setRow w2.heap.size #[.int .i64 0, .int .i64 x0, .int .i64 0, .int .i64 o, .int .i64 g, .int .i64 0, .int .i64 0, .int .i64 0, .int .i64 0, .int .i64 0, .int .i64 0, .int .i64 0, .int .i64 0, .int .i64 0, .int .i64 0, .int .i64 0, .int .i64 0] = W5 at *
        simp only [Act.put]
        refine wpAnyH_ready (rs := [17]) (by kernel_rfl) (by simp) ?_
        refine AllReadyH.cons (o := { dst := none, op := Op.store 28 (Operand.tmp 9) (Operand.tmp 34), type := 0, pos := "law.go:111", after := #[{ on := 15, ground := Ground.data }, { on := 13, ground := Ground.data }, { on := 16, ground := Ground.chain }, { on := 0, ground := Ground.phase }, { on := 1, ground := Ground.phase }, { on := 2, ground := Ground.phase }, { on := 3, ground := Ground.phase }, { on := 4, ground := Ground.phase }, { on := 5, ground := Ground.phase }, { on := 6, ground := Ground.phase }, { on := 7, ground := Ground.phase }, { on := 8, ground := Ground.phase }, { on := 9, ground := Ground.phase }, { on := 10, ground := Ground.phase }, { on := 11, ground := Ground.phase }, { on := 12, ground := Ground.phase }, { on := 13, ground := Ground.phase }, { on := 14, ground := Ground.phase }, { on := 15, ground := Ground.phase }, { on := 16, ground := Ground.phase }], guard := none }) rfl (fun K hK => ?_) AllReadyH.nil
        rw [if_pos (by rfl)]
        refine store28_at (w2.heap.size + 1) 0 y 0 o g 0 0 0 0 0 0 0 0 0 0 0 0 0 0 0 0 0 0 0 0 0 0 0 0 0 0 0 0 0 aB5 _ _ rfl rfl rfl ?_
        have hC6 : (W5.setRow (w2.heap.size + 1) #[.int .i64 0, .int .i64 y, .int .i64 0, .int .i64 o, .int .i64 g, .int .i64 0, .int .i64 0, .int .i64 0, .int .i64 0, .int .i64 0, .int .i64 0, .int .i64 0, .int .i64 0, .int .i64 0, .int .i64 0, .int .i64 0, .int .i64 0]).heap[C]? = some (.cells #[.int .i64 o, .int .i64 g, .int .i64 u, .int .i64 v] 36 (0, 0)) := setRow_far hCn1' hC5
        have aA6 : AAt (W5.setRow (w2.heap.size + 1) #[.int .i64 0, .int .i64 y, .int .i64 0, .int .i64 o, .int .i64 g, .int .i64 0, .int .i64 0, .int .i64 0, .int .i64 0, .int .i64 0, .int .i64 0, .int .i64 0, .int .i64 0, .int .i64 0, .int .i64 0, .int .i64 0, .int .i64 0]) w2.heap.size 0 x0 0 o g 0 0 0 0 0 0 0 0 0 0 0 0 := setRow_far (by omega) aA5
        have aB6 := aB5.set 0 y 0 o g 0 0 0 0 0 0 0 0 0 0 0 0
        have hb6 := below_setRow hb5 (Nat.le_succ _) #[.int .i64 0, .int .i64 y, .int .i64 0, .int .i64 o, .int .i64 g, .int .i64 0, .int .i64 0, .int .i64 0, .int .i64 0, .int .i64 0, .int .i64 0, .int .i64 0, .int .i64 0, .int .i64 0, .int .i64 0, .int .i64 0, .int .i64 0]
        refine hK.out _ _ (sC hC6) (fun hHeld5 => ?_)
        clear hK K aA5 aB5 hb5 hC5 hHeld4
        generalize W5.setRow (w2.heap.size + 1) #[.int .i64 0, .int .i64 y, .int .i64 0, .int .i64 o, .int .i64 g, .int .i64 0, .int .i64 0, .int .i64 0, .int .i64 0, .int .i64 0, .int .i64 0, .int .i64 0, .int .i64 0, .int .i64 0, .int .i64 0, .int .i64 0, .int .i64 0] = W6 at *
        simp only [Act.put]
        refine wpAnyH_done (by kernel_rfl) ?_ _
        refine NoPanic.normal ?_
        go_wp2
        go_meet
        exact ⟨w2.heap.size, (w2.heap.size + 1), rfl, rfl, hb6, aA6, aB6⟩
      refine AllReadyH.cons (o := { dst := some 9, op := Op.alloc 28, type := 0, pos := "law.go:111", after := #[], guard := none }) rfl (fun K hK => ?_) ?_
      · go_simp
        refine hK.out _ _ ?_ (fun hHeld2 => ?_)
        · (try dsimp only); go_keep
        clear hK K
        try simp only [Act.put, List.setIfInBounds_toArray, List.set_cons_zero, List.set_cons_succ]
        refine wpAnyH_ready (rs := [14]) (by kernel_rfl) (by simp) ?_
        refine AllReadyH.cons (o := { dst := some 8, op := Op.alloc 28, type := 0, pos := "law.go:111", after := #[], guard := none }) rfl (fun K hK => ?_) AllReadyH.nil
        go_simp
        refine hK.out _ _ ?_ (fun hHeld3 => ?_)
        · (try dsimp only); go_keep
        clear hK K
        try simp only [Act.put, List.setIfInBounds_toArray, List.set_cons_zero, List.set_cons_succ]
        have hT := twoNew (w := w2) (.cells #[.int .i64 0, .int .i64 0, .int .i64 0, .int .i64 0, .int .i64 0, .int .i64 0, .int .i64 0, .int .i64 0, .int .i64 0, .int .i64 0, .int .i64 0, .int .i64 0, .int .i64 0, .int .i64 0, .int .i64 0, .int .i64 0, .int .i64 0] 28) (.cells #[.int .i64 0, .int .i64 0, .int .i64 0, .int .i64 0, .int .i64 0, .int .i64 0, .int .i64 0, .int .i64 0, .int .i64 0, .int .i64 0, .int .i64 0, .int .i64 0, .int .i64 0, .int .i64 0, .int .i64 0, .int .i64 0, .int .i64 0] 28)
        generalize ((w2.alloc (.cells #[.int .i64 0, .int .i64 0, .int .i64 0, .int .i64 0, .int .i64 0, .int .i64 0, .int .i64 0, .int .i64 0, .int .i64 0, .int .i64 0, .int .i64 0, .int .i64 0, .int .i64 0, .int .i64 0, .int .i64 0, .int .i64 0, .int .i64 0] 28)).alloc (.cells #[.int .i64 0, .int .i64 0, .int .i64 0, .int .i64 0, .int .i64 0, .int .i64 0, .int .i64 0, .int .i64 0, .int .i64 0, .int .i64 0, .int .i64 0, .int .i64 0, .int .i64 0, .int .i64 0, .int .i64 0, .int .i64 0, .int .i64 0] 28)).drew = W4 at hT hHeld3 ⊢
        clear hHeld hHeld2
        have hC4 : W4.heap[C]? = some (.cells #[.int .i64 o, .int .i64 g, .int .i64 u, .int .i64 v] 36 (0, 0)) := (hT.1.block C hCl').trans HC2.out
        have aA : AAt W4 (w2.heap.size + 1) 0 0 0 0 0 0 0 0 0 0 0 0 0 0 0 0 0 := hT.2.2
        have aB : AAt W4 w2.heap.size 0 0 0 0 0 0 0 0 0 0 0 0 0 0 0 0 0 := hT.2.1
        have hb4 := hT.1
        clear hT
        refine wpAnyH_ready (rs := [16]) (by kernel_rfl) (by simp) ?_
        refine AllReadyH.cons (o := { dst := none, op := Op.store 28 (Operand.tmp 8) (Operand.tmp 26), type := 0, pos := "law.go:111", after := #[{ on := 14, ground := Ground.data }, { on := 5, ground := Ground.data }, { on := 0, ground := Ground.phase }, { on := 1, ground := Ground.phase }, { on := 2, ground := Ground.phase }, { on := 3, ground := Ground.phase }, { on := 4, ground := Ground.phase }, { on := 5, ground := Ground.phase }, { on := 6, ground := Ground.textOnly Departure.lateStores }, { on := 7, ground := Ground.textOnly Departure.lateStores }, { on := 8, ground := Ground.textOnly Departure.lateStores }, { on := 9, ground := Ground.textOnly Departure.lateStores }, { on := 10, ground := Ground.textOnly Departure.lateStores }, { on := 11, ground := Ground.textOnly Departure.lateStores }, { on := 12, ground := Ground.textOnly Departure.lateStores }, { on := 13, ground := Ground.textOnly Departure.lateStores }, { on := 14, ground := Ground.phase }, { on := 15, ground := Ground.phase }], guard := none }) rfl (fun K hK => ?_) AllReadyH.nil
        rw [if_pos (by rfl)]
        refine store28_at (w2.heap.size + 1) 0 x0 0 o g 0 0 0 0 0 0 0 0 0 0 0 0 0 0 0 0 0 0 0 0 0 0 0 0 0 0 0 0 0 aA _ _ rfl rfl rfl ?_
        have hC5 : (W4.setRow (w2.heap.size + 1) #[.int .i64 0, .int .i64 x0, .int .i64 0, .int .i64 o, .int .i64 g, .int .i64 0, .int .i64 0, .int .i64 0, .int .i64 0, .int .i64 0, .int .i64 0, .int .i64 0, .int .i64 0, .int .i64 0, .int .i64 0, .int .i64 0, .int .i64 0]).heap[C]? = some (.cells #[.int .i64 o, .int .i64 g, .int .i64 u, .int .i64 v] 36 (0, 0)) := setRow_far hCn1' hC4
        have aA5 := aA.set 0 x0 0 o g 0 0 0 0 0 0 0 0 0 0 0 0
        have aB5 : AAt (W4.setRow (w2.heap.size + 1) #[.int .i64 0, .int .i64 x0, .int .i64 0, .int .i64 o, .int .i64 g, .int .i64 0, .int .i64 0, .int .i64 0, .int .i64 0, .int .i64 0, .int .i64 0, .int .i64 0, .int .i64 0, .int .i64 0, .int .i64 0, .int .i64 0, .int .i64 0]) w2.heap.size 0 0 0 0 0 0 0 0 0 0 0 0 0 0 0 0 0 := setRow_far (by omega) aB
        have hb5 := below_setRow hb4 (Nat.le_succ _) #[.int .i64 0, .int .i64 x0, .int .i64 0, .int .i64 o, .int .i64 g, .int .i64 0, .int .i64 0, .int .i64 0, .int .i64 0, .int .i64 0, .int .i64 0, .int .i64 0, .int .i64 0, .int .i64 0, .int .i64 0, .int .i64 0, .int .i64 0]
        refine hK.out _ _ (sC hC5) (fun hHeld4 => ?_)
        clear hK K aA aB hb4 hC4 hHeld3
        generalize W4.setRow (w2.heap.size + 1) #[.int .i64 0, .int .i64 x0, .int .i64 0, .int .i64 o, .int .i64 g, .int .i64 0, .int .i64 0, .int .i64 0, .int .i64 0, .int .i64 0, .int .i64 0, .int .i64 0, .int .i64 0, .int .i64 0, .int .i64 0, .int .i64 0, .int .i64 0] = W5 at *
        simp only [Act.put]
        refine wpAnyH_ready (rs := [17]) (by kernel_rfl) (by simp) ?_
        refine AllReadyH.cons (o := { dst := none, op := Op.store 28 (Operand.tmp 9) (Operand.tmp 34), type := 0, pos := "law.go:111", after := #[{ on := 15, ground := Ground.data }, { on := 13, ground := Ground.data }, { on := 16, ground := Ground.chain }, { on := 0, ground := Ground.phase }, { on := 1, ground := Ground.phase }, { on := 2, ground := Ground.phase }, { on := 3, ground := Ground.phase }, { on := 4, ground := Ground.phase }, { on := 5, ground := Ground.phase }, { on := 6, ground := Ground.phase }, { on := 7, ground := Ground.phase }, { on := 8, ground := Ground.phase }, { on := 9, ground := Ground.phase }, { on := 10, ground := Ground.phase }, { on := 11, ground := Ground.phase }, { on := 12, ground := Ground.phase }, { on := 13, ground := Ground.phase }, { on := 14, ground := Ground.phase }, { on := 15, ground := Ground.phase }, { on := 16, ground := Ground.phase }], guard := none }) rfl (fun K hK => ?_) AllReadyH.nil
        rw [if_pos (by rfl)]
        refine store28_at w2.heap.size 0 y 0 o g 0 0 0 0 0 0 0 0 0 0 0 0 0 0 0 0 0 0 0 0 0 0 0 0 0 0 0 0 0 aB5 _ _ rfl rfl rfl ?_
        have hC6 : (W5.setRow w2.heap.size #[.int .i64 0, .int .i64 y, .int .i64 0, .int .i64 o, .int .i64 g, .int .i64 0, .int .i64 0, .int .i64 0, .int .i64 0, .int .i64 0, .int .i64 0, .int .i64 0, .int .i64 0, .int .i64 0, .int .i64 0, .int .i64 0, .int .i64 0]).heap[C]? = some (.cells #[.int .i64 o, .int .i64 g, .int .i64 u, .int .i64 v] 36 (0, 0)) := setRow_far hCn' hC5
        have aA6 : AAt (W5.setRow w2.heap.size #[.int .i64 0, .int .i64 y, .int .i64 0, .int .i64 o, .int .i64 g, .int .i64 0, .int .i64 0, .int .i64 0, .int .i64 0, .int .i64 0, .int .i64 0, .int .i64 0, .int .i64 0, .int .i64 0, .int .i64 0, .int .i64 0, .int .i64 0]) (w2.heap.size + 1) 0 x0 0 o g 0 0 0 0 0 0 0 0 0 0 0 0 := setRow_far (by omega) aA5
        have aB6 := aB5.set 0 y 0 o g 0 0 0 0 0 0 0 0 0 0 0 0
        have hb6 := below_setRow hb5 (Nat.le_refl _) #[.int .i64 0, .int .i64 y, .int .i64 0, .int .i64 o, .int .i64 g, .int .i64 0, .int .i64 0, .int .i64 0, .int .i64 0, .int .i64 0, .int .i64 0, .int .i64 0, .int .i64 0, .int .i64 0, .int .i64 0, .int .i64 0, .int .i64 0]
        refine hK.out _ _ (sC hC6) (fun hHeld5 => ?_)
        clear hK K aA5 aB5 hb5 hC5 hHeld4
        generalize W5.setRow w2.heap.size #[.int .i64 0, .int .i64 y, .int .i64 0, .int .i64 o, .int .i64 g, .int .i64 0, .int .i64 0, .int .i64 0, .int .i64 0, .int .i64 0, .int .i64 0, .int .i64 0, .int .i64 0, .int .i64 0, .int .i64 0, .int .i64 0, .int .i64 0] = W6 at *
        simp only [Act.put]
        refine wpAnyH_done (by kernel_rfl) ?_ _
        refine NoPanic.normal ?_
        go_wp2
        go_meet
        exact ⟨(w2.heap.size + 1), w2.heap.size, rfl, rfl, hb6, aA6, aB6⟩
      exact AllReadyH.nil
    case rest =>
      obtain ⟨A, B, rfl, rfl, hB3, hA, hB⟩ := hcut
      have hK : Kl w A B C x0 y o g u v wc := ⟨hA, hB, (hB3.block C hCl').trans HC2.out, lowK HA.out HB2.out hB3⟩
      have HK := Lib.hid hK
      clear hB3 hA hB hK HC2 HB2 hCl' hCn' hCn1' z0' z1'
      obtain ⟨tt, ht⟩ : ∃ tt, mayB x0 o g u v [] x2 = tt := ⟨_, rfl⟩
      obtain ⟨t0, ht0⟩ : ∃ tt, mayB x0 o g u v [] (bits .and .i64 x2 1) = tt := ⟨_, rfl⟩
      obtain ⟨t1, ht1⟩ : ∃ tt, mayB x0 o g u v [] (bits .and .i64 x2 2) = tt := ⟨_, rfl⟩
      obtain ⟨t2, ht2⟩ : ∃ tt, mayB x0 o g u v [] (bits .and .i64 x2 4) = tt := ⟨_, rfl⟩
      have HE : Hid (tt = (t0 && (t1 && t2))) := Lib.hid (by rw [← ht, ← ht0, ← ht1, ← ht2, may_each])
      have HO : Hid (tt = true → mayB y o g u v [] x2 = true) := Lib.hid (fun h => by rw [← hy]; exact may_or _ _ _ _ _ _ _ (ht.trans h))
      have HT := Lib.hid ht
      have HT0 := Lib.hid ht0
      have HT1 := Lib.hid ht1
      have HT2 := Lib.hid ht2
      clear ht ht0 ht1 ht2 hy HY
      obtain ⟨c0, c1, c2, c3, c4, c5, c6, c7, c8, c9, c10, c11, c12, c13, c14, c15, c16, z0, z1, z2, z3⟩ := (HK.out).cs
      go_wp2_with (first | refine load28_l rfl HK.out.a _ rfl rfl ?_ | refine load28 HK.out.a _ rfl rfl ?_; simp only [Act.put, List.setIfInBounds_toArray, List.set_cons_zero, List.set_cons_succ])
      refine (may_k x2 u v 0 x0 0 o g 0 0 0 0 0 0 0 0 0 0 0 0 HK.out tt HT.out).mono ?_
      rintro e w3 ⟨rfl, hK3⟩
      have HK3 := Lib.hid hK3
      clear hK3 HK c0 c1 c2 c3 c4 c5 c6 c7 c8 c9 c10 c11 c12 c13 c14 c15 c16 z0 z1 z2 z3
      go_wp2_with fail
      go_loopw [11, 12] (fun e i wr => Kl w A B C x0 y o g u v wr ∧ (e = .bool true ∧ i = .int .i64 0 ∨ e = .bool t0 ∧ i = .int .i64 1 ∨ e = .bool (t0 && t1) ∧ i = .int .i64 2 ∨ e = .bool (t0 && (t1 && t2)) ∧ i = .int .i64 3)) (fun _ i _ => 3 - (intOf i).toNat)
      case atStart => exact ⟨HK3.out, .inl ⟨rfl, rfl⟩⟩
      case round =>
        obtain ⟨hKr, hh⟩ := hrel
        have HKr := Lib.hid hKr
        clear hKr HK3
        rcases hh with ⟨rfl, rfl⟩ | ⟨rfl, rfl⟩ | ⟨rfl, rfl⟩ | ⟨rfl, rfl⟩
        · as_aux_lemma =>
            have hKd := HKr.out.drew
            obtain ⟨c0, c1, c2, c3, c4, c5, c6, c7, c8, c9, c10, c11, c12, c13, c14, c15, c16, z0, z1, z2, z3⟩ := (HKr.out).cs
            go_wp2_with fail
            go_region_held3 (fun w' => w'.cell? ⟨A, 0, none⟩ = some (.int .i64 0) ∧ w'.cell? ⟨A, 1, none⟩ = some (.int .i64 x0) ∧ w'.cell? ⟨A, 2, none⟩ = some (.int .i64 0) ∧ w'.cell? ⟨A, 3, none⟩ = some (.int .i64 o) ∧ w'.cell? ⟨A, 4, none⟩ = some (.int .i64 g) ∧ w'.cell? ⟨A, 5, none⟩ = some (.int .i64 0) ∧ w'.cell? ⟨A, 6, none⟩ = some (.int .i64 0) ∧ w'.cell? ⟨A, 7, none⟩ = some (.int .i64 0) ∧ w'.cell? ⟨A, 8, none⟩ = some (.int .i64 0) ∧ w'.cell? ⟨A, 9, none⟩ = some (.int .i64 0) ∧ w'.cell? ⟨A, 10, none⟩ = some (.int .i64 0) ∧ w'.cell? ⟨A, 11, none⟩ = some (.int .i64 0) ∧ w'.cell? ⟨A, 12, none⟩ = some (.int .i64 0) ∧ w'.cell? ⟨A, 13, none⟩ = some (.int .i64 0) ∧ w'.cell? ⟨A, 14, none⟩ = some (.int .i64 0) ∧ w'.cell? ⟨A, 15, none⟩ = some (.int .i64 0) ∧ w'.cell? ⟨A, 16, none⟩ = some (.int .i64 0) ∧ w'.cell? ⟨C, 0, none⟩ = some (.int .i64 o) ∧ w'.cell? ⟨C, 1, none⟩ = some (.int .i64 g) ∧ w'.cell? ⟨C, 2, none⟩ = some (.int .i64 u) ∧ w'.cell? ⟨C, 3, none⟩ = some (.int .i64 v)) (first | exact Kl.cs (by assumption) | exact Kl.cs (Kl.drew (by assumption))) (first | (go_at_call 17; refine (may_k _ u v 0 x0 0 o g 0 0 0 0 0 0 0 0 0 0 0 0 (by assumption) t0 HT0.out).mono ?_; rintro e w' ⟨rfl, hKn⟩))
            all_goals go_wp2
            all_goals refine ⟨⟨by first | assumption | exact Kl.drew (by assumption), ?_⟩, by simp [intOf]⟩
            all_goals exact .inr (.inl ⟨rfl, rfl⟩)
        · as_aux_lemma =>
            have hKd := HKr.out.drew
            cases t0 with
            | true =>
              obtain ⟨c0, c1, c2, c3, c4, c5, c6, c7, c8, c9, c10, c11, c12, c13, c14, c15, c16, z0, z1, z2, z3⟩ := (HKr.out).cs
              go_wp2_with fail
              go_region_held3 (fun w' => w'.cell? ⟨A, 0, none⟩ = some (.int .i64 0) ∧ w'.cell? ⟨A, 1, none⟩ = some (.int .i64 x0) ∧ w'.cell? ⟨A, 2, none⟩ = some (.int .i64 0) ∧ w'.cell? ⟨A, 3, none⟩ = some (.int .i64 o) ∧ w'.cell? ⟨A, 4, none⟩ = some (.int .i64 g) ∧ w'.cell? ⟨A, 5, none⟩ = some (.int .i64 0) ∧ w'.cell? ⟨A, 6, none⟩ = some (.int .i64 0) ∧ w'.cell? ⟨A, 7, none⟩ = some (.int .i64 0) ∧ w'.cell? ⟨A, 8, none⟩ = some (.int .i64 0) ∧ w'.cell? ⟨A, 9, none⟩ = some (.int .i64 0) ∧ w'.cell? ⟨A, 10, none⟩ = some (.int .i64 0) ∧ w'.cell? ⟨A, 11, none⟩ = some (.int .i64 0) ∧ w'.cell? ⟨A, 12, none⟩ = some (.int .i64 0) ∧ w'.cell? ⟨A, 13, none⟩ = some (.int .i64 0) ∧ w'.cell? ⟨A, 14, none⟩ = some (.int .i64 0) ∧ w'.cell? ⟨A, 15, none⟩ = some (.int .i64 0) ∧ w'.cell? ⟨A, 16, none⟩ = some (.int .i64 0) ∧ w'.cell? ⟨C, 0, none⟩ = some (.int .i64 o) ∧ w'.cell? ⟨C, 1, none⟩ = some (.int .i64 g) ∧ w'.cell? ⟨C, 2, none⟩ = some (.int .i64 u) ∧ w'.cell? ⟨C, 3, none⟩ = some (.int .i64 v)) (first | exact Kl.cs (by assumption) | exact Kl.cs (Kl.drew (by assumption))) (first | (go_at_call 17; refine (may_k _ u v 0 x0 0 o g 0 0 0 0 0 0 0 0 0 0 0 0 (by assumption) t1 HT1.out).mono ?_; rintro e w' ⟨rfl, hKn⟩))
              all_goals go_wp2
              all_goals refine ⟨⟨by first | assumption | exact Kl.drew (by assumption), ?_⟩, by simp [intOf]⟩
              all_goals exact .inr (.inr (.inl ⟨rfl, rfl⟩))
            | false =>
              clear hKd
              obtain ⟨c0, c1, c2, c3, c4, c5, c6, c7, c8, c9, c10, c11, c12, c13, c14, c15, c16, z0, z1, z2, z3⟩ := (HKr.out).cs
              go_wp2_with fail
              go_quiet (fail)
              go_wp2
              exact ⟨⟨⟨HKr.out.a, HKr.out.b, HKr.out.c, below_drewN HKr.out.low _⟩, .inr (.inr (.inl ⟨rfl, rfl⟩))⟩, by simp [intOf]⟩
        · as_aux_lemma =>
            have hKd := HKr.out.drew
            cases t0 with
            | true =>
              cases t1 with
              | true =>
                rw [show (true && true) = true from rfl]
                obtain ⟨c0, c1, c2, c3, c4, c5, c6, c7, c8, c9, c10, c11, c12, c13, c14, c15, c16, z0, z1, z2, z3⟩ := (HKr.out).cs
                go_wp2_with fail
                go_region_held3 (fun w' => w'.cell? ⟨A, 0, none⟩ = some (.int .i64 0) ∧ w'.cell? ⟨A, 1, none⟩ = some (.int .i64 x0) ∧ w'.cell? ⟨A, 2, none⟩ = some (.int .i64 0) ∧ w'.cell? ⟨A, 3, none⟩ = some (.int .i64 o) ∧ w'.cell? ⟨A, 4, none⟩ = some (.int .i64 g) ∧ w'.cell? ⟨A, 5, none⟩ = some (.int .i64 0) ∧ w'.cell? ⟨A, 6, none⟩ = some (.int .i64 0) ∧ w'.cell? ⟨A, 7, none⟩ = some (.int .i64 0) ∧ w'.cell? ⟨A, 8, none⟩ = some (.int .i64 0) ∧ w'.cell? ⟨A, 9, none⟩ = some (.int .i64 0) ∧ w'.cell? ⟨A, 10, none⟩ = some (.int .i64 0) ∧ w'.cell? ⟨A, 11, none⟩ = some (.int .i64 0) ∧ w'.cell? ⟨A, 12, none⟩ = some (.int .i64 0) ∧ w'.cell? ⟨A, 13, none⟩ = some (.int .i64 0) ∧ w'.cell? ⟨A, 14, none⟩ = some (.int .i64 0) ∧ w'.cell? ⟨A, 15, none⟩ = some (.int .i64 0) ∧ w'.cell? ⟨A, 16, none⟩ = some (.int .i64 0) ∧ w'.cell? ⟨C, 0, none⟩ = some (.int .i64 o) ∧ w'.cell? ⟨C, 1, none⟩ = some (.int .i64 g) ∧ w'.cell? ⟨C, 2, none⟩ = some (.int .i64 u) ∧ w'.cell? ⟨C, 3, none⟩ = some (.int .i64 v)) (first | exact Kl.cs (by assumption) | exact Kl.cs (Kl.drew (by assumption))) (first | (go_at_call 17; refine (may_k _ u v 0 x0 0 o g 0 0 0 0 0 0 0 0 0 0 0 0 (by assumption) t2 HT2.out).mono ?_; rintro e w' ⟨rfl, hKn⟩))
                all_goals go_wp2
                all_goals refine ⟨⟨by first | assumption | exact Kl.drew (by assumption), ?_⟩, by simp [intOf]⟩
                all_goals exact .inr (.inr (.inr ⟨rfl, rfl⟩))
              | false =>
                clear hKd
                rw [show (true && false) = false from rfl]
                obtain ⟨c0, c1, c2, c3, c4, c5, c6, c7, c8, c9, c10, c11, c12, c13, c14, c15, c16, z0, z1, z2, z3⟩ := (HKr.out).cs
                go_wp2_with fail
                go_quiet (fail)
                go_wp2
                exact ⟨⟨⟨HKr.out.a, HKr.out.b, HKr.out.c, below_drewN HKr.out.low _⟩, .inr (.inr (.inr ⟨rfl, rfl⟩))⟩, by simp [intOf]⟩
            | false =>
              clear hKd
              rw [show (false && t1) = false from rfl]
              obtain ⟨c0, c1, c2, c3, c4, c5, c6, c7, c8, c9, c10, c11, c12, c13, c14, c15, c16, z0, z1, z2, z3⟩ := (HKr.out).cs
              go_wp2_with fail
              go_quiet (fail)
              go_wp2
              exact ⟨⟨⟨HKr.out.a, HKr.out.b, HKr.out.c, below_drewN HKr.out.low _⟩, .inr (.inr (.inr ⟨rfl, rfl⟩))⟩, by simp [intOf]⟩
        · as_aux_lemma =>
            rw [← HE.out]
            clear HT0 HT1 HT2 HE
            cases tt with
            | true =>
              have HO2 := Lib.hid (HO.out rfl)
              obtain ⟨c0, c1, c2, c3, c4, c5, c6, c7, c8, c9, c10, c11, c12, c13, c14, c15, c16, z0, z1, z2, z3⟩ := (HKr.out).cs
              go_wp2_with (refine load28g HKr.out.b (.tmp 9) (by rfl) (by rfl) (by rfl) ?_; simp only [Act.put, List.setIfInBounds_toArray, List.set_cons_zero, List.set_cons_succ])
              refine (may_k x2 u v 0 y 0 o g 0 0 0 0 0 0 0 0 0 0 0 0 HKr.out true HO2.out).mono ?_
              rintro e w4 ⟨rfl, hK4⟩
              have HK4 := Lib.hid hK4
              clear hK4 HKr c0 c1 c2 c3 c4 c5 c6 c7 c8 c9 c10 c11 c12 c13 c14 c15 c16 z0 z1 z2 z3
              obtain ⟨c0, c1, c2, c3, c4, c5, c6, c7, c8, c9, c10, c11, c12, c13, c14, c15, c16, z0, z1, z2, z3⟩ := (HK4.out).cs
              go_wp2_with (refine load28g HK4.out.a (.tmp 8) (by rfl) (by rfl) (by rfl) ?_; simp only [Act.put, List.setIfInBounds_toArray, List.set_cons_zero, List.set_cons_succ])
              refine (may_k x2 0 v 0 x0 0 o g 0 0 0 0 0 0 0 0 0 0 0 0 HK4.out true (may_zero _ _ _ _ _)).mono ?_
              rintro e w5 ⟨rfl, hK5⟩
              have HK5 := Lib.hid hK5
              clear hK5 HK4 c0 c1 c2 c3 c4 c5 c6 c7 c8 c9 c10 c11 c12 c13 c14 c15 c16 z0 z1 z2 z3
              obtain ⟨c0, c1, c2, c3, c4, c5, c6, c7, c8, c9, c10, c11, c12, c13, c14, c15, c16, z0, z1, z2, z3⟩ := (HK5.out).cs
              go_wp2_with (refine load28g HK5.out.a (.tmp 8) (by rfl) (by rfl) (by rfl) ?_; simp only [Act.put, List.setIfInBounds_toArray, List.set_cons_zero, List.set_cons_succ])
              refine (may_k 0 u v 0 x0 0 o g 0 0 0 0 0 0 0 0 0 0 0 0 HK5.out true (may_none _ _ _ _ _)).mono ?_
              rintro e w6 ⟨rfl, hK6⟩
              have HK6 := Lib.hid hK6
              clear hK6 HK5 c0 c1 c2 c3 c4 c5 c6 c7 c8 c9 c10 c11 c12 c13 c14 c15 c16 z0 z1 z2 z3
              go_wp2
              go_ret
              exact ⟨rfl, HK6.out.low⟩
            | false =>
              obtain ⟨c0, c1, c2, c3, c4, c5, c6, c7, c8, c9, c10, c11, c12, c13, c14, c15, c16, z0, z1, z2, z3⟩ := (HKr.out).cs
              go_wp2_with fail
              refine (may_k x2 0 v 0 x0 0 o g 0 0 0 0 0 0 0 0 0 0 0 0 HKr.out true (may_zero _ _ _ _ _)).mono ?_
              rintro e w5 ⟨rfl, hK5⟩
              have HK5 := Lib.hid hK5
              clear hK5 HKr c0 c1 c2 c3 c4 c5 c6 c7 c8 c9 c10 c11 c12 c13 c14 c15 c16 z0 z1 z2 z3
              obtain ⟨c0, c1, c2, c3, c4, c5, c6, c7, c8, c9, c10, c11, c12, c13, c14, c15, c16, z0, z1, z2, z3⟩ := (HK5.out).cs
              go_wp2_with (refine load28g HK5.out.a (.tmp 8) (by rfl) (by rfl) (by rfl) ?_; simp only [Act.put, List.setIfInBounds_toArray, List.set_cons_zero, List.set_cons_succ])
              refine (may_k 0 u v 0 x0 0 o g 0 0 0 0 0 0 0 0 0 0 0 0 HK5.out true (may_none _ _ _ _ _)).mono ?_
              rintro e w6 ⟨rfl, hK6⟩
              have HK6 := Lib.hid hK6
              clear hK6 HK5 c0 c1 c2 c3 c4 c5 c6 c7 c8 c9 c10 c11 c12 c13 c14 c15 c16 z0 z1 z2 z3
              go_wp2
              go_ret
              exact ⟨rfl, HK6.out.low⟩
end Go.Proofs.Ytedcgmagkkoggaa
