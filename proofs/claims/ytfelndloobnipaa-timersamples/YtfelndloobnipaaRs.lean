/-
  The document's Sample and Wait. Their conditions: the sample's word fits into 64 bits; what was learned are rungs no greater than infinity.
-/
import Derived.Test.YtfelndloobnipaaDeafW
namespace Go.Proofs.Ytfelndloobnipaa
open Go.RowKit Ieee

def cells29 (s : St) : Array Value := match s with
  | none => #[.float .f64 0, .float .f64 0, .bool false]
  | some (m, v) => #[.float .f64 m, .float .f64 v, .bool true]
def RAt (w : World) (q : Nat) (s : St) : Prop := w.heap[q]? = some (.cells (cells29 s) 29 (0, 0))
theorem three_cells {w : World} {p T : Nat} {x y z : Value} (h : w.heap[p]? = some (.cells #[x, y, z] T (0, 0))) : w.cell? ⟨p, 0, none⟩ = some x ∧ w.cell? ⟨p, 1, none⟩ = some y ∧ w.cell? ⟨p, 2, none⟩ = some z ∧ w.frozen? ⟨p, 0, none⟩ = false ∧ w.frozen? ⟨p, 1, none⟩ = false ∧ w.frozen? ⟨p, 2, none⟩ = false := by
  refine ⟨?_, ?_, ?_, Lib.frozen_of_heap h _, Lib.frozen_of_heap h _, Lib.frozen_of_heap h _⟩
  · rw [cell_of_row w p 0 _ _ _ h]; rfl
  · rw [cell_of_row w p 1 _ _ _ h]; rfl
  · rw [cell_of_row w p 2 _ _ _ h]; rfl
theorem three_set0 {w : World} {p T : Nat} {x y z : Value} (h : w.heap[p]? = some (.cells #[x, y, z] T (0, 0))) (u : Value) : (w.setCell ⟨p, 0, none⟩ u).heap[p]? = some (.cells #[u, y, z] T (0, 0)) := by
  simp [World.setCell, Array.getElem?_modify, h]
theorem three_set1 {w : World} {p T : Nat} {x y z : Value} (h : w.heap[p]? = some (.cells #[x, y, z] T (0, 0))) (u : Value) : (w.setCell ⟨p, 1, none⟩ u).heap[p]? = some (.cells #[x, u, z] T (0, 0)) := by
  simp [World.setCell, Array.getElem?_modify, h]
theorem three_set2 {w : World} {p T : Nat} {x y z : Value} (h : w.heap[p]? = some (.cells #[x, y, z] T (0, 0))) (u : Value) : (w.setCell ⟨p, 2, none⟩ u).heap[p]? = some (.cells #[x, y, u] T (0, 0)) := by
  simp [World.setCell, Array.getElem?_modify, h]
theorem and_mask_u (x : Nat) (hx : x < 18446744073709551616) : bits .and .u64 ((x : Int) / 4503599627370496) 2047 = ((x / 4503599627370496 % 2048 : Nat) : Int) := by
  have := u64_and_nat (x / 4503599627370496) 2047 (by omega) (by decide)
  rw [show ((x / 4503599627370496 : Nat) : Int) = (x : Int) / 4503599627370496 from by omega, show ((2047 : Nat) : Int) = 2047 from rfl] at this
  rw [this, nat_mask11]
theorem u64_wrap2 (x : Nat) (_ : x < 18446744073709551616) : IntKind.u64.wrap ((x : Int) * 2) = ((2 * (x % 9223372036854775808) : Nat) : Int) := by
  rw [IntKind.wrap_u64]; omega
theorem rsample_no (w : World) (q x : Nat) (hx : x < 18446744073709551616) (ha : acc x = false) : Calls Try.prog 10 #[.pointer (some ⟨q, 0, none⟩), .int .u64 (x : Int)] w fun e w' => e = .returned (.bool false) ∧ w = w' := by
  have hE := and_mask_u x hx
  have hY := u64_wrap2 x hx
  have ha := of_decide_eq_false ha
  unfold INF at ha
  by_cases h1 : x / 4503599627370496 % 2048 = 2047
  · rw [h1] at hE
    clear hY ha h1
    go_enter Try.func10, Try.ntmps10
    go_wp2
    go_ret
    exact ⟨rfl, rfl⟩
  · have h2 : (x : Int) / 9223372036854775808 = 1 := by omega
    have h3 : ¬ ((2 * (x % 9223372036854775808) : Nat) : Int) = 0 := by omega
    have h1 : ¬ ((x / 4503599627370496 % 2048 : Nat) : Int) = 2047 := by omega
    generalize ((2 * (x % 9223372036854775808) : Nat) : Int) = Y at *
    generalize ((x / 4503599627370496 % 2048 : Nat) : Int) = E at *
    have h4 : (Y != 0) = true := by simp [h3]
    clear ha
    go_enter Try.func10, Try.ntmps10
    go_wp2
    go_ret
    exact ⟨rfl, rfl⟩
theorem acc_tests {x : Nat} (hx : x < 18446744073709551616) (ha : acc x = true) : ∃ E Y : Int, bits .and .u64 ((x : Int) / 4503599627370496) 2047 = E ∧ ¬ E = 2047 ∧ IntKind.u64.wrap ((x : Int) * 2) = Y ∧ Y / 2 = ((x % 9223372036854775808 : Nat) : Int) ∧ ((x : Int) / 9223372036854775808 = 1 ∧ Y = 0 ∨ ¬ (x : Int) / 9223372036854775808 = 1) := by
  have h := of_decide_eq_true ha
  unfold INF at h
  refine ⟨_, _, and_mask_u x hx, by omega, u64_wrap2 x hx, by omega, ?_⟩
  omega
@[go_sem] theorem unary_negf (b : Nat) : Op.unary .neg (.float .f64 b) = pure (.float .f64 (Op.negFloat .f64 b)) := rfl
theorem neg_word (t : Nat) (h : 9223372036854775808 < t) (h' : t < 18446744073709551616) : Op.negFloat .f64 t = t % 9223372036854775808 := by
  unfold Op.negFloat
  show t ^^^ 2 ^ 63 = _
  have : t = 2 ^ 63 ||| t % 2 ^ 63 := by
    rw [nat_join 63 (2 ^ 63) (t % 2 ^ 63) (by decide) (by omega)]; omega
  have h5 : (t ^^^ 2 ^ 63) = t % 2 ^ 63 := by
    apply Nat.eq_of_testBit_eq
    intro i
    rw [Nat.testBit_xor, Nat.testBit_mod_two_pow]
    by_cases hi : i = 63
    · subst hi
      rw [show t.testBit 63 = true from by rw [this, Nat.testBit_or, Nat.testBit_two_pow_self]; rfl, Nat.testBit_two_pow_self]
      simp
    · rw [Nat.testBit_two_pow_of_ne (fun e => hi e.symm)]
      by_cases hlt : i < 63
      · simp [hlt]
      · have : t.testBit i = false := Nat.testBit_lt_two_pow (Nat.lt_of_lt_of_le h' (by rw [show (18446744073709551616 : Nat) = 2 ^ 64 from rfl]; exact Nat.pow_le_pow_right (by decide) (by omega)))
        simp [this, hlt]
  rw [h5]
set_option maxHeartbeats 1000000 in
theorem rsample_first (w : World) (q x : Nat) (hx : x < 18446744073709551616) (ha : acc x = true) (h : RAt w q none) : Calls Try.prog 10 #[.pointer (some ⟨q, 0, none⟩), .int .u64 (x : Int)] w fun e w' => e = .returned (.bool true) ∧ RAt w' q (some (nxt none (x % 9223372036854775808))) ∧ Only q w w' := by
  obtain ⟨E, Y, hE, hE1, hY, hY2, hor⟩ := acc_tests hx ha
  obtain ⟨hq, h1, _⟩ := nxt_none _ (acc_lt ha)
  have h : w.heap[q]? = some (.cells #[.float .f64 0, .float .f64 0, .bool false] 29 (0, 0)) := h
  obtain ⟨c0, c1, c2, f0, f1, f2⟩ := three_cells h
  have HH := Lib.hid h
  clear h
  show Calls Try.prog 10 _ w fun e w' => e = .returned (.bool true) ∧ w'.heap[q]? = some (.cells #[.float .f64 (nxt none (x % 9223372036854775808)).1, .float .f64 (nxt none (x % 9223372036854775808)).2, .bool true] 29 (0, 0)) ∧ Only q w w'
  rw [h1]
  have e1 := fun W T => run_float_arith (P := Try.prog) W .quo T .f64 _ _ _ hq
  generalize (nxt none (x % 9223372036854775808)).2 = v at *
  have HA := Lib.hid ha
  generalize x % 9223372036854775808 = d at *
  have hdd : ((d : Int)).toNat = d := Int.toNat_natCast d
  clear hq h1 ha
  rcases hor with ⟨hs, hy⟩ | hs
  · have hy' : (Y != 0) = false := by simp [hy]
    have HY := Lib.hid hy
    clear hy
    go_enter Try.func10, Try.ntmps10
    go_wp2
    go_ret
    exact ⟨rfl, three_set1 (three_set0 (three_set2 HH.out _) _) _, (((Only.refl q w).set 2 _).set 0 _).set 1 _⟩
  · go_enter Try.func10, Try.ntmps10
    go_wp2
    go_ret
    exact ⟨rfl, three_set1 (three_set0 (three_set2 HH.out _) _) _, (((Only.refl q w).set 2 _).set 0 _).set 1 _⟩
set_option maxHeartbeats 1000000 in
theorem rsample_more (w : World) (q x m v : Nat) (hx : x < 18446744073709551616) (ha : acc x = true) (hs0 : Okay (some (m, v))) (h : RAt w q (some (m, v))) : Calls Try.prog 10 #[.pointer (some ⟨q, 0, none⟩), .int .u64 (x : Int)] w fun e w' => e = .returned (.bool true) ∧ RAt w' q (some (nxt (some (m, v)) (x % 9223372036854775808))) ∧ Only q w w' := by
  obtain ⟨E, Y, hE, hE1, hY, hY2, hor⟩ := acc_tests hx ha
  obtain ⟨t, a, b, c, e, k1, k2, k3, k4, k5, k6, k7, k8, k9, _⟩ := nxt_num m v _ hs0.1 hs0.2 (acc_lt ha)
  have h : w.heap[q]? = some (.cells #[.float .f64 m, .float .f64 v, .bool true] 29 (0, 0)) := h
  obtain ⟨c0, c1, c2, f0, f1, f2⟩ := three_cells h
  have HH := Lib.hid h
  clear h
  show Calls Try.prog 10 _ w fun e w' => e = .returned (.bool true) ∧ w'.heap[q]? = some (.cells #[.float .f64 (nxt (some (m, v)) (x % 9223372036854775808)).1, .float .f64 (nxt (some (m, v)) (x % 9223372036854775808)).2, .bool true] 29 (0, 0)) ∧ Only q w w'
  have ht : t < 18446744073709551616 := by unfold INF at k2; omega
  have hn : nan t = false := decide_eq_false (by unfold INF at k2; omega)
  have hlt := lt_zero t ht hn
  have hneg : 9223372036854775808 < t → Op.negFloat .f64 t = t % 9223372036854775808 := fun h => neg_word t h ht
  rw [k3] at k5
  have hsame : ¬ 9223372036854775808 < t → t % 9223372036854775808 = t := fun h => Nat.mod_eq_of_lt (by unfold INF at k2; omega)
  generalize (nxt (some (m, v)) (x % 9223372036854775808)).1 = m' at *
  generalize (nxt (some (m, v)) (x % 9223372036854775808)).2 = v' at *
  have HA := Lib.hid ha
  generalize x % 9223372036854775808 = d at *
  have hdd : ((d : Int)).toNat = d := Int.toNat_natCast d
  have e1 := fun W T => run_float_arith (P := Try.prog) W .sub T .f64 _ _ _ k1
  have e2 := fun W T => run_float_arith (P := Try.prog) W .mul T .f64 _ _ _ k4
  have e3 := fun W T => run_float_arith (P := Try.prog) W .mul T .f64 _ _ _ k5
  have e4 := fun W T => run_float_arith (P := Try.prog) W .add T .f64 _ _ _ k6
  have e5 := fun W T => run_float_arith (P := Try.prog) W .mul T .f64 _ _ _ k7
  have e6 := fun W T => run_float_arith (P := Try.prog) W .mul T .f64 _ _ _ k8
  have e7 := fun W T => run_float_arith (P := Try.prog) W .add T .f64 _ _ _ k9
  clear k1 k2 k3 k4 k5 k6 k7 k8 k9 ha hs0 hn
  by_cases hb : 9223372036854775808 < t
  · rw [decide_eq_true hb] at hlt
    have hneg := hneg hb
    generalize t % 9223372036854775808 = f at *
    clear hb hsame
    rcases hor with ⟨hs, hy⟩ | hs
    · have hy' : (Y != 0) = false := by simp [hy]
      have HY := Lib.hid hy
      clear hy
      go_enter Try.func10, Try.ntmps10
      go_wp2
      go_ret
      exact ⟨rfl, three_set0 (three_set1 HH.out _) _, ((Only.refl q w).set 1 _).set 0 _⟩
    · go_enter Try.func10, Try.ntmps10
      go_wp2
      go_ret
      exact ⟨rfl, three_set0 (three_set1 HH.out _) _, ((Only.refl q w).set 1 _).set 0 _⟩
  · rw [decide_eq_false hb] at hlt
    rw [hsame hb] at e3
    clear hb hsame hneg
    rcases hor with ⟨hs, hy⟩ | hs
    · have hy' : (Y != 0) = false := by simp [hy]
      have HY := Lib.hid hy
      clear hy
      go_enter Try.func10, Try.ntmps10
      go_wp2
      go_ret
      exact ⟨rfl, three_set0 (three_set1 HH.out _) _, ((Only.refl q w).set 1 _).set 0 _⟩
    · go_enter Try.func10, Try.ntmps10
      go_wp2
      go_ret
      exact ⟨rfl, three_set0 (three_set1 HH.out _) _, ((Only.refl q w).set 1 _).set 0 _⟩
/-- The document's Sample, WHATEVER COMES. -/
theorem rsample_any (w : World) (q x : Nat) (s : St) (hx : x < 18446744073709551616) (hs : Okay s) (h : RAt w q s) : Calls Try.prog 10 #[.pointer (some ⟨q, 0, none⟩), .int .u64 (x : Int)] w fun e w' => e = .returned (.bool (acc x)) ∧ RAt w' q (smp s x) ∧ Only q w w' := by
  cases ha : acc x with
  | false =>
    refine (rsample_no w q x hx ha).mono fun e w' ⟨h1, h2⟩ => ⟨h1, ?_, ?_⟩
    · subst h2; unfold smp; rw [ha]; exact h
    · subst h2; exact Only.refl q w
  | true =>
    have e : smp s x = some (nxt s (x % 9223372036854775808)) := by unfold smp; rw [ha]; rfl
    rw [e]
    cases s with
    | none => exact rsample_first w q x hx ha h
    | some mv => exact rsample_more w q x mv.1 mv.2 hx ha hs h
end Go.Proofs.Ytfelndloobnipaa
