/-
  The document's Of, told. No condition.
-/
import Derived.Test.YtdnleeklgacngaaDoorOf
import Derived.Deep.QuietTactic
import Derived.BigQuiet
import Derived.WalkSmall
namespace Go.Proofs.YtdnleeklgacngaaDoor
open Go.RowKit
theorem bs_append (a b : List UInt8) : bs (a ++ b) = bs a ++ bs b := by
  apply ByteArray.ext; simp [bs]
theorem bs_size (l : List UInt8) : (bs l).size = l.length := by simp [bs, ByteArray.size]
def tri (t : List UInt8 × List UInt8 × List UInt8) : Value := .tuple #[.string (bs t.1), .string (bs t.2.1), .string (bs t.2.2)]
set_option maxRecDepth 100000 in
theorem rnfs_1 (w : World) : Calls Tryd.prog 11 #[.int .i64 1] w fun e w' => e = .returned (tri (xyz.getD 0 ([], [], []))) ∧ w' = w := by
  go_enter Tryd.func11, Tryd.ntmps11
  go_wp2
  go_ret3
  exact ⟨rfl, rfl⟩
set_option maxRecDepth 100000 in
theorem rnfs_2 (w : World) : Calls Tryd.prog 11 #[.int .i64 2] w fun e w' => e = .returned (tri (xyz.getD 1 ([], [], []))) ∧ w' = w := by
  go_enter Tryd.func11, Tryd.ntmps11
  go_wp2
  go_ret3
  exact ⟨rfl, rfl⟩
set_option maxRecDepth 100000 in
theorem rnfs_3 (w : World) : Calls Tryd.prog 11 #[.int .i64 3] w fun e w' => e = .returned (tri (xyz.getD 2 ([], [], []))) ∧ w' = w := by
  go_enter Tryd.func11, Tryd.ntmps11
  go_wp2
  go_ret3
  exact ⟨rfl, rfl⟩
set_option maxRecDepth 100000 in
theorem rnfs_4 (w : World) : Calls Tryd.prog 11 #[.int .i64 4] w fun e w' => e = .returned (tri (xyz.getD 3 ([], [], []))) ∧ w' = w := by
  go_enter Tryd.func11, Tryd.ntmps11
  go_wp2
  go_ret3
  exact ⟨rfl, rfl⟩
set_option maxRecDepth 100000 in
theorem rnfs_5 (w : World) : Calls Tryd.prog 11 #[.int .i64 5] w fun e w' => e = .returned (tri (xyz.getD 4 ([], [], []))) ∧ w' = w := by
  go_enter Tryd.func11, Tryd.ntmps11
  go_wp2
  go_ret3
  exact ⟨rfl, rfl⟩
set_option maxRecDepth 100000 in
theorem rnfs_6 (w : World) : Calls Tryd.prog 11 #[.int .i64 6] w fun e w' => e = .returned (tri (xyz.getD 5 ([], [], []))) ∧ w' = w := by
  go_enter Tryd.func11, Tryd.ntmps11
  go_wp2
  go_ret3
  exact ⟨rfl, rfl⟩
set_option maxRecDepth 100000 in
theorem rnfs_7 (w : World) : Calls Tryd.prog 11 #[.int .i64 7] w fun e w' => e = .returned (tri (xyz.getD 6 ([], [], []))) ∧ w' = w := by
  go_enter Tryd.func11, Tryd.ntmps11
  go_wp2
  go_ret3
  exact ⟨rfl, rfl⟩
set_option maxRecDepth 100000 in
theorem rnfs_8 (w : World) : Calls Tryd.prog 11 #[.int .i64 8] w fun e w' => e = .returned (tri (xyz.getD 7 ([], [], []))) ∧ w' = w := by
  go_enter Tryd.func11, Tryd.ntmps11
  go_wp2
  go_ret3
  exact ⟨rfl, rfl⟩
set_option maxRecDepth 100000 in
theorem rnfs_9 (w : World) : Calls Tryd.prog 11 #[.int .i64 9] w fun e w' => e = .returned (tri (xyz.getD 8 ([], [], []))) ∧ w' = w := by
  go_enter Tryd.func11, Tryd.ntmps11
  go_wp2
  go_ret3
  exact ⟨rfl, rfl⟩
set_option maxRecDepth 100000 in
theorem rnfs_10 (w : World) : Calls Tryd.prog 11 #[.int .i64 10] w fun e w' => e = .returned (tri (xyz.getD 9 ([], [], []))) ∧ w' = w := by
  go_enter Tryd.func11, Tryd.ntmps11
  go_wp2
  go_ret3
  exact ⟨rfl, rfl⟩
set_option maxRecDepth 100000 in
theorem rnfs_11 (w : World) : Calls Tryd.prog 11 #[.int .i64 11] w fun e w' => e = .returned (tri (xyz.getD 10 ([], [], []))) ∧ w' = w := by
  go_enter Tryd.func11, Tryd.ntmps11
  go_wp2
  go_ret3
  exact ⟨rfl, rfl⟩
set_option maxRecDepth 100000 in
theorem rnfs_12 (w : World) : Calls Tryd.prog 11 #[.int .i64 12] w fun e w' => e = .returned (tri (xyz.getD 11 ([], [], []))) ∧ w' = w := by
  go_enter Tryd.func11, Tryd.ntmps11
  go_wp2
  go_ret3
  exact ⟨rfl, rfl⟩
set_option maxRecDepth 100000 in
theorem rnfs_13 (w : World) : Calls Tryd.prog 11 #[.int .i64 13] w fun e w' => e = .returned (tri (xyz.getD 12 ([], [], []))) ∧ w' = w := by
  go_enter Tryd.func11, Tryd.ntmps11
  go_wp2
  go_ret3
  exact ⟨rfl, rfl⟩
set_option maxRecDepth 100000 in
theorem rnfs_14 (w : World) : Calls Tryd.prog 11 #[.int .i64 14] w fun e w' => e = .returned (tri (xyz.getD 13 ([], [], []))) ∧ w' = w := by
  go_enter Tryd.func11, Tryd.ntmps11
  go_wp2
  go_ret3
  exact ⟨rfl, rfl⟩
set_option maxRecDepth 100000 in
theorem rnfs_15 (w : World) : Calls Tryd.prog 11 #[.int .i64 15] w fun e w' => e = .returned (tri (xyz.getD 14 ([], [], []))) ∧ w' = w := by
  go_enter Tryd.func11, Tryd.ntmps11
  go_wp2
  go_ret3
  exact ⟨rfl, rfl⟩
set_option maxRecDepth 100000 in
theorem rnfs_16 (w : World) : Calls Tryd.prog 11 #[.int .i64 16] w fun e w' => e = .returned (tri (xyz.getD 15 ([], [], []))) ∧ w' = w := by
  go_enter Tryd.func11, Tryd.ntmps11
  go_wp2
  go_ret3
  exact ⟨rfl, rfl⟩
set_option maxRecDepth 100000 in
theorem rnfs_17 (w : World) : Calls Tryd.prog 11 #[.int .i64 17] w fun e w' => e = .returned (tri (xyz.getD 16 ([], [], []))) ∧ w' = w := by
  go_enter Tryd.func11, Tryd.ntmps11
  go_wp2
  go_ret3
  exact ⟨rfl, rfl⟩
set_option maxRecDepth 100000 in
theorem rnfs_18 (w : World) : Calls Tryd.prog 11 #[.int .i64 18] w fun e w' => e = .returned (tri (xyz.getD 17 ([], [], []))) ∧ w' = w := by
  go_enter Tryd.func11, Tryd.ntmps11
  go_wp2
  go_ret3
  exact ⟨rfl, rfl⟩
set_option maxRecDepth 100000 in
theorem rnfs_19 (w : World) : Calls Tryd.prog 11 #[.int .i64 19] w fun e w' => e = .returned (tri (xyz.getD 18 ([], [], []))) ∧ w' = w := by
  go_enter Tryd.func11, Tryd.ntmps11
  go_wp2
  go_ret3
  exact ⟨rfl, rfl⟩
set_option maxRecDepth 100000 in
theorem rnfs_20 (w : World) : Calls Tryd.prog 11 #[.int .i64 20] w fun e w' => e = .returned (tri (xyz.getD 19 ([], [], []))) ∧ w' = w := by
  go_enter Tryd.func11, Tryd.ntmps11
  go_wp2
  go_ret3
  exact ⟨rfl, rfl⟩
set_option maxRecDepth 100000 in
theorem rnfs_21 (w : World) : Calls Tryd.prog 11 #[.int .i64 21] w fun e w' => e = .returned (tri (xyz.getD 20 ([], [], []))) ∧ w' = w := by
  go_enter Tryd.func11, Tryd.ntmps11
  go_wp2
  go_ret3
  exact ⟨rfl, rfl⟩
theorem rnfs_any (n : Nat) (hn : n < 21) (w : World) : Calls Tryd.prog 11 #[.int .i64 ((n : Int) + 1)] w fun e w' => e = .returned (tri (xyz.getD n ([], [], []))) ∧ w' = w := by
  match n, hn with
  | 0, _ => exact rnfs_1 w
  | 1, _ => exact rnfs_2 w
  | 2, _ => exact rnfs_3 w
  | 3, _ => exact rnfs_4 w
  | 4, _ => exact rnfs_5 w
  | 5, _ => exact rnfs_6 w
  | 6, _ => exact rnfs_7 w
  | 7, _ => exact rnfs_8 w
  | 8, _ => exact rnfs_9 w
  | 9, _ => exact rnfs_10 w
  | 10, _ => exact rnfs_11 w
  | 11, _ => exact rnfs_12 w
  | 12, _ => exact rnfs_13 w
  | 13, _ => exact rnfs_14 w
  | 14, _ => exact rnfs_15 w
  | 15, _ => exact rnfs_16 w
  | 16, _ => exact rnfs_17 w
  | 17, _ => exact rnfs_18 w
  | 18, _ => exact rnfs_19 w
  | 19, _ => exact rnfs_20 w
  | 20, _ => exact rnfs_21 w
  | k + 21, h => exact absurd h (by omega)
theorem xyz_short : (xyz.all fun t => decide (t.2.1.length ≤ 300) && decide (t.2.2.length ≤ 300)) = true := by kernel_rfl
set_option maxRecDepth 100000 in
set_option maxHeartbeats 1000000 in
theorem rof_nfs (n : Nat) (hn : n < 21) (w : World) : Calls Tryd.prog 6 #[.int .i64 100003, .int .i64 ((n : Int) + 1)] w fun e w' => e = .returned (tup ((xyz.getD n ([], [], [])).1, resB (xyz.getD n ([], [], [])), true)) ∧ Below w.heap.size w w' := by
  have hr := fun w => rnfs_any n hn w
  have hs := List.all_eq_true.1 xyz_short (xyz.getD n ([], [], [])) (by rw [List.getD_eq_getElem?_getD, List.getElem?_eq_getElem (show n < xyz.length from hn)]; exact List.getElem_mem (show n < xyz.length from hn))
  rw [Bool.and_eq_true, decide_eq_true_eq, decide_eq_true_eq, ← bs_size, ← bs_size] at hs
  obtain ⟨s1, s2⟩ := hs
  have k1 : (1 : Int) ≤ (n : Int) + 1 := by omega
  have k2 : (n : Int) + 1 ≤ 21 := by omega
  generalize xyz.getD n ([], [], []) = t at *
  have hE : bs (resB t) = ⟨#[60, 48, 58]⟩ ++ bs t.2.1 ++ ⟨#[44, 45, 58]⟩ ++ bs t.2.2 ++ ⟨#[62]⟩ := by
    unfold resB
    rw [bs_append, bs_append, bs_append, bs_append]
    rfl
  unfold tup
  simp only
  rw [hE]
  clear hE
  unfold tri at hr
  generalize bs t.1 = x at *
  generalize bs t.2.1 = y at *
  generalize bs t.2.2 = z at *
  go_enter Tryd.func6, Tryd.ntmps6
  go_wp2_with fail
  refine (hr w).mono ?_
  rintro e w1 ⟨rfl, rfl⟩
  clear hr
  go_wp2
  go_ret3
  exact ⟨rfl, Below.refl _ _⟩
set_option maxRecDepth 100000 in
set_option maxHeartbeats 1000000 in
theorem rof_mnt1 (w : World) : Calls Tryd.prog 6 #[.int .i64 100005, .int .i64 1] w fun e w' => e = .returned (tup ((mnts.getD 0 ([], [])).1, (mnts.getD 0 ([], [])).2, true)) ∧ Below w.heap.size w w' := by
  go_enter Tryd.func6, Tryd.ntmps6
  go_wp2_with fail
  have HB := Lib.hid (((Below.refl w.heap.size w).alloc (Nat.le_refl _) (.cells #[.string ⟨#[111, 49, 48, 50, 52]⟩, .string ⟨#[]⟩, .string ⟨#[111, 49, 48, 50, 52]⟩, .string ⟨#[]⟩, .string ⟨#[]⟩] 9)).alloc (by simp) (.cells #[.string ⟨#[60, 48, 58, 111, 54, 52, 60, 49, 58, 117, 62, 44, 45, 58, 62]⟩, .string ⟨#[42, 40, 111, 50, 53, 53, 111, 49, 48, 50, 52, 41]⟩, .string ⟨#[]⟩, .string ⟨#[]⟩, .string ⟨#[42, 40, 111, 49, 48, 50, 52, 42, 40, 111, 50, 53, 53, 41, 41]⟩] 9))
  go_quiet (fail)
  go_wp2
  go_ret3
  exact ⟨rfl, below_drewN HB.out _⟩
set_option maxRecDepth 100000 in
set_option maxHeartbeats 1000000 in
theorem rof_mnt2 (w : World) : Calls Tryd.prog 6 #[.int .i64 100005, .int .i64 2] w fun e w' => e = .returned (tup ((mnts.getD 1 ([], [])).1, (mnts.getD 1 ([], [])).2, true)) ∧ Below w.heap.size w w' := by
  go_enter Tryd.func6, Tryd.ntmps6
  go_wp2_with fail
  have HB := Lib.hid (((Below.refl w.heap.size w).alloc (Nat.le_refl _) (.cells #[.string ⟨#[111, 49, 48, 50, 52]⟩, .string ⟨#[]⟩, .string ⟨#[111, 49, 48, 50, 52]⟩, .string ⟨#[]⟩, .string ⟨#[]⟩] 9)).alloc (by simp) (.cells #[.string ⟨#[60, 48, 58, 111, 54, 52, 60, 49, 58, 117, 62, 44, 45, 58, 62]⟩, .string ⟨#[42, 40, 111, 50, 53, 53, 111, 49, 48, 50, 52, 41]⟩, .string ⟨#[]⟩, .string ⟨#[]⟩, .string ⟨#[42, 40, 111, 49, 48, 50, 52, 42, 40, 111, 50, 53, 53, 41, 41]⟩] 9))
  go_quiet (fail)
  go_wp2
  go_ret3
  exact ⟨rfl, below_drewN HB.out _⟩
set_option maxRecDepth 100000 in
set_option maxHeartbeats 1000000 in
theorem rof_mnt3 (w : World) : Calls Tryd.prog 6 #[.int .i64 100005, .int .i64 3] w fun e w' => e = .returned (tup ((mnts.getD 2 ([], [])).1, (mnts.getD 2 ([], [])).2, true)) ∧ Below w.heap.size w w' := by
  go_enter Tryd.func6, Tryd.ntmps6
  go_wp2_with fail
  have HB := Lib.hid (((Below.refl w.heap.size w).alloc (Nat.le_refl _) (.cells #[.string ⟨#[111, 49, 48, 50, 52]⟩, .string ⟨#[]⟩, .string ⟨#[111, 49, 48, 50, 52]⟩, .string ⟨#[]⟩, .string ⟨#[]⟩] 9)).alloc (by simp) (.cells #[.string ⟨#[60, 48, 58, 111, 54, 52, 60, 49, 58, 117, 62, 44, 45, 58, 62]⟩, .string ⟨#[42, 40, 111, 50, 53, 53, 111, 49, 48, 50, 52, 41]⟩, .string ⟨#[]⟩, .string ⟨#[]⟩, .string ⟨#[42, 40, 111, 49, 48, 50, 52, 42, 40, 111, 50, 53, 53, 41, 41]⟩] 9))
  go_quiet (fail)
  go_wp2
  go_ret3
  exact ⟨rfl, below_drewN HB.out _⟩
set_option maxRecDepth 100000 in
set_option maxHeartbeats 1000000 in
theorem rof_mnt4 (w : World) : Calls Tryd.prog 6 #[.int .i64 100005, .int .i64 4] w fun e w' => e = .returned (tup ((mnts.getD 3 ([], [])).1, (mnts.getD 3 ([], [])).2, true)) ∧ Below w.heap.size w w' := by
  go_enter Tryd.func6, Tryd.ntmps6
  go_wp2_with fail
  have HB := Lib.hid (((Below.refl w.heap.size w).alloc (Nat.le_refl _) (.cells #[.string ⟨#[111, 49, 48, 50, 52]⟩, .string ⟨#[]⟩, .string ⟨#[111, 49, 48, 50, 52]⟩, .string ⟨#[]⟩, .string ⟨#[]⟩] 9)).alloc (by simp) (.cells #[.string ⟨#[60, 48, 58, 111, 54, 52, 60, 49, 58, 117, 62, 44, 45, 58, 62]⟩, .string ⟨#[42, 40, 111, 50, 53, 53, 111, 49, 48, 50, 52, 41]⟩, .string ⟨#[]⟩, .string ⟨#[]⟩, .string ⟨#[42, 40, 111, 49, 48, 50, 52, 42, 40, 111, 50, 53, 53, 41, 41]⟩] 9))
  go_quiet (fail)
  go_wp2
  go_ret3
  exact ⟨rfl, below_drewN HB.out _⟩
set_option maxRecDepth 100000 in
set_option maxHeartbeats 1000000 in
theorem rof_mnt5 (w : World) : Calls Tryd.prog 6 #[.int .i64 100005, .int .i64 5] w fun e w' => e = .returned (tup ((mnts.getD 4 ([], [])).1, (mnts.getD 4 ([], [])).2, true)) ∧ Below w.heap.size w w' := by
  go_enter Tryd.func6, Tryd.ntmps6
  go_wp2_with fail
  have HB := Lib.hid (((Below.refl w.heap.size w).alloc (Nat.le_refl _) (.cells #[.string ⟨#[111, 49, 48, 50, 52]⟩, .string ⟨#[]⟩, .string ⟨#[111, 49, 48, 50, 52]⟩, .string ⟨#[]⟩, .string ⟨#[]⟩] 9)).alloc (by simp) (.cells #[.string ⟨#[60, 48, 58, 111, 54, 52, 60, 49, 58, 117, 62, 44, 45, 58, 62]⟩, .string ⟨#[42, 40, 111, 50, 53, 53, 111, 49, 48, 50, 52, 41]⟩, .string ⟨#[]⟩, .string ⟨#[]⟩, .string ⟨#[42, 40, 111, 49, 48, 50, 52, 42, 40, 111, 50, 53, 53, 41, 41]⟩] 9))
  go_quiet (fail)
  go_wp2
  go_ret3
  exact ⟨rfl, below_drewN HB.out _⟩
set_option maxRecDepth 100000 in
set_option maxHeartbeats 1000000 in
theorem rof_none (prog proc : Int) (h3 : ¬ (prog = 100003 ∧ 1 ≤ proc ∧ proc ≤ 21)) (h5 : ¬ (prog = 100005 ∧ 1 ≤ proc ∧ proc ≤ 5)) (w : World) :
    Calls Tryd.prog 6 #[.int .i64 prog, .int .i64 proc] w fun e w' => e = .returned (tup ([], [], decide (proc = 0 ∧ (prog = 100003 ∨ prog = 100005)))) ∧ Below w.heap.size w w' := by
  by_cases p100003 : prog = 100003
  · subst p100003
    by_cases h0 : proc = 0
    · subst h0
      rw [show decide ((0 : Int) = 0 ∧ ((100003 : Int) = 100003 ∨ (100003 : Int) = 100005)) = true from by decide]
      clear h3 h5
      go_enter Tryd.func6, Tryd.ntmps6
      go_wp2
      go_ret3
      exact ⟨rfl, Below.refl _ _⟩
    · rw [decide_eq_false (by omega)]
      have k0 : (proc == 0) = false := by simpa using h0
      by_cases h1 : 1 ≤ proc
      · have k2 : ¬ (proc ≤ 21) := by omega
        clear h3 h5 h0
        go_enter Tryd.func6, Tryd.ntmps6
        go_wp2
        go_ret3
        exact ⟨rfl, Below.refl _ _⟩
      · have k2 : ¬ (1 ≤ proc) := h1
        clear h3 h5 h0
        go_enter Tryd.func6, Tryd.ntmps6
        go_wp2
        go_ret3
        exact ⟨rfl, Below.refl _ _⟩
  by_cases p100005 : prog = 100005
  · subst p100005
    by_cases h0 : proc = 0
    · subst h0
      rw [show decide ((0 : Int) = 0 ∧ ((100005 : Int) = 100003 ∨ (100005 : Int) = 100005)) = true from by decide]
      clear h3 h5
      go_enter Tryd.func6, Tryd.ntmps6
      go_wp2
      go_ret3
      exact ⟨rfl, Below.refl _ _⟩
    · rw [decide_eq_false (by omega)]
      have k0 : (proc == 0) = false := by simpa using h0
      by_cases h1 : 1 ≤ proc
      · have k2 : ¬ (proc ≤ 5) := by omega
        clear h3 h5 h0
        go_enter Tryd.func6, Tryd.ntmps6
        go_wp2
        go_ret3
        exact ⟨rfl, Below.refl _ _⟩
      · have k2 : ¬ (1 ≤ proc) := h1
        clear h3 h5 h0
        go_enter Tryd.func6, Tryd.ntmps6
        go_wp2
        go_ret3
        exact ⟨rfl, Below.refl _ _⟩
  have q3 : (prog == 100003) = false := by simpa using p100003
  have q5 : (prog == 100005) = false := by simpa using p100005
  rw [decide_eq_false (by omega)]
  clear h3 h5 p100003 p100005
  by_cases h0 : proc = 0
  · subst h0
    go_enter Tryd.func6, Tryd.ntmps6
    go_wp2
    go_ret3
    exact ⟨rfl, Below.refl _ _⟩
  · have k0 : (proc == 0) = false := by simpa using h0
    go_enter Tryd.func6, Tryd.ntmps6
    go_wp2
    go_ret3
    exact ⟨rfl, Below.refl _ _⟩
theorem rof_any (prog proc : Int) (w : World) : Calls Tryd.prog 6 #[.int .i64 prog, .int .i64 proc] w fun e w' => e = .returned (tup (refO prog proc)) ∧ Below w.heap.size w w' := by
  unfold refO
  by_cases h3 : prog = 100003 ∧ 1 ≤ proc ∧ proc ≤ 21
  · rw [if_pos h3]
    obtain ⟨rfl, h1, h2⟩ := h3
    obtain ⟨n, rfl⟩ : ∃ n : Nat, proc = (n : Int) + 1 := ⟨(proc - 1).toNat, by omega⟩
    rw [show ((n : Int) + 1 - 1).toNat = n from by omega]
    exact rof_nfs n (by omega) w
  · rw [if_neg h3]
    by_cases h5 : prog = 100005 ∧ 1 ≤ proc ∧ proc ≤ 5
    · rw [if_pos h5]
      obtain ⟨rfl, h1, h2⟩ := h5
      have : proc = 1 ∨ proc = 2 ∨ proc = 3 ∨ proc = 4 ∨ proc = 5 := by omega
      rcases this with rfl | rfl | rfl | rfl | rfl
      · exact rof_mnt1 w
      · exact rof_mnt2 w
      · exact rof_mnt3 w
      · exact rof_mnt4 w
      · exact rof_mnt5 w
    · rw [if_neg h5]
      exact rof_none prog proc h3 h5 w
end Go.Proofs.YtdnleeklgacngaaDoor
