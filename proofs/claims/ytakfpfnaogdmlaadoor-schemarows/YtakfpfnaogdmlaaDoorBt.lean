/-
  Who may do what: what both Mays answer. Their conditions: the groups lie in memory.
-/
import Derived.Test.YtakfpfnaogdmlaaDoorRows
import Derived.WalkKit
import Derived.WalkSpells
import Derived.WalkLawsBesides
import Derived.Deep.AppendLies
import Derived.Deep.RegionHeld3
import Derived.Lib.Hide
import Derived.Deep.QuietTactic
import Derived.BigQuiet
import Derived.Deep.RegionWith
import Derived.Deep.DeepCutAuto
import Derived.Laws.Bits128
namespace Go.Proofs.YtakfpfnaogdmlaaDoor.A
open Go.RowKit

theorem and1 (n : Int) : bits .and .i64 n 1 = n % 2 := by
  have h1 : (BitVec.ofInt 64 1).toNat = 2 ^ 1 - 1 := by decide
  have key : (BitVec.ofInt 64 n &&& BitVec.ofInt 64 1).toNat = (n % ((2 ^ 64 : Nat) : Int)).toNat % 2 ^ 1 := by
    rw [BitVec.toNat_and, BitVec.toNat_ofInt, h1, Nat.and_two_pow_sub_one_eq_mod]
  show IntKind.i64.wrap ((BitVec.ofInt 64 n &&& BitVec.ofInt 64 1).toNat : Nat) = n % 2
  rw [key, IntKind.wrap_i64]
  omega
theorem and7 (n : Int) : bits .and .i64 n 7 = n % 8 := by
  have h1 : (BitVec.ofInt 64 7).toNat = 2 ^ 3 - 1 := by decide
  have key : (BitVec.ofInt 64 n &&& BitVec.ofInt 64 7).toNat = (n % ((2 ^ 64 : Nat) : Int)).toNat % 2 ^ 3 := by
    rw [BitVec.toNat_and, BitVec.toNat_ofInt, h1, Nat.and_two_pow_sub_one_eq_mod]
  show IntKind.i64.wrap ((BitVec.ofInt 64 n &&& BitVec.ofInt 64 7).toNat : Nat) = n % 8
  rw [key, IntKind.wrap_i64]
  omega
/-- Each of the lowest three bits that b has, g has too. -/
def ok3 (b g : Int) : Bool := (b % 2 != 1 || g % 2 == 1) && ((b / 2 % 2 != 1 || g / 2 % 2 == 1) && (b / 4 % 2 != 1 || g / 4 % 2 == 1))
theorem fin8 : ∀ b : Fin 8, ∀ g : Fin 8, (b.val &&& (7 - g.val) == 0) = ((b.val % 2 != 1 || g.val % 2 == 1) && ((b.val / 2 % 2 != 1 || g.val / 2 % 2 == 1) && (b.val / 4 % 2 != 1 || g.val / 4 % 2 == 1))) := by decide
theorem beq_int_nat {a b : Int} {c d : Nat} (h : (a = b) ↔ (c = d)) : (a == b) = (c == d) := by
  by_cases hc : c = d
  · rw [beq_iff_eq.2 hc, beq_iff_eq.2 (h.2 hc)]
  · rw [beq_eq_false_iff_ne.2 hc, beq_eq_false_iff_ne.2 (fun e => hc (h.1 e))]
theorem bne_int_nat {a b : Int} {c d : Nat} (h : (a = b) ↔ (c = d)) : (a != b) = (c != d) := by
  unfold bne; rw [beq_int_nat h]
theorem not8 (M G : Nat) (hM : M % 8 = 7) (hG : G ≤ M) : (M - G) % 8 = 7 - G % 8 := by omega
theorem wrap8 (n : Int) : IntKind.i64.wrap n % 8 = n % 8 := by
  rw [IntKind.wrap_i64]
  omega
theorem cast8 (n : Nat) (k : Nat) (hk : n % 8 = k) : (n : Int) % 8 = (k : Int) := by omega
theorem parts8 (b : Int) (B : Nat) (hB : B = (b % 18446744073709551616).toNat) : (b % 2 = 1 ↔ B % 8 % 2 = 1) ∧ (b / 2 % 2 = 1 ↔ B % 8 / 2 % 2 = 1) ∧ (b / 4 % 2 = 1 ↔ B % 8 / 4 % 2 = 1) := by omega
theorem small_and (M B G : Nat) (hM : M % 8 = 7) (hG : G ≤ M) : (B &&& (M - G)) % 8 = (B % 8) &&& (7 - G % 8) := by
  rw [show (8 : Nat) = 2 ^ 3 from rfl, Nat.and_mod_two_pow]
  congr 1
  exact not8 M G hM hG
theorem andNot7 (b g : Int) : (bits .and .i64 (bits .andNot .i64 b g) 7 == 0) = ok3 b g := by
  rw [and7]
  obtain ⟨B, hB⟩ : ∃ B : Nat, B = (b % 18446744073709551616).toNat := ⟨_, rfl⟩
  obtain ⟨G, hG⟩ : ∃ G : Nat, G = (g % 18446744073709551616).toNat := ⟨_, rfl⟩
  obtain ⟨M, hM⟩ : ∃ M : Nat, M = 18446744073709551615 := ⟨_, rfl⟩
  have key : (BitVec.ofInt 64 b &&& ~~~ BitVec.ofInt 64 g).toNat = B &&& (M - G) := by
    rw [BitVec.toNat_and, BitVec.toNat_not, BitVec.toNat_ofInt, BitVec.toNat_ofInt, hB, hG, hM]
    rfl
  have e1 : bits .andNot .i64 b g = IntKind.i64.wrap ((BitVec.ofInt 64 b &&& ~~~ BitVec.ofInt 64 g).toNat : Nat) := rfl
  have hGM : G ≤ M := by omega
  have hM7 : M % 8 = 7 := by omega
  obtain ⟨p1, p2, p3⟩ := parts8 b B hB
  obtain ⟨q1, q2, q3⟩ := parts8 g G hG
  rw [e1, key, wrap8]
  clear key e1 hM hB hG
  rw [cast8 _ _ (small_and M B G hM7 hGM)]
  have h8 := fin8 ⟨B % 8, Nat.mod_lt _ (by decide)⟩ ⟨G % 8, Nat.mod_lt _ (by decide)⟩
  rw [beq_int_nat (a := (((B % 8) &&& (7 - G % 8) : Nat) : Int)) (b := 0) (c := (B % 8) &&& (7 - G % 8)) (d := 0) (by constructor <;> (intro h; first | exact Int.ofNat.inj h | rw [h]; rfl))]
  refine h8.trans ?_
  unfold ok3
  dsimp only
  rw [bne_int_nat p1, bne_int_nat p2, bne_int_nat p3, beq_int_nat q1, beq_int_nat q2, beq_int_nat q3]

/-- The numbers L lie at ao. -/
def IntsAt (w : World) (ao : Option Addr) (L : List Int) : Prop := ∀ i (_ : i < L.length), ∃ g off, ao = some ⟨g, off, none⟩ ∧ g < w.heap.size ∧ w.cell? ⟨g, off + i, none⟩ = some (.int .i64 L[i])
theorem IntsAt.below {w w' : World} {ao : Option Addr} {L : List Int} (h : IntsAt w ao L) (hb : Below w.heap.size w w') : IntsAt w' ao L := by
  intro i hi
  obtain ⟨g, off, e1, e2, e3⟩ := h i hi
  have := hb.size
  exact ⟨g, off, e1, by omega, (hb.cell (p := ⟨g, _, none⟩) e2).trans e3⟩
theorem ints_at {w : World} {ao : Option Addr} {G : List Int} (h : IntsAt w ao G) (k : Nat) (hk : k < G.length) : ∃ g off, ao = some ⟨g, off, none⟩ ∧ w.cell? ⟨g, off + k, none⟩ = some (.int .i64 (G.getD k 0)) := by
  obtain ⟨g, off, e1, e2, e3⟩ := h k hk
  refine ⟨g, off, e1, ?_⟩
  rw [e3]
  simp [List.getD_eq_getElem?_getD, List.getElem?_eq_getElem hk]

set_option maxHeartbeats 400000 in
theorem index_any (L : List Int) (v : Int) (ao : Option Addr) (cap : Nat) (w : World) (hI : IntsAt w ao L) (hl : L.length ≤ 9223372036854775807) :
    Calls Tryd.prog 58 #[.slice ao L.length cap, .int .i64 v] w fun e w' => ∃ i : Int, e = .returned (.int .i64 i) ∧ (0 ≤ i ↔ v ∈ L) ∧ w = w' := by
  have HI := Lib.hid hI
  clear hI
  go_enter Tryd.func58, Tryd.ntmps58
  go_wp2
  go_loop [5, 8] (fun _ i => ∃ k : Nat, k ≤ L.length ∧ i = .int .i64 k ∧ ¬ v ∈ L.take k) (fun _ i => L.length - (intOf i).toNat)
  case atStart => exact ⟨0, Nat.zero_le _, rfl, by simp⟩
  case round =>
    obtain ⟨k, hk, rfl, hA⟩ := hrel
    have HA := Lib.hid hA
    clear hA
    by_cases hlt : k < L.length
    · obtain ⟨g, off, rfl, hg, hc⟩ := HI.out k hlt
      have HT : Hid (L.take (k + 1) = L.take k ++ [L[k]]) := Lib.hid (by rw [List.take_succ_eq_append_getElem hlt])
      have HM : Hid (L[k] ∈ L) := Lib.hid (List.getElem_mem hlt)
      generalize L[k] = n at *
      by_cases h0 : v = n
      · subst h0
        go_wp2
        go_ret
        refine ⟨_, rfl, ?_, rfl⟩
        exact ⟨fun _ => HM.out, fun _ => by omega⟩
      · have hb : (v == n) = false := by simpa using h0
        go_wp2
        go_round
        case rel =>
          refine ⟨k + 1, by omega, by go_num, ?_⟩
          rw [HT.out]
          intro h
          rcases List.mem_append.1 h with h | h
          · exact HA.out h
          · exact h0 (List.mem_singleton.1 h)
        case measure => simp [intOf]; omega
    · obtain rfl : k = L.length := by omega
      rw [List.take_length] at HA
      go_wp2
      go_ret
      refine ⟨_, rfl, ?_, rfl⟩
      exact ⟨fun h => absurd h (by decide), fun h => absurd h HA.out⟩
set_option maxHeartbeats 400000 in
theorem contains_any (L : List Int) (v : Int) (ao : Option Addr) (cap : Nat) (w : World) (hI : IntsAt w ao L) (hl : L.length ≤ 9223372036854775807) :
    Calls Tryd.prog 47 #[.slice ao L.length cap, .int .i64 v] w fun e w' => e = .returned (.bool (decide (v ∈ L))) ∧ w = w' := by
  have HI := Lib.hid hI
  clear hI
  go_enter Tryd.func47, Tryd.ntmps47
  go_wp2_with fail
  refine (index_any L v ao cap _ HI.out hl).mono ?_
  rintro e w' ⟨i, rfl, hi, rfl⟩
  have Hi := Lib.hid hi
  clear hi
  go_wp2
  go_ret
  refine ⟨?_, rfl⟩
  simp [Hi.out]
end Go.Proofs.YtakfpfnaogdmlaaDoor.A
