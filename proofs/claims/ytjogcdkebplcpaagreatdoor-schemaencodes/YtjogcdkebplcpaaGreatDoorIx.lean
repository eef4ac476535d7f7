/-
  Which byte begins a sign, as the library finds it. No condition.
-/
import Derived.Test.YtjogcdkebplcpaaGreatDoorMem
import Derived.Lib.Bytealg
namespace Go.Proofs.YtjogcdkebplcpaaGreatDoor
open Go.RowKit Sch

set_option maxHeartbeats 1000000 in
set_option maxRecDepth 100000 in
theorem index2 (s : ByteArray) (c : Int) (w : World) :
    Calls Tryz.prog 51 #[.string s, .int .u8 c] w fun e w' => e = .returned (.int .i64 (Lib.indexByte s.data.toList c.toNat.toUInt8)) ∧ w' = w := by
  go_enter Tryz.func51, Tryz.ntmps51
  go_wp2
  rw [run_callFunc_extern Tryz.func72 (by kernel_rfl) (by kernel_rfl) (by kernel_rfl) (e := Extern.BytealgIndexByte.indexByte) (by kernel_rfl), Lib.run_indexByteString]
  simp only [Result.andThen]
  rw [Oper.upon_value]
  go_wp2
  go_ret
  exact ⟨rfl, rfl⟩
set_option maxHeartbeats 1000000 in
theorem index1 (s : ByteArray) (c : Int) (w : World) :
    Calls Tryz.prog 45 #[.string s, .int .u8 c] w fun e w' => e = .returned (.int .i64 (Lib.indexByte s.data.toList c.toNat.toUInt8)) ∧ w' = w := by
  go_enter Tryz.func45, Tryz.ntmps45
  go_wp2_with (go_at_call 51; refine (index2 _ _ _).mono ?_; rintro e w' ⟨rfl, rfl⟩)
  go_ret
  exact ⟨rfl, rfl⟩
theorem index_cons (l : List UInt8) (b c : UInt8) : 0 ≤ Lib.indexByte (b :: l) c ↔ (c == b) = true ∨ 0 ≤ Lib.indexByte l c := by
  rw [BEq.comm (a := c)]
  have h := Lib.indexByte_ge l c
  show 0 ≤ (if b == c then (0 : Int) else if Lib.indexByte l c == -1 then -1 else Lib.indexByte l c + 1) ↔ _
  by_cases hb : (b == c) = true
  · simp [hb]
  · rw [if_neg hb]
    by_cases h2 : (Lib.indexByte l c == -1) = true
    · have h3 : Lib.indexByte l c = -1 := by simpa using h2
      rw [if_pos h2, h3]
      simp [hb]
    · have h3 : ¬ Lib.indexByte l c = -1 := by simpa using h2
      rw [if_neg h2]
      constructor
      · intro _; right; omega
      · rintro (e | e)
        · exact absurd e hb
        · omega
theorem index_sign (c : UInt8) : decide (0 ≤ Lib.indexByte [117, 113, 98, 111, 102, 63, 42, 60] c) = isSign c := by
  rw [Bool.eq_iff_iff, decide_eq_true_iff]
  unfold isSign isOne isNum isOpt
  rw [index_cons, index_cons, index_cons, index_cons, index_cons, index_cons, index_cons, index_cons]
  simp only [Bool.or_eq_true, or_assoc]
  have : ¬ (0 ≤ Lib.indexByte [] c) := by simp [Lib.indexByte]
  simp only [this, or_false]
theorem sign_at (c : UInt8) (w : World) : Calls Tryz.prog 45 #[.string ⟨#[117, 113, 98, 111, 102, 63, 42, 60]⟩, .int .u8 c.toNat] w fun e w' => (∃ k : Int, -1 ≤ k ∧ decide (0 ≤ k) = isSign c ∧ e = .returned (.int .i64 k)) ∧ w = w' := by
  refine (index1 _ _ w).mono ?_
  rintro e w' ⟨rfl, rfl⟩
  refine ⟨⟨_, Lib.indexByte_ge _ _, ?_, rfl⟩, rfl⟩
  rw [← index_sign c]
  have : ((c.toNat : Int).toNat).toUInt8 = c := by simp
  rw [this]
end Go.Proofs.YtjogcdkebplcpaaGreatDoor
