/-
  All forms of the procedures are forms. No condition.
-/
import Derived.Test.YtdnleeklgacngaaDoorSf
import Derived.Test.YtdnleeklgacngaaDoorCk
namespace Go.Proofs.YtdnleeklgacngaaDoor
open Sch
theorem good_nfs : ((List.range 22).all fun n => (form num5 (pickO nfsT n).1).isSome && (form num5 (pickO nfsT n).2.1).isSome) = true := by kernel_rfl
theorem good_mnt : ((List.range 6).all fun n => (form num5 (pickO mntT n).1).isSome && (form num5 (pickO mntT n).2.1).isSome) = true := by kernel_rfl
theorem good_nil : (form num5 []).isSome = true := by kernel_rfl
theorem of_forms (prog proc : Int) : (form num5 (ofO prog proc).1).isSome = true ∧ (form num5 (ofO prog proc).2.1).isSome = true := by
  unfold ofO
  by_cases h3 : prog = 100003
  · subst h3
    rw [if_pos rfl]
    by_cases hp : proc < 0 ∨ (22 : Int) ≤ proc
    · unfold pickO
      rw [if_pos (by rw [show nfsT.length = 22 from rfl]; omega)]
      exact ⟨good_nil, good_nil⟩
    · obtain ⟨n, rfl⟩ : ∃ n : Nat, proc = n := ⟨proc.toNat, by omega⟩
      exact Bool.and_eq_true_iff.1 (List.all_eq_true.1 good_nfs n (List.mem_range.2 (by omega)))
  · rw [if_neg h3]
    by_cases h5 : prog = 100005
    · subst h5
      rw [if_pos rfl]
      by_cases hp : proc < 0 ∨ (6 : Int) ≤ proc
      · unfold pickO
        rw [if_pos (by rw [show mntT.length = 6 from rfl]; omega)]
        exact ⟨good_nil, good_nil⟩
      · obtain ⟨n, rfl⟩ : ∃ n : Nat, proc = n := ⟨proc.toNat, by omega⟩
        exact Bool.and_eq_true_iff.1 (List.all_eq_true.1 good_mnt n (List.mem_range.2 (by omega)))
    · rw [if_neg h5]
      exact ⟨good_nil, good_nil⟩
end Go.Proofs.YtdnleeklgacngaaDoor
