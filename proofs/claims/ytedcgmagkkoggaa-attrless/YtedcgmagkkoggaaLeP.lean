/-
  AttrLess is true at every input, and its arguments read as they did. No condition.
-/
import Derived.Test.YtedcgmagkkoggaaLeW
import Derived.Test.YtedcgmagkkoggaaOp
namespace Go.Proofs.Ytedcgmagkkoggaa
open Go.ChangeShapes Go.WideShapes Go.ChangeAt Go.RowKit
theorem attrLess_contract (H : Type) (enc : TypeId × Value → H) (W : World) (base : Nat) (args : Array Value) (ds gs : List (DataW H)) (before : List MemPlace)
    (hval : ∀ (j : Nat) t v, Try.f6.params[j]? = some t → args[j]? = some v → Value.okWide Try.prog W .any base t v)
    (hW : DataW.Whole enc Try.prog Try.f6.params.toList Rows.attrLessSpec.vars false W args.toList ds gs before) (hsz : (DataW.weightsEach Try.prog (Try.f6.params.toList ++ Rows.attrLessSpec.plain.varTypes Try.prog) (ds ++ gs)).all (· ≤ reachBytes) = true) :
    Calls Try.prog 6 args W fun e W' => ∃ v, e = .returned v ∧ Rows.attrLessSpec.post enc Try.prog Try.f6 false true false false W args v W' := by
  have hW' := hW
  obtain ⟨p, q, hA0, hV, rfl, hfz, hnd⟩ := hW
  have hA : DataW.TrodAll enc Try.prog W 0 (fun _ => true) true Try.f6.params.toList args.toList ds p := hA0
  rw [Try.params6] at hA hval
  obtain ⟨v0, vs0, d0, ds0, p0, q0, hargs, rfl, rfl, h0, r0⟩ := trodAll_cons hA
  obtain ⟨v1, vs1, d1, ds1, p1, q1, rfl, rfl, rfl, h1, r1⟩ := trodAll_cons r0
  obtain ⟨rfl, rfl, rfl⟩ := trodAll_nil r1
  obtain rfl : args = #[v0, v1] := by cases args; simp_all
  obtain ⟨rfl, rfl⟩ := trodVars_none hV
  rw [Try.params6] at hsz
  obtain ⟨L0, hL0, rfl⟩ := open_arr Try.underlying55 (by kernel_rfl) (hval 0 55 v0 rfl rfl) h0
  obtain ⟨a0_0, a0_1, a0_2, rfl⟩ : ∃ a0_0 a0_1 a0_2, L0 = [a0_0, a0_1, a0_2] := by
    match L0, hL0 with
    | [a0_0, a0_1, a0_2], _ => exact ⟨a0_0, a0_1, a0_2, rfl⟩
  obtain ⟨L1, hL1, rfl⟩ := open_arr Try.underlying36 (by kernel_rfl) (hval 1 36 v1 rfl rfl) h1
  obtain ⟨a1_0, a1_1, a1_2, a1_3, rfl⟩ : ∃ a1_0 a1_1 a1_2 a1_3, L1 = [a1_0, a1_1, a1_2, a1_3] := by
    match L1, hL1 with
    | [a1_0, a1_1, a1_2, a1_3], _ => exact ⟨a1_0, a1_1, a1_2, a1_3, rfl⟩
  exact (less_walk a0_0 a0_1 a0_2 a1_0 a1_1 a1_2 a1_3 W).mono fun e W' ⟨he, hg⟩ => ⟨_, he, law_post [55, 36] (by rw [Try.params6]) (by kernel_rfl) hW' rfl rfl rfl rfl rfl hg⟩

set_option maxRecDepth 100000 in
theorem attrLess_lifted (os : Os) (started : os.Started) (H : Type) (enc : TypeId × Value → H) :
    ReturnsInHanded {} Try.checked os 6 .any (Rows.attrLessSpec.pre6 enc Try.prog Try.f6 Rows.attrLessRow.domain false) (Rows.attrLessSpec.post enc Try.prog Try.f6 false true false false) := by
  refine returnsInHanded_of_change_sized (C := Try.checked) own started (by kernel_rfl) Try.func6
    (ChangeSpec.witness6 (enc := enc) (C := Try.checked) false ⟨#[], #[.agg #[.int .i64 0, .int .i64 0, .int .i64 0], .agg #[.int .i64 0, .int .i64 0, .int .i64 0, .int .i64 0]], []⟩ 8 (by kernel_rfl) (by kernel_rfl) (by kernel_rfl) (by kernel_rfl)) ?_
  intro W base args ds gs before hval hW hcnd hsz _
  exact attrLess_contract H enc W base args ds gs before hval hW hsz

theorem attrLess_holds : Rows.AttrLessSaid :=
  OpenClaim.holds_of_wide 6 Try.f6 rfl rfl rfl rfl rfl rfl rfl ⟨rfl, rfl, rfl, rfl, rfl⟩ rfl rfl rfl rfl rfl (by kernel_rfl) Try.func6 (by kernel_rfl)
    (of_decide_eq_true (by kernel_rfl)) (by unfold Func.isWrapper; first | (rw [if_pos (by decide +kernel)]; kernel_rfl) | (rw [if_neg (by decide +kernel)]; exact ⟨rfl, rfl⟩))
    (fun os started H enc _ => attrLess_lifted os started H enc)
end Go.Proofs.Ytedcgmagkkoggaa
