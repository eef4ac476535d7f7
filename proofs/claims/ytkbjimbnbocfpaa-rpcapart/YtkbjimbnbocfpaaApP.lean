/-
  RpcApart is true at every input, and its arguments read as they did. No condition.
-/
import Derived.Test.YtkbjimbnbocfpaaApW
import Derived.Test.YtkbjimbnbocfpaaArr
namespace Go.Proofs.Ytkbjimbnbocfpaa
open Go.ChangeShapes Go.WideShapes Go.ChangeAt Go.RowKit
open Go.ChangeMaps (open_string)

set_option maxRecDepth 100000 in
theorem rpcApart_contract (H : Type) (enc : TypeId × Value → H) (W : World) (base : Nat) (args : Array Value) (ds gs : List (DataW H)) (before : List MemPlace)
    (hval : ∀ (j : Nat) t v, Try.f7.params[j]? = some t → args[j]? = some v → Value.okWide Try.prog W .any base t v)
    (hW : DataW.Whole enc Try.prog Try.f7.params.toList Rows.rpcApartSpec.vars false W args.toList ds gs before) (hsz : (DataW.weightsEach Try.prog (Try.f7.params.toList ++ Rows.rpcApartSpec.plain.varTypes Try.prog) (ds ++ gs)).all (· ≤ reachBytes) = true) :
    Calls Try.prog 7 args W fun e W' => ∃ v, e = .returned v ∧ Rows.rpcApartSpec.post enc Try.prog Try.f7 false true false false W args v W' := by
  have hW' := hW
  obtain ⟨p, q, hA0, hV, rfl, hfz, hnd⟩ := hW
  have hA : DataW.TrodAll enc Try.prog W 0 (fun _ => true) true Try.f7.params.toList args.toList ds p := hA0
  rw [Try.params7] at hA hval
  obtain ⟨v0, vs0, d0, ds0, p0, q0, hargs, rfl, rfl, h0, r0⟩ := trodAll_cons hA
  obtain ⟨v1, vs1, d1, ds1, p1, q1, rfl, rfl, rfl, h1, r1⟩ := trodAll_cons r0
  obtain ⟨v2, vs2, d2, ds2, p2, q2, rfl, rfl, rfl, h2, r2⟩ := trodAll_cons r1
  obtain ⟨rfl, rfl, rfl⟩ := trodAll_nil r2
  obtain rfl : args = #[v0, v1, v2] := by cases args; simp_all
  obtain ⟨rfl, rfl⟩ := trodVars_none hV
  rw [Try.params7] at hsz
  obtain ⟨a, b, c, d, rfl⟩ := open_four (hval 0 22 v0 rfl rfl) h0
  obtain ⟨a', b', c', d', rfl⟩ := open_four (hval 1 22 v1 rfl rfl) h1
  obtain ⟨s, s', rfl, rfl⟩ := open_two (hval 2 57 v2 rfl rfl) h2
  have m : ∀ n ∈ (DataW.agg [.lit (.string s.data.toList), .lit (.string s'.data.toList)] : DataW H).weights Try.prog 57, n ≤ reachBytes := fun n hn => by
    have := List.all_eq_true.1 hsz _ (DataW.weights_mem_each (j := 2) (t := 57) rfl rfl n hn)
    simpa using this
  simp only [DataW.weights, Try.underlying57, DataW.weightsAll] at m
  have hb1 := m s.data.toList.length (by simp)
  have hb2 := m s'.data.toList.length (by simp)
  rw [Array.length_toList] at hb1 hb2
  have hb1' : s.size ≤ 140737488351232 := hb1
  have hb2' : s'.size ≤ 140737488351232 := hb2
  exact (apart_walk a b c d a' b' c' d' s s' W (by omega) (by omega)).mono fun e W' ⟨he, hg⟩ => ⟨_, he, law_post [22, 22, 57] (by rw [Try.params7]) (by kernel_rfl) hW' rfl rfl rfl rfl rfl hg⟩

set_option maxRecDepth 100000 in
theorem rpcApart_lifted (os : Os) (started : os.Started) (H : Type) (enc : TypeId × Value → H) :
    ReturnsInHanded {} Try.checked os 7 .any (Rows.rpcApartSpec.pre6 enc Try.prog Try.f7 Rows.rpcApartRow.domain false) (Rows.rpcApartSpec.post enc Try.prog Try.f7 false true false false) := by
  refine returnsInHanded_of_change_sized (C := Try.checked) own started (by kernel_rfl) Try.func7
    (ChangeSpec.witness6 (enc := enc) (C := Try.checked) false ⟨#[], #[.agg #[.int .i64 0, .int .i64 0, .int .i64 0, .int .i64 0], .agg #[.int .i64 0, .int .i64 0, .int .i64 0, .int .i64 0], .agg #[.string ByteArray.empty, .string ByteArray.empty]], []⟩ 7 (by kernel_rfl) (by kernel_rfl) (by kernel_rfl) (by kernel_rfl)) ?_
  intro W base args ds gs before hval hW hcnd hsz _
  exact rpcApart_contract H enc W base args ds gs before hval hW hsz

theorem rpcApart_holds : Rows.RpcApartSaid :=
  OpenClaim.holds_of_wide 7 Try.f7 rfl rfl rfl rfl rfl rfl rfl ⟨rfl, rfl, rfl, rfl, rfl⟩ rfl rfl rfl rfl rfl (by kernel_rfl) Try.func7 (by kernel_rfl)
    (of_decide_eq_true (by kernel_rfl)) (by unfold Func.isWrapper; first | (rw [if_pos (by decide +kernel)]; kernel_rfl) | (rw [if_neg (by decide +kernel)]; exact ⟨rfl, rfl⟩))
    (fun os started H enc _ => rpcApart_lifted os started H enc)
end Go.Proofs.Ytkbjimbnbocfpaa
