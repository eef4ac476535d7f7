/-
  SectorScripts is true at every input, and its arguments read as they did. No condition.
-/
import Derived.Test.YthomjcndaddbbaaScrW
namespace Go.Proofs.Ythomjcndaddbbaa
open Go.ChangeShapes Go.WideShapes Go.ChangeAt Go.RowKit

theorem sectorScripts_contract (H : Type) (enc : TypeId × Value → H) (W : World) (base : Nat) (args : Array Value) (ds gs : List (DataW H)) (before : List MemPlace)
    (hval : ∀ (j : Nat) t v, Try.f3.params[j]? = some t → args[j]? = some v → Value.okWide Try.prog W .any base t v)
    (hW : DataW.Whole enc Try.prog Try.f3.params.toList Rows.sectorScriptsSpec.vars false W args.toList ds gs before) (hsz : (DataW.weightsEach Try.prog (Try.f3.params.toList ++ Rows.sectorScriptsSpec.plain.varTypes Try.prog) (ds ++ gs)).all (· ≤ reachBytes) = true) :
    Calls Try.prog 3 args W fun e W' => ∃ v, e = .returned v ∧ Rows.sectorScriptsSpec.post enc Try.prog Try.f3 false true false false W args v W' := by
  have hW' := hW
  obtain ⟨p, q, hA0, hV, rfl, hfz, hnd⟩ := hW
  have hA : DataW.TrodAll enc Try.prog W 0 (fun _ => true) true Try.f3.params.toList args.toList ds p := hA0
  rw [Try.params3] at hA hval
  obtain ⟨v0, vs0, d0, ds0, p0, q0, hargs, rfl, rfl, h0, r0⟩ := trodAll_cons hA
  obtain ⟨v1, vs1, d1, ds1, p1, q1, rfl, rfl, rfl, h1, r1⟩ := trodAll_cons r0
  obtain ⟨rfl, rfl, rfl⟩ := trodAll_nil r1
  obtain rfl : args = #[v0, v1] := by cases args; simp_all
  obtain ⟨rfl, rfl⟩ := trodVars_none hV
  rw [Try.params3] at hsz
  obtain ⟨a0, rfl, rfl, rfl, w0⟩ := open_int Try.underlying3 (hval 0 3 v0 rfl rfl) h0
  obtain ⟨L, ao, cap, rfl, hA1, hz, hb⟩ := open_acts (hval 1 22 v1 rfl rfl) h1
  have hl : L.length ≤ 3600000000000 := by
    rcases hb with rfl | ⟨es, sp, rfl, he⟩
    · simp
    · have hb := sized_slice hsz (j := 1) (t := 22) rfl rfl Try.underlying22
      rw [show Try.prog.bytesOf 31 = 40 from by kernel_rfl] at hb
      have := reachBytes_lt
      omega
  by_cases hs : a0 < 1 ∨ 1026 < a0
  · exact (scripts_no a0 L ao cap W hs).mono fun e W' ⟨he, hg⟩ => ⟨_, he, law_post [3, 22] (by rw [Try.params3]) (by kernel_rfl) hW' rfl rfl rfl rfl rfl hg⟩
  · have hw := scripts_walk a0.toNat L ao cap W (by omega) (by omega) hA1 hz hl
    rw [Int.toNat_of_nonneg (by omega)] at hw
    exact hw.mono fun e W' ⟨he, hg⟩ => ⟨_, he, law_post [3, 22] (by rw [Try.params3]) (by kernel_rfl) hW' rfl rfl rfl rfl rfl hg⟩

set_option maxRecDepth 100000 in
theorem sectorScripts_lifted (os : Os) (started : os.Started) (H : Type) (enc : TypeId × Value → H) :
    ReturnsInHanded {} Try.checked os 3 .any (Rows.sectorScriptsSpec.pre6 enc Try.prog Try.f3 Rows.sectorScriptsRow.domain false) (Rows.sectorScriptsSpec.post enc Try.prog Try.f3 false true false false) := by
  refine returnsInHanded_of_change_sized (C := Try.checked) own started (by kernel_rfl) Try.func3
    (ChangeSpec.witness6 (enc := enc) (C := Try.checked) false ⟨#[], #[.int .i64 0, .slice none 0 0], []⟩ 8 (by kernel_rfl) (by kernel_rfl) (by kernel_rfl) (by kernel_rfl)) ?_
  intro W base args ds gs before hval hW hcnd hsz _
  exact sectorScripts_contract H enc W base args ds gs before hval hW hsz

theorem sectorScripts_holds : Rows.SectorScriptsSaid :=
  OpenClaim.holds_of_wide 3 Try.f3 rfl rfl rfl rfl rfl rfl rfl ⟨rfl, rfl, rfl, rfl, rfl⟩ rfl rfl rfl rfl rfl (by kernel_rfl) Try.func3 (by kernel_rfl)
    (of_decide_eq_true (by kernel_rfl)) (by unfold Func.isWrapper; first | (rw [if_pos (by decide +kernel)]; kernel_rfl) | (rw [if_neg (by decide +kernel)]; exact ⟨rfl, rfl⟩))
    (fun os started H enc _ => sectorScripts_lifted os started H enc)
end Go.Proofs.Ythomjcndaddbbaa
