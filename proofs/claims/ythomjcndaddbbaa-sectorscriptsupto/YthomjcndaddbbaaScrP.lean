/-
  SectorScripts is true at every input of bulk at most 1048576, and its arguments read as they did. No other condition.
-/
import Derived.Test.YthomjcndaddbbaaScrW
import Derived.Test.YthomjcndaddbbaaFin
namespace Go.Proofs.Ythomjcndaddbbaa
open Go.ChangeShapes Go.WideShapes Go.ChangeAt Go.RowKit

theorem sectorScripts_bound {H : Type} {a b : DataW H} (hk : Rows.uptoSmall H [a, b] = true) : Rows.uptoBulk b ≤ 1048576 := by
  have h : Rows.uptoBulkAll [a, b] ≤ 1048576 := of_decide_eq_true hk
  simp only [Rows.uptoBulkAll] at h
  omega

theorem sectorScripts_contract (H : Type) (enc : TypeId × Value → H) (W : World) (base : Nat) (args : Array Value) (ds gs : List (DataW H)) (before : List MemPlace)
    (hval : ∀ (j : Nat) t v, Try.f3.params[j]? = some t → args[j]? = some v → Value.okWide Try.prog W .any base t v)
    (hW : DataW.Whole enc Try.prog Try.f3.params.toList Rows.sectorScriptsSpec.vars false W args.toList ds gs before) (hk : Rows.uptoSmall H (ds ++ gs) = true) :
    Calls Try.prog 3 args W fun e W' => ∃ v, e = .returned v ∧ Rows.sectorScriptsSpec.post enc Try.prog Try.f3 false true false false W args v W' := by
  have hW' := hW
  obtain ⟨p, q, hA0, hV, rfl, hfz, hnd⟩ := hW
  have hA : DataW.TrodAll enc Try.prog W 0 (fun _ => true) true Try.f3.params.toList args.toList ds p := hA0
  rw [Try.params3] at hA hval
  obtain ⟨v0, vs0, d0, ds0, p0, q0, hargs, rfl, rfl, h0, r0⟩ := trodAll_cons hA
  obtain ⟨v1, vs1, d1, ds1, p1, q1, rfl, rfl, rfl, h1, r1⟩ := trodAll_cons r0
  obtain ⟨rfl, rfl, rfl⟩ := trodAll_nil r1
  obtain rfl : args = #[v0, v1] := by cases args; simp_all
  obtain ⟨rfl, rfl⟩ := trodVars_none hV
  obtain ⟨a0, rfl, rfl, rfl, w0⟩ := open_int Try.underlying3 (hval 0 3 v0 rfl rfl) h0
  obtain ⟨L, ao, cap, rfl, hA1, hz, hb⟩ := open_acts (hval 1 22 v1 rfl rfl) h1
  have hbd := sectorScripts_bound hk
  have hl : L.length ≤ 1048576 := by omega
  by_cases hs : a0 < 1 ∨ 1026 < a0
  · exact (scripts_no a0 L ao cap W hs).mono fun e W' ⟨he, hg⟩ => ⟨_, he, law_post [3, 22] (by rw [Try.params3]) (by kernel_rfl) hW' rfl rfl rfl rfl rfl hg⟩
  · have hw := scripts_walk a0.toNat L ao cap W (by omega) (by omega) hA1 hz hl
    rw [Int.toNat_of_nonneg (by omega)] at hw
    exact hw.mono fun e W' ⟨he, hg⟩ => ⟨_, he, law_post [3, 22] (by rw [Try.params3]) (by kernel_rfl) hW' rfl rfl rfl rfl rfl hg⟩

set_option maxRecDepth 100000 in
theorem sectorScripts_lifted (os : Os) (started : os.Started) (H : Type) (enc : TypeId × Value → H) (F : Stop.Interp) :
    ReturnsInHanded {} Try.checked os 3 .any ((Rows.OpenSpec.upto Rows.sectorScriptsSpec).pre6 enc Try.prog Try.f3 Rows.sectorScriptsUptoRow.domain false) (((Rows.OpenSpec.upto Rows.sectorScriptsSpec).at F).post enc Try.prog Try.f3 false true false false) := by
  refine returnsInHanded_of_cond (C := Try.checked) (s := Rows.OpenSpec.upto Rows.sectorScriptsSpec) (k := Rows.uptoSmall) rfl own started (by kernel_rfl) Try.func3
    (OpenSpec.witness (enc := enc) (C := Try.checked) (s := Rows.OpenSpec.upto Rows.sectorScriptsSpec) (k := Rows.uptoSmall) rfl false ⟨#[], #[.int .i64 0, .slice none 0 0], []⟩ 8 (by kernel_rfl) (by kernel_rfl) (by kernel_rfl)
      (x := ([.lit (.int .i64 0), .nil], [], [])) (by kernel_rfl) rfl (by kernel_rfl)) ?_
  intro W base args ds gs before hval hW _ hk _
  exact sectorScripts_contract H enc W base args ds gs before hval hW hk

theorem sectorScripts_holds : Rows.SectorScriptsUptoSaid :=
  OpenClaim.holds_of_cond 3 Try.f3 rfl rfl rfl rfl rfl rfl rfl ⟨rfl, rfl, rfl, rfl, rfl⟩ rfl rfl rfl rfl rfl (by kernel_rfl) Try.func3 (by kernel_rfl)
    (of_decide_eq_true (by kernel_rfl)) (by unfold Func.isWrapper; first | (rw [if_pos (by decide +kernel)]; kernel_rfl) | (rw [if_neg (by decide +kernel)]; exact ⟨rfl, rfl⟩))
    (fun os started H enc _ F => sectorScripts_lifted os started H enc F)
end Go.Proofs.Ythomjcndaddbbaa
