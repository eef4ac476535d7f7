/-
  AttrSets is true at every input, and its arguments read as they did. No condition.
-/
import Derived.Test.YtedcgmagkkoggaaSeW
import Derived.Test.YtedcgmagkkoggaaOp
namespace Go.Proofs.Ytedcgmagkkoggaa
open Go.ChangeShapes Go.WideShapes Go.ChangeAt Go.RowKit
section
variable {H : Type} {enc : TypeId × Value → H}
theorem open_cap {W : World} {v : Value} {d : DataW H} {p : List MemPlace} {base : Nat} (hv : Value.okWide Try.prog W .any base 23 v) (h : DataW.Trod enc Try.prog W 0 (fun _ => true) true 23 v d p) :
    ∃ (L : List Int) (ao : Option Addr) (cap : Nat), v = .slice ao L.length cap ∧ L.length ≤ cap ∧ IntsAt W ao L ∧ (d = .nil ∧ L = [] ∨ ∃ es sp, d = .slice es sp ∧ es.length = L.length) := by
  obtain ⟨a0, len0, cap0, rfl⟩ := okWide_slice Try.underlying23 hv
  obtain ⟨fuel, hf⟩ := h
  rcases ChangeShapes.open_ints Try.underlying23 Try.underlying3 Try.cellsOf3 hf with ⟨hcs, hx⟩ | ⟨a, len, cap, ss, hcs, hb, hl, hm, hlen, hx, hi, hz⟩
  · simp [Value.cells] at hcs
    obtain ⟨rfl, rfl, rfl⟩ := hcs
    cases hx
    exact ⟨[], none, 0, rfl, by simp, fun i hi => absurd hi (by simp), .inl ⟨rfl, rfl⟩⟩
  · simp [Value.cells] at hcs
    obtain ⟨rfl, rfl, rfl⟩ := hcs
    have hls : len0 ≤ ss.length := by rw [hlen]; simpa using hl
    have hlt : (ss.take len0).length = len0 := by rw [List.length_take]; omega
    cases hx
    refine ⟨ss.take len0, some a, cap0, by rw [hlt], by omega, ?_, .inr ⟨_, _, rfl, by simp [lits]⟩⟩
    intro i hil
    rw [hlt] at hil
    have h0 := hi 0 (by omega)
    have ha0 : a = ⟨a.block, a.off, none⟩ := by simpa [Addr.add] using plain_addr h0
    have hgl : a.block < W.heap.size := by simpa [Addr.add] using cell_block h0
    have hg : ss.getD i 0 = ss[i]'(by omega) := by simp [List.getD_eq_getElem?_getD, List.getElem?_eq_getElem (show i < ss.length by omega)]
    refine ⟨a.block, a.off, by rw [← ha0], hgl, ?_⟩
    have h1 := hi i (by omega)
    have e : a.add i = ⟨a.block, a.off + i, none⟩ := by
      rw [ha0]; exact add_plain _ _ _
    rw [e, hg] at h1
    rw [h1]
    simp
end
theorem attrSets_contract (H : Type) (enc : TypeId × Value → H) (W : World) (base : Nat) (args : Array Value) (ds gs : List (DataW H)) (before : List MemPlace)
    (hval : ∀ (j : Nat) t v, Try.f4.params[j]? = some t → args[j]? = some v → Value.okWide Try.prog W .any base t v)
    (hW : DataW.Whole enc Try.prog Try.f4.params.toList Rows.attrSetsSpec.vars false W args.toList ds gs before) (hsz : (DataW.weightsEach Try.prog (Try.f4.params.toList ++ Rows.attrSetsSpec.plain.varTypes Try.prog) (ds ++ gs)).all (· ≤ reachBytes) = true) :
    Calls Try.prog 4 args W fun e W' => ∃ v, e = .returned v ∧ Rows.attrSetsSpec.post enc Try.prog Try.f4 false true false false W args v W' := by
  have hW' := hW
  obtain ⟨p, q, hA0, hV, rfl, hfz, hnd⟩ := hW
  have hA : DataW.TrodAll enc Try.prog W 0 (fun _ => true) true Try.f4.params.toList args.toList ds p := hA0
  rw [Try.params4] at hA hval
  obtain ⟨v0, vs0, d0, ds0, p0, q0, hargs, rfl, rfl, h0, r0⟩ := trodAll_cons hA
  obtain ⟨v1, vs1, d1, ds1, p1, q1, rfl, rfl, rfl, h1, r1⟩ := trodAll_cons r0
  obtain ⟨v2, vs2, d2, ds2, p2, q2, rfl, rfl, rfl, h2, r2⟩ := trodAll_cons r1
  obtain ⟨rfl, rfl, rfl⟩ := trodAll_nil r2
  obtain rfl : args = #[v0, v1, v2] := by cases args; simp_all
  obtain ⟨rfl, rfl⟩ := trodVars_none hV
  rw [Try.params4] at hsz
  obtain ⟨L0, hL0, rfl⟩ := open_bools Try.underlying34 (by kernel_rfl) (hval 0 34 v0 rfl rfl) h0
  obtain ⟨a0_0, a0_1, a0_2, a0_3, rfl⟩ : ∃ a0_0 a0_1 a0_2 a0_3, L0 = [a0_0, a0_1, a0_2, a0_3] := by
    match L0, hL0 with
    | [a0_0, a0_1, a0_2, a0_3], _ => exact ⟨a0_0, a0_1, a0_2, a0_3, rfl⟩
  obtain ⟨L1, hL1, rfl⟩ := open_arr Try.underlying35 (by kernel_rfl) (hval 1 35 v1 rfl rfl) h1
  obtain ⟨a1_0, a1_1, a1_2, a1_3, a1_4, a1_5, a1_6, a1_7, a1_8, a1_9, rfl⟩ : ∃ a1_0 a1_1 a1_2 a1_3 a1_4 a1_5 a1_6 a1_7 a1_8 a1_9, L1 = [a1_0, a1_1, a1_2, a1_3, a1_4, a1_5, a1_6, a1_7, a1_8, a1_9] := by
    match L1, hL1 with
    | [a1_0, a1_1, a1_2, a1_3, a1_4, a1_5, a1_6, a1_7, a1_8, a1_9], _ => exact ⟨a1_0, a1_1, a1_2, a1_3, a1_4, a1_5, a1_6, a1_7, a1_8, a1_9, rfl⟩
  obtain ⟨L2, ao2, cap2, rfl, hc2, hI2, hb2⟩ := open_cap (hval 2 23 v2 rfl rfl) h2
  have hl2 : L2.length * 8 ≤ 140737488351232 := by
    rcases hb2 with ⟨_, rfl⟩ | ⟨es, sp, rfl, he⟩
    · simp
    · have hb := sized_slice hsz (j := 2) (t := 23) rfl rfl Try.underlying23
      rw [show Try.prog.bytesOf 3 = 8 from by kernel_rfl] at hb
      have : reachBytes = 140737488351232 := rfl
      omega
  exact (sets_walk a0_0 a0_1 a0_2 a0_3 a1_0 a1_1 a1_2 a1_3 a1_4 a1_5 a1_6 a1_7 a1_8 a1_9 ao2 L2 cap2 W hI2 (by omega) hc2).mono fun e W' ⟨he, hg⟩ => ⟨_, he, law_post [34, 35, 23] (by rw [Try.params4]) (by kernel_rfl) hW' rfl rfl rfl rfl rfl hg⟩

set_option maxRecDepth 100000 in
theorem attrSets_lifted (os : Os) (started : os.Started) (H : Type) (enc : TypeId × Value → H) :
    ReturnsInHanded {} Try.checked os 4 .any (Rows.attrSetsSpec.pre6 enc Try.prog Try.f4 Rows.attrSetsRow.domain false) (Rows.attrSetsSpec.post enc Try.prog Try.f4 false true false false) := by
  refine returnsInHanded_of_change_sized (C := Try.checked) own started (by kernel_rfl) Try.func4
    (ChangeSpec.witness6 (enc := enc) (C := Try.checked) false ⟨#[], #[.agg #[.bool false, .bool false, .bool false, .bool false], .agg #[.int .i64 0, .int .i64 0, .int .i64 0, .int .i64 0, .int .i64 0, .int .i64 0, .int .i64 0, .int .i64 0, .int .i64 0, .int .i64 0], .slice none 0 0], []⟩ 8 (by kernel_rfl) (by kernel_rfl) (by kernel_rfl) (by kernel_rfl)) ?_
  intro W base args ds gs before hval hW hcnd hsz _
  exact attrSets_contract H enc W base args ds gs before hval hW hsz

theorem attrSets_holds : Rows.AttrSetsSaid :=
  OpenClaim.holds_of_wide 4 Try.f4 rfl rfl rfl rfl rfl rfl rfl ⟨rfl, rfl, rfl, rfl, rfl⟩ rfl rfl rfl rfl rfl (by kernel_rfl) Try.func4 (by kernel_rfl)
    (of_decide_eq_true (by kernel_rfl)) (by unfold Func.isWrapper; first | (rw [if_pos (by decide +kernel)]; kernel_rfl) | (rw [if_neg (by decide +kernel)]; exact ⟨rfl, rfl⟩))
    (fun os started H enc _ => attrSets_lifted os started H enc)
end Go.Proofs.Ytedcgmagkkoggaa
