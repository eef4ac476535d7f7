/-
  SchemaRows is true at every input of bulk up to 1048576, and its arguments read as they did; the card ties the listed variables to the program's text. Its condition: the arguments hold together at most 1048576 values and letters.
-/
import Derived.Test.YtakfpfnaogdmlaaDoorSrw
import Derived.Test.YtakfpfnaogdmlaaDoorFin
import Derived.Test.YtakfpfnaogdmlaaDoorOq
import Derived.Test.YtakfpfnaogdmlaaDoorCards
import Derived.Test.YtakfpfnaogdmlaaDoorTie
import Derived.LaidMore
import Derived.Stop.Joined
import Derived.SliceStrings
import Derived.ChangeSlices
import Derived.Deep.DeepHandedRow
import Derived.Deep.DeepWitnessRowRef
namespace Go.Proofs.YtakfpfnaogdmlaaDoor
open Go.ChangeShapes Go.WideShapes Go.ChangeAt Go.RowKit
open Go.ChangeMaps (open_string)
section
variable {H : Type} {enc : TypeId × Value → H}
theorem Tryd.cells22 : Tryd.prog.cellsOf 22 = 2 := by kernel_rfl
set_option maxRecDepth 100000 in
theorem open_two {W : World} {v : Value} {d : DataW H} {p : List MemPlace} {base : Nat} (hv : Value.okWide Tryd.prog W .any base 22 v) (h : DataW.Trod enc Tryd.prog W 0 (fun _ => true) true 22 v d p) :
    ∃ s0 s1 : ByteArray, v = .agg #[.string s0, .string s1] ∧ d = .agg [.lit (.string s0.data.toList), .lit (.string s1.data.toList)] := by
  simp only [Value.okWide, Tryd.underlying22] at hv
  obtain ⟨cs, rfl, hc, _⟩ := hv
  rw [Tryd.cells22] at hc
  obtain ⟨fuel, hf⟩ := h
  obtain ⟨c0, c1, rfl⟩ : ∃ c0 c1, cs = #[c0, c1] := by
    obtain ⟨l⟩ := cs
    match l, hc with
    | [c0, c1], _ => exact ⟨c0, c1, rfl⟩
  obtain ⟨xs, m, _, hx, _, hl, hg⟩ := DataW.trod_array Tryd.underlying22 hf
  obtain ⟨x0, x1, rfl⟩ : ∃ x0 x1, xs = [x0, x1] := by
    match xs, hl with
    | [c0, c1], _ => exact ⟨c0, c1, rfl⟩
  have h0 : DataW.trod enc Tryd.prog W 0 (fun _ => true) true m 9 [c0] = some x0 := by
    have := hg 0 (by decide)
    rw [Tryd.cells9] at this
    exact this
  have h1 : DataW.trod enc Tryd.prog W 0 (fun _ => true) true m 9 [c1] = some x1 := by
    have := hg 1 (by decide)
    rw [Tryd.cells9] at this
    exact this
  obtain ⟨s0, e0, hx0, _⟩ := DataW.trod_string Tryd.underlying9 h0
  obtain ⟨s1, e1, hx1, _⟩ := DataW.trod_string Tryd.underlying9 h1
  simp only [List.cons.injEq, and_true] at e0 e1
  subst e0 e1 hx0 hx1
  simp only [List.map_cons, List.map_nil, Prod.mk.injEq] at hx
  exact ⟨s0, s1, rfl, hx.1⟩
end
theorem bulk_one {H : Type} (d : DataW H) : 1 ≤ Rows.uptoBulk d := by
  cases d with
  | lit l => cases l <;> simp [Rows.uptoBulk]
  | _ => simp [Rows.uptoBulk]
theorem bulk_length {H : Type} : ∀ l : List (DataW H), l.length ≤ Rows.uptoBulkAll l
  | [] => by simp [Rows.uptoBulkAll]
  | d :: l => by
    have h1 := bulk_one d
    have h2 := bulk_length l
    simp only [Rows.uptoBulkAll, List.length_cons]
    omega
/-- The heap that the door's own run leaves meets the row's list. -/
theorem door_met (os : Os) (args : Array Value) : laidMetH Tryd.prog Rows.schemaRowsUptoRow.laid ((World.doorLaid Tryd.prog 400 os).forCall (fun _ _ => 0) ⟨#[], args, []⟩).memory :=
  laidMetH_of_parts3 (fuel := 8) (laidMet_of_run' 8 (by kernel_rfl) (by kernel_rfl)) (by kernel_rfl) (by kernel_rfl)
theorem reads (os : Os) {H : Type} (enc : TypeId × Value → H) : ∃ places, DataW.whole enc Tryd.prog ((World.doorLaid Tryd.prog 400 os).forCall (fun _ _ => 0) ⟨#[], #[.agg #[.string ⟨#[]⟩, .string ⟨#[]⟩], .slice none 0 0, .slice none 0 0], []⟩).memory Tryd.f3.params.toList Rows.schemaRowsSpec.vars false #[Value.agg #[.string ⟨#[]⟩, .string ⟨#[]⟩], .slice none 0 0, .slice none 0 0].toList 8 = some ([.agg [.lit (.string []), .lit (.string [])], .nil, .nil], [], places) :=
  ⟨[], by kernel_rfl⟩
set_option maxRecDepth 100000 in
set_option maxHeartbeats 1000000 in
theorem schemaRows_lifted (os : Os) (started : os.Started) (H : Type) (enc : TypeId × Value → H) (F : Stop.Interp) :
    ReturnsInHanded {} Tryd.checked os 3 .any ((Rows.OpenSpec.upto Rows.schemaRowsSpec).preRow enc Tryd.prog Tryd.f3 Rows.schemaRowsUptoRow.domain false Rows.schemaRowsUptoRow.laid) (((Rows.OpenSpec.upto Rows.schemaRowsSpec).at F).post enc Tryd.prog Tryd.f3 false true false false) := by
  obtain ⟨places, hx⟩ := reads os enc
  refine returnsInHanded_of_row (C := Tryd.checked) (s := Rows.OpenSpec.upto Rows.schemaRowsSpec) own started (by kernel_rfl) Tryd.func3
    (witness_row_atRef (enc := enc) (C := Tryd.checked) false (World.doorLaid Tryd.prog 400 os) #[.agg #[.string ⟨#[]⟩, .string ⟨#[]⟩], .slice none 0 0, .slice none 0 0] rfl (by kernel_rfl) (by kernel_rfl) (by kernel_rfl)
      (OpenSpec.preRow_of_cond 8 hx (by kernel_rfl) (fun k hk => by cases hk; kernel_rfl) (by kernel_rfl) (door_met os _))) ?_
  intro W base args ds gs before hval0 hW _ hcond _ _ _ _
  have hval : ∀ (j : Nat) t v, Tryd.f3.params[j]? = some t → args[j]? = some v → Value.okWide Tryd.prog W .any base t v := hval0
  have hk := of_decide_eq_true (hcond _ rfl)
  have hW' := hW
  obtain ⟨p, q, hA0, hV, rfl, hfz, hnd⟩ := hW
  have hA : DataW.TrodAll enc Tryd.prog W 0 (fun _ => true) true Tryd.f3.params.toList args.toList ds p := hA0
  rw [Tryd.params3] at hA hval
  obtain ⟨v0, vs0, d0, ds0, p0, q0, hargs, rfl, rfl, h0, r0⟩ := trodAll_cons hA
  obtain ⟨v1, vs1, d1, ds1, p1, q1, rfl, rfl, rfl, h1, r1⟩ := trodAll_cons r0
  obtain ⟨v2, vs2, d2, ds2, p2, q2, rfl, rfl, rfl, h2, r2⟩ := trodAll_cons r1
  obtain ⟨rfl, rfl, rfl⟩ := trodAll_nil r2
  obtain rfl : args = #[v0, v1, v2] := by cases args; simp_all
  obtain ⟨rfl, rfl⟩ := trodVars_none hV
  obtain ⟨s0, s1, rfl, rfl⟩ := open_two (hval 0 22 v0 rfl rfl) h0
  obtain ⟨A, aN, cN, rfl, hI, hcn, -, hd⟩ := open_groups (hval 1 23 v1 rfl rfl) h1
  obtain ⟨T, aT, cT, rfl, hS, hct, hd2⟩ := open_texts (hval 2 24 v2 rfl rfl) h2
  have hl0 : s0.data.toList.length ≤ 281474976710656 ∧ s1.data.toList.length ≤ 281474976710656 := by
    simp only [List.append_nil, Rows.uptoBulkAll, Rows.uptoBulk] at hk
    omega
  have hl : A.length ≤ 1048576 := by
    rcases hd with ⟨-, rfl⟩ | ⟨es, sp, rfl, he⟩
    · simp
    · have h3 := bulk_length es
      simp only [List.append_nil, Rows.uptoBulkAll, Rows.uptoBulk] at hk
      omega
  have hl2 : T.length ≤ 1048576 := by
    rcases hd2 with ⟨-, rfl⟩ | ⟨sp, rfl⟩
    · simp
    · have h3 := bulk_length (Go.ChangeShapes.strs T : List (DataW H))
      have h4 : (Go.ChangeShapes.strs T : List (DataW H)).length = T.length := by simp [Go.ChangeShapes.strs]
      simp only [List.append_nil, Rows.uptoBulkAll, Rows.uptoBulk] at hk
      omega
  have e0 : (⟨s0.data.toList.toArray⟩ : ByteArray) = s0 := by simp
  have e1 : (⟨s1.data.toList.toArray⟩ : ByteArray) = s1 := by simp
  have hwalk := rows_walk s0.data.toList s1.data.toList A T aN aT cN cT W (fun i hi => hI i hi) (fun i hi => hS i hi) hcn hct hl hl2 hl0
  rw [e0, e1] at hwalk
  exact hwalk.mono fun e W' ⟨he, hg⟩ => ⟨_, he, law_post [22, 23, 24] (by rw [Tryd.params3]) (by kernel_rfl) hW' rfl rfl rfl rfl rfl hg⟩
theorem schemaRows_upto : Rows.SchemaRowsUptoSaid :=
  OpenClaim.holds_of_cond 3 Tryd.f3 rfl rfl rfl rfl rfl rfl rfl ⟨rfl, rfl, rfl, rfl, rfl⟩ rfl rfl rfl rfl rfl (by kernel_rfl) Tryd.func3 (by kernel_rfl)
    (of_decide_eq_true (by kernel_rfl)) (by unfold Func.isWrapper; first | (rw [if_pos (by decide +kernel)]; kernel_rfl) | (rw [if_neg (by decide +kernel)]; exact ⟨rfl, rfl⟩))
    (fun os started H enc _ F => by rw [OpenClaim.pre_eq_preRow]; exact schemaRows_lifted os started H enc F)
theorem schemaRows_uptoCard : Rows.SchemaRowsUptoCardSaid :=
  Claim7.holds_tied_plain_at .later [] [.data, .data, .data, .sentinel, .sentinel] true (true, "799979eed7c01227616fd73d93e116d0b93dcb6d21997d308d6995864213b0ef") true
    schemaRows_upto (fun _ h => by cases h) (by kernel_rfl) (fun _ h => by cases h) schemaRowsUpto_row_tie rfl ⟨rfl, rfl⟩ (by kernel_rfl) rfl
    (fun f fn hf hfn => by
      obtain rfl : f = 3 := Option.some.inj ((show Tryd.prog.funcNamed "coracle/coraclelaw02.SchemaRows" = some 3 by kernel_rfl).symm.trans hf) |>.symm
      obtain rfl : fn = Tryd.f3 := (Option.some.inj (Tryd.func3.symm.trans hfn)).symm
      exact ⟨by kernel_rfl, fun j t ht => by
        rw [Tryd.params3] at ht
        have hm : t ∈ [22, 23, 24] := by simpa using Array.mem_of_getElem? ht
        have hall : ([22, 23, 24].all fun u => !Tryd.prog.wantsStandIn u) = true := by kernel_rfl
        exact (show Tryd.prog.wantsStandIn t = false by simpa using List.all_eq_true.1 hall t hm)⟩)
    (by kernel_rfl)
end Go.Proofs.YtakfpfnaogdmlaaDoor
