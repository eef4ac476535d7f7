/-
  AttrForms is true at every input, and its arguments read as they did; the card ties the listed variables to the program's text. No condition but the card's own.
-/
import Derived.Test.YtakfpfnaogdmlaaDoorRows
import Derived.WalkKit
import Derived.ProofKit
import Derived.OpenShut
import Derived.ShutString
import Derived.SizedLaws
import Derived.JoinedCond
import Derived.Test.YtakfpfnaogdmlaaDoorLn
import Derived.SliceStrings
import Derived.ChangeSlices
import Derived.Test.YtakfpfnaogdmlaaDoorAw
import Derived.Deep.Slices
import Derived.Test.YtakfpfnaogdmlaaDoorCards
import Derived.Test.YtakfpfnaogdmlaaDoorTie
import Derived.LaidMore
import Derived.Stop.Joined
namespace Go.Proofs.YtakfpfnaogdmlaaDoor
section
open Go.RowKit Go.WideShapes Go.ChangeShapes
theorem own : ownKnob Tryd.prog.godebug = none := by kernel_rfl
theorem laidOut : laidOutB Tryd.prog = true := by kernel_rfl

section
variable {H : Type} {enc : TypeId × Value → H}

theorem all_below {P : Program} (hl : laidOutB P = true) {W W' : World} (hb : Below W.heap.size W W') : ∀ (ts : List TypeId) (_ : ts.all (fun t => P.readableRec t && decide (t < P.types.size)) = true) (vs : List Value) (ds : List (DataW H)) (ps : List MemPlace),
    DataW.TrodAll enc P W 0 (fun _ => true) true ts vs ds ps → (∀ x ∈ ps, x.block < W.heap.size) → DataW.TrodAll enc P W' 0 (fun b => decide (b < W.heap.size)) true ts vs ds ps
  | [], _, vs, ds, ps, h, _ => by
    obtain ⟨rfl, rfl, rfl⟩ := trodAll_nil h
    exact trodAll_mk0
  | t :: ts, ht, vs, ds, ps, h, hlt => by
    obtain ⟨v, vs', d, ds', p, q, rfl, rfl, rfl, h1, h2⟩ := trodAll_cons h
    simp only [List.all_cons, Bool.and_eq_true, decide_eq_true_eq] at ht
    exact trodAll_cons_mk (Below.trod hl ht.1.1 ht.1.2 h1 hb fun x hx => hlt x (List.mem_append.2 (Or.inl hx)))
      (all_below hl hb ts ht.2 vs' ds' q h2 fun x hx => hlt x (List.mem_append.2 (Or.inr hx)))

/-- THE END OF A LAW. -/
theorem law_post {f : Func} {s : ChangeSpec} {W W' : World} {args : Array Value} {ds gs : List (DataW H)} {before : List MemPlace} (ts : List TypeId) (hf : f.params.toList = ts)
    (hts : ts.all (fun t => Tryd.prog.readableRec t && decide (t < Tryd.prog.types.size)) = true) (hW : DataW.Whole enc Tryd.prog f.params.toList s.vars false W args.toList ds gs before) (hv : s.vars = [])
    (hr : (s.fn H (ds ++ gs)).results = [.lit (.bool true)]) (ha : (s.fn H (ds ++ gs)).args = ds) (hvv : (s.fn H (ds ++ gs)).vars = []) (hres : f.resultTypes = #[4]) (hb : Below W.heap.size W W') :
    s.post enc Tryd.prog f false true false false W args (.bool true) W' := by
  have hlt : ∀ x ∈ before, x.block < W.heap.size := fun x hx => hW.lt x hx
  have hW' := hW
  obtain ⟨p, q, hA, hV, rfl, _, _⟩ := hW
  rw [hv] at hV
  obtain ⟨rfl, rfl⟩ := trodVars_none hV
  simp only [List.append_nil] at hW' hlt hr ha hvv
  refine ⟨ds, [], p, [], p, [], hW', ?_, ?_, ?_, hb.frame _, fun h => by cases h⟩
  · simp only [List.append_nil]
    rw [hr, hres]
    exact trodAll_mk1 (shut_bool Tryd.underlying4 true)
  · simp only [List.append_nil]
    rw [ha]
    rw [hf] at hA ⊢
    exact all_below laidOut hb ts hts _ _ _ hA hlt
  · simp only [List.append_nil]
    rw [hv, hvv]
    rfl
end
theorem u64_lt {n : Int} (h : (Lit.int .u64 n).wf = true) : n.toNat < 18446744073709551616 := by
  simp [Lit.wf, IntKind.min, IntKind.max, IntKind.bits, IntKind.signed] at h
  omega
end
section
open Go.ChangeShapes Go.WideShapes Go.ChangeAt Go.RowKit
theorem plain_addr {w : World} {a : Addr} {v : Value} (h : w.cell? a = some v) : a = ⟨a.block, a.off, none⟩ := by
  obtain ⟨g, off, sp⟩ := a
  cases sp with
  | none => rfl
  | some k => simp [World.cell?] at h; split at h <;> simp at h
theorem cell_block {w : World} {a : Addr} {v : Value} (h : w.cell? a = some v) : a.block < w.heap.size := World.block_lt_of_cell? w a h
theorem add_plain (b o i : Nat) : (⟨b, o, none⟩ : Addr).add i = ⟨b, o + i, none⟩ := by unfold Addr.add; split <;> simp_all
theorem Tryd.cells9 : Tryd.prog.cellsOf 9 = 1 := by kernel_rfl
section
variable {H : Type} {enc : TypeId × Value → H}
theorem weights_strs : ∀ (L : List ByteArray) (s : ByteArray), s ∈ L → s.data.toList.length ∈ DataW.weightsAll Tryd.prog 9 (Go.ChangeShapes.strs L : List (DataW H))
  | x :: L, s, h => by
    rcases List.mem_cons.1 h with rfl | h
    · simp [Go.ChangeShapes.strs, DataW.weightsAll, DataW.weights]
    · have := weights_strs L s h
      simp only [Go.ChangeShapes.strs, List.map_cons, DataW.weightsAll, List.mem_append]
      exact .inr this
set_option maxRecDepth 100000 in
theorem open_texts {W : World} {v : Value} {d : DataW H} {p : List MemPlace} {base : Nat} (hv : Value.okWide Tryd.prog W .any base 24 v) (h : DataW.Trod enc Tryd.prog W 0 (fun _ => true) true 24 v d p) :
    ∃ (L : List ByteArray) (ao : Option Addr) (cap : Nat), v = .slice ao L.length cap ∧ StsAt W.heap.size W ao L ∧ (L.length ≤ cap ∧ cap ≤ 9223372036854775807) ∧ (d = .nil ∧ L = [] ∨ ∃ sp, d = .slice (Go.ChangeShapes.strs L) sp) := by
  obtain ⟨a0, len0, cap0, rfl⟩ := okWide_slice Tryd.underlying24 hv
  obtain ⟨fuel, hf⟩ := h
  rcases open_strings Tryd.underlying24 Tryd.underlying9 Tryd.cells9 hf with ⟨hcs, hx⟩ | ⟨a, len, cap, ss, hcs, hb, hl, hm, hlen, hx, hi, hz⟩
  · simp [Value.cells] at hcs
    obtain ⟨rfl, rfl, rfl⟩ := hcs
    cases hx
    exact ⟨[], none, 0, rfl, fun i hi => absurd hi (by simp), by simp, .inl ⟨rfl, rfl⟩⟩
  · simp [Value.cells] at hcs
    obtain ⟨rfl, rfl, rfl⟩ := hcs
    have hls : len0 ≤ ss.length := by rw [hlen]; simpa using hl
    have hlt : (ss.take len0).length = len0 := by rw [List.length_take]; omega
    cases hx
    refine ⟨ss.take len0, some a, cap0, by rw [hlt], ?_, by rw [hlt]; exact ⟨hl, by unfold maxLen at hm; omega⟩, .inr ⟨_, rfl⟩⟩
    intro i hil
    rw [hlt] at hil
    have h0 := hi 0 (by omega)
    have ha0 : a = ⟨a.block, a.off, none⟩ := by simpa [Addr.add] using plain_addr h0
    have hgl : a.block < W.heap.size := by simpa [Addr.add] using cell_block h0
    refine ⟨a.block, a.off, by rw [← ha0], hgl, ?_⟩
    have h1 := hi i (by omega)
    have e : a.add i = ⟨a.block, a.off + i, none⟩ := by
      rw [ha0]; exact add_plain _ _ _
    rw [e] at h1
    rw [h1, List.getElem_take]
    simp [List.getD_eq_getElem?_getD, List.getElem?_eq_getElem (show i < ss.length by omega)]
theorem Tryd.cells3 : Tryd.prog.cellsOf 3 = 1 := by kernel_rfl
theorem int_range {n : Int} (h : (Lit.int .i64 n).wf = true) : -9223372036854775808 ≤ n ∧ n ≤ 9223372036854775807 := by
  simp [Lit.wf, IntKind.min, IntKind.max, IntKind.bits, IntKind.signed] at h
  omega
set_option maxRecDepth 100000 in
theorem open_groups {W : World} {v : Value} {d : DataW H} {p : List MemPlace} {base : Nat} (hv : Value.okWide Tryd.prog W .any base 23 v) (h : DataW.Trod enc Tryd.prog W 0 (fun _ => true) true 23 v d p) :
    ∃ (L : List Int) (ao : Option Addr) (cap : Nat), v = .slice ao L.length cap ∧ ItsAt W.heap.size W ao L ∧ (L.length ≤ cap ∧ cap ≤ 9223372036854775807) ∧ (∀ x ∈ L, -9223372036854775808 ≤ x ∧ x ≤ 9223372036854775807) ∧ (d = .nil ∧ L = [] ∨ ∃ es sp, d = .slice es sp ∧ es.length = L.length) := by
  obtain ⟨a0, len0, cap0, rfl⟩ := okWide_slice Tryd.underlying23 hv
  obtain ⟨fuel, hf⟩ := h
  rcases ChangeShapes.open_ints Tryd.underlying23 Tryd.underlying3 Tryd.cells3 hf with ⟨hcs, hx⟩ | ⟨a, len, cap, ss, hcs, hb, hl, hm, hlen, hx, hi, hz⟩
  · simp [Value.cells] at hcs
    obtain ⟨rfl, rfl, rfl⟩ := hcs
    cases hx
    exact ⟨[], none, 0, rfl, fun i hi => absurd hi (by simp), by simp, by simp, .inl ⟨rfl, rfl⟩⟩
  · simp [Value.cells] at hcs
    obtain ⟨rfl, rfl, rfl⟩ := hcs
    have hls : len0 ≤ ss.length := by rw [hlen]; simpa using hl
    have hlt : (ss.take len0).length = len0 := by rw [List.length_take]; omega
    cases hx
    refine ⟨ss.take len0, some a, cap0, by rw [hlt], ?_, by rw [hlt]; exact ⟨hl, by unfold maxLen at hm; omega⟩, fun x hx => int_range (hz x (List.mem_of_mem_take hx)), .inr ⟨_, _, rfl, by simp [lits]⟩⟩
    intro i hil
    rw [hlt] at hil
    have h0 := hi 0 (by omega)
    have ha0 : a = ⟨a.block, a.off, none⟩ := by simpa [Addr.add] using plain_addr h0
    have hgl : a.block < W.heap.size := by simpa [Addr.add] using cell_block h0
    have hg : ss.getD i 0 = ss[i]'(by omega) := by simp [List.getD_eq_getElem?_getD, List.getElem?_eq_getElem (show i < ss.length by omega)]
    refine ⟨a.block, a.off, by rw [← ha0], hgl, ?_⟩
    have h1 := hi i (by omega)
    have e : a.add i = ⟨a.block, a.off + i, none⟩ := by
      rw [ha0]; exact add_plain _ _ _
    rw [e, hg] at h1
    rw [h1]
    simp
end
end
open Go.ChangeShapes Go.WideShapes Go.ChangeAt Go.RowKit
open Go.ChangeMaps (open_string)

theorem Tryd.cellsOf4 : Tryd.prog.cellsOf 4 = 1 := by kernel_rfl
def intOfV : Value → Int
  | .int _ n => n
  | _ => 0
def boolOfV : Value → Bool
  | .bool b => b
  | _ => false
theorem drop_take_one {α : Type} (l : List α) (i : Nat) (h : i < l.length) : (l.drop (i * 1)).take 1 = [l[i]] := by
  rw [Nat.mul_one, List.drop_eq_getElem_cons h]
  rfl
section
variable {H : Type} {enc : TypeId × Value → H}
set_option maxRecDepth 100000 in
theorem open_arr {W : World} {v : Value} {d : DataW H} {p : List MemPlace} {base n : Nat} {t : TypeId} (hu : Tryd.prog.underlying t = some (.array n 3)) (hC : Tryd.prog.cellsOf t = n) (hv : Value.okWide Tryd.prog W .any base t v) (h : DataW.Trod enc Tryd.prog W 0 (fun _ => true) true t v d p) :
    ∃ L : List Int, L.length = n ∧ v = .agg (L.map fun x => Value.int .i64 x).toArray ∧ ∀ x ∈ L, -9223372036854775808 ≤ x ∧ x ≤ 9223372036854775807 := by
  simp only [Value.okWide, hu] at hv
  obtain ⟨cs, rfl, hc, _⟩ := hv
  rw [hC] at hc
  obtain ⟨fuel, hf⟩ := h
  obtain ⟨xs, m, _, _, _, hl, hg⟩ := DataW.trod_array hu hf
  have key : ∀ i (hi : i < cs.toList.length), ∃ k, cs.toList[i] = .int .i64 k ∧ (Lit.int .i64 k).wf = true := fun i hi => by
    have hi' : i < cs.size := by simpa using hi
    have h1 := hg i (by omega)
    rw [Tryd.cells3] at h1
    have hcs : (Value.agg cs).cells = cs := rfl
    rw [hcs, drop_take_one _ _ hi, List.getElem?_eq_getElem (by omega)] at h1
    obtain ⟨k, e, _, hw⟩ := DataW.trod_int Tryd.underlying3 h1
    simp only [List.cons.injEq, and_true] at e
    exact ⟨k, e, hw⟩
  refine ⟨cs.toList.map intOfV, by simp [hc], ?_, fun x hx => ?_⟩
  · congr 1
    apply Array.ext'
    rw [List.toList_toArray, List.map_map]
    symm
    refine (List.map_congr_left (g := id) (fun u hu2 => ?_)).trans (List.map_id _)
    obtain ⟨i, hi, rfl⟩ := List.mem_iff_getElem.1 hu2
    obtain ⟨k, e, _⟩ := key i hi
    rw [e]
    rfl
  · obtain ⟨u, hu2, rfl⟩ := List.mem_map.1 hx
    obtain ⟨i, hi, rfl⟩ := List.mem_iff_getElem.1 hu2
    obtain ⟨k, e, hw⟩ := key i hi
    rw [e]
    exact int_range hw
set_option maxRecDepth 100000 in
theorem open_bools {W : World} {v : Value} {d : DataW H} {p : List MemPlace} {base n : Nat} {t : TypeId} (hu : Tryd.prog.underlying t = some (.array n 4)) (hC : Tryd.prog.cellsOf t = n) (hv : Value.okWide Tryd.prog W .any base t v) (h : DataW.Trod enc Tryd.prog W 0 (fun _ => true) true t v d p) :
    ∃ L : List Bool, L.length = n ∧ v = .agg (L.map fun x => Value.bool x).toArray := by
  simp only [Value.okWide, hu] at hv
  obtain ⟨cs, rfl, hc, _⟩ := hv
  rw [hC] at hc
  obtain ⟨fuel, hf⟩ := h
  obtain ⟨xs, m, _, _, _, hl, hg⟩ := DataW.trod_array hu hf
  refine ⟨cs.toList.map boolOfV, by simp [hc], ?_⟩
  congr 1
  apply Array.ext'
  rw [List.toList_toArray, List.map_map]
  symm
  refine (List.map_congr_left (g := id) (fun u hu2 => ?_)).trans (List.map_id _)
  obtain ⟨i, hi, rfl⟩ := List.mem_iff_getElem.1 hu2
  have hi' : i < cs.size := by simpa using hi
  have h1 := hg i (by omega)
  rw [Tryd.cellsOf4] at h1
  have hcs : (Value.agg cs).cells = cs := rfl
  rw [hcs, drop_take_one _ _ hi, List.getElem?_eq_getElem (by omega)] at h1
  obtain ⟨k, e, _⟩ := DataW.trod_bool Tryd.underlying4 h1
  simp only [List.cons.injEq, and_true] at e
  rw [e]
  rfl
end
theorem ints17 (L : List Int) (h : L.length = 17) : ∃ x0 x1 x2 x3 x4 x5 x6 x7 x8 x9 x10 x11 x12 x13 x14 x15 x16, L = [x0, x1, x2, x3, x4, x5, x6, x7, x8, x9, x10, x11, x12, x13, x14, x15, x16] := by
  match L, h with
  | [x0, x1, x2, x3, x4, x5, x6, x7, x8, x9, x10, x11, x12, x13, x14, x15, x16], _ => exact ⟨x0, x1, x2, x3, x4, x5, x6, x7, x8, x9, x10, x11, x12, x13, x14, x15, x16, rfl⟩
theorem ints10 (L : List Int) (h : L.length = 10) : ∃ y0 y1 y2 y3 y4 y5 y6 y7 y8 y9, L = [y0, y1, y2, y3, y4, y5, y6, y7, y8, y9] := by
  match L, h with
  | [y0, y1, y2, y3, y4, y5, y6, y7, y8, y9], _ => exact ⟨y0, y1, y2, y3, y4, y5, y6, y7, y8, y9, rfl⟩
theorem bools4 (L : List Bool) (h : L.length = 4) : ∃ a b c d, L = [a, b, c, d] := by
  match L, h with
  | [a, b, c, d], _ => exact ⟨a, b, c, d, rfl⟩
/-- The heap that the door's own run leaves meets the row's list. -/
theorem door_met (os : Os) (args : Array Value) : laidMetH Tryd.prog Rows.attrFormsRow.laid ((World.doorLaid Tryd.prog 400 os).forCall (fun _ _ => 0) ⟨#[], args, []⟩).memory :=
  laidMetH_of_parts3 (fuel := 8) (laidMet_of_run' 8 (by kernel_rfl) (by kernel_rfl)) (by kernel_rfl) (by kernel_rfl)

set_option maxRecDepth 100000 in
set_option maxHeartbeats 4000000 in
theorem attrForms_lifted (os : Os) (started : os.Started) (H : Type) (enc : TypeId × Value → H) :
    ReturnsInHanded {} Tryd.checked os 4 .any (fun w args => (Rows.attrFormsSpec.pre enc Tryd.prog Tryd.f4 [] false w args ∧ laidMetH Tryd.prog Rows.attrFormsRow.laid w) ∧ sizedMet enc Tryd.prog Tryd.f4 (OpenSpec.ofChange Rows.attrFormsSpec) false w args)
      (Rows.attrFormsSpec.post enc Tryd.prog Tryd.f4 false true false false) := by
  refine returnsInHanded_of_change_and (C := Tryd.checked) (X := fun w _ => laidMetH Tryd.prog Rows.attrFormsRow.laid w) (fun _ _ _ hh h => h.of_heap hh) own started (by kernel_rfl) Tryd.func4
    (ChangeSpec.witness_shaped (enc := enc) (C := Tryd.checked) (os := os) (X := fun w _ => laidMetH Tryd.prog Rows.attrFormsRow.laid w) false (World.doorLaid Tryd.prog 400 os) #[.agg #[.int .i64 0, .int .i64 0, .int .i64 0, .int .i64 0, .int .i64 0, .int .i64 0, .int .i64 0, .int .i64 0, .int .i64 0, .int .i64 0, .int .i64 0, .int .i64 0, .int .i64 0, .int .i64 0, .int .i64 0, .int .i64 0, .int .i64 0], .agg #[.bool false, .bool false, .bool false, .bool false], .agg #[.int .i64 0, .int .i64 0, .int .i64 0, .int .i64 0, .int .i64 0, .int .i64 0, .int .i64 0, .int .i64 0, .int .i64 0, .int .i64 0]] 8 rfl (World.shaped_of_RefB (by kernel_rfl) (by kernel_rfl)) (by kernel_rfl) (by kernel_rfl) (by kernel_rfl) (door_met os _)) ?_
  intro W base args ds gs before hval0 hW _ _ _ _
  have hval : ∀ (j : Nat) t v, Tryd.f4.params[j]? = some t → args[j]? = some v → Value.okWide Tryd.prog W .any base t v := hval0
  have hW' := hW
  obtain ⟨p, q, hA0, hV, rfl, hfz, hnd⟩ := hW
  have hA : DataW.TrodAll enc Tryd.prog W 0 (fun _ => true) true Tryd.f4.params.toList args.toList ds p := hA0
  rw [Tryd.params4] at hA hval
  obtain ⟨v0, vs0, d0, ds0, p0, q0, hargs, rfl, rfl, h0, r0⟩ := trodAll_cons hA
  obtain ⟨v1, vs1, d1, ds1, p1, q1, rfl, rfl, rfl, h1, r1⟩ := trodAll_cons r0
  obtain ⟨v2, vs2, d2, ds2, p2, q2, rfl, rfl, rfl, h2, r2⟩ := trodAll_cons r1
  obtain ⟨rfl, rfl, rfl⟩ := trodAll_nil r2
  obtain rfl : args = #[v0, v1, v2] := by cases args; simp_all
  obtain ⟨rfl, rfl⟩ := trodVars_none hV
  obtain ⟨L0, hL0, rfl, hr0⟩ := open_arr Tryd.underlying33 (by kernel_rfl) (hval 0 33 v0 rfl rfl) h0
  obtain ⟨x0, x1, x2, x3, x4, x5, x6, x7, x8, x9, x10, x11, x12, x13, x14, x15, x16, rfl⟩ := ints17 L0 hL0
  obtain ⟨L1, hL1, rfl⟩ := open_bools Tryd.underlying34 (by kernel_rfl) (hval 1 34 v1 rfl rfl) h1
  obtain ⟨b0, b1, b2, b3, rfl⟩ := bools4 L1 hL1
  obtain ⟨L2, hL2, rfl, hr2⟩ := open_arr Tryd.underlying35 (by kernel_rfl) (hval 2 35 v2 rfl rfl) h2
  obtain ⟨y0, y1, y2, y3, y4, y5, y6, y7, y8, y9, rfl⟩ := ints10 L2 hL2
  exact (forms_walk x0 x1 x2 x3 x4 x5 x6 x7 x8 x9 x10 x11 x12 x13 x14 x15 x16 b0 b1 b2 b3 y0 y1 y2 y3 y4 y5 y6 y7 y8 y9 hr0 ⟨hr2 y0 (by simp), hr2 y1 (by simp), hr2 y2 (by simp), hr2 y3 (by simp)⟩ W).mono fun e W' ⟨he, hg⟩ => ⟨_, he, law_post [33, 34, 35] (by rw [Tryd.params4]) (by kernel_rfl) hW' rfl rfl rfl rfl rfl hg⟩

theorem attrForms_holds : Rows.AttrFormsSaid :=
  OpenClaim.holds_of_wide 4 Tryd.f4 rfl rfl rfl rfl rfl rfl rfl ⟨rfl, rfl, rfl, rfl, rfl⟩ rfl rfl rfl rfl rfl (by kernel_rfl) Tryd.func4 (by kernel_rfl)
    (of_decide_eq_true (by kernel_rfl)) (by unfold Func.isWrapper; first | (rw [if_pos (by decide +kernel)]; kernel_rfl) | (rw [if_neg (by decide +kernel)]; exact ⟨rfl, rfl⟩))
    (fun os started H enc _ => attrForms_lifted os started H enc)

theorem attrForms_card : Rows.AttrFormsCardSaid :=
  Claim7.holds_tied_plain_at .later [] [.data, .data, .data, .sentinel, .sentinel] true (true, "799979eed7c01227616fd73d93e116d0b93dcb6d21997d308d6995864213b0ef") true
    attrForms_holds (fun _ h => by cases h) (by kernel_rfl) (fun _ h => by cases h) attrForms_row_tie rfl ⟨rfl, rfl⟩ (by kernel_rfl) rfl
    (fun f fn hf hfn => by
      obtain rfl : f = 4 := Option.some.inj ((show Tryd.prog.funcNamed "coracle/coraclelaw09.AttrForms" = some 4 by kernel_rfl).symm.trans hf) |>.symm
      obtain rfl : fn = Tryd.f4 := (Option.some.inj (Tryd.func4.symm.trans hfn)).symm
      exact ⟨by kernel_rfl, fun j t ht => by
        rw [Tryd.params4] at ht
        have hm : t ∈ [33, 34, 35] := by simpa using Array.mem_of_getElem? ht
        have hall : ([33, 34, 35].all fun u => !Tryd.prog.wantsStandIn u) = true := by kernel_rfl
        exact (show Tryd.prog.wantsStandIn t = false by simpa using List.all_eq_true.1 hall t hm)⟩)
    (by kernel_rfl)
end Go.Proofs.YtakfpfnaogdmlaaDoor
