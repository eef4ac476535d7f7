/-
  SchemaCounts is true at every input, and its arguments read as they did; the card ties the listed variables to the program's text. No condition but the card's own.
-/
import Derived.Test.YtfblnbcdnokdnaaDoorCnW
import Derived.Test.YtfblnbcdnokdnaaDoorFin
import Derived.Test.YtfblnbcdnokdnaaDoorCards
import Derived.Test.YtfblnbcdnokdnaaDoorTie
import Derived.LaidMore
import Derived.SliceStrings
import Derived.Stop.Joined
namespace Go.Proofs.YtfblnbcdnokdnaaDoor
open Go.ChangeShapes Go.WideShapes Go.ChangeAt Go.RowKit
open Go.ChangeMaps (open_string)

theorem plain_addr {w : World} {a : Addr} {v : Value} (h : w.cell? a = some v) : a = ⟨a.block, a.off, none⟩ := by
  obtain ⟨g, off, sp⟩ := a
  cases sp with
  | none => rfl
  | some k => simp [World.cell?] at h; split at h <;> simp at h
theorem cell_block {w : World} {a : Addr} {v : Value} (h : w.cell? a = some v) : a.block < w.heap.size := World.block_lt_of_cell? w a h
theorem add_plain (b o i : Nat) : (⟨b, o, none⟩ : Addr).add i = ⟨b, o + i, none⟩ := by unfold Addr.add; split <;> simp_all
theorem Tryd.cells9 : Tryd.prog.cellsOf 9 = 1 := by kernel_rfl
section
variable {H : Type} {enc : TypeId × Value → H}
theorem weights_strs : ∀ (L : List ByteArray) (s : ByteArray), s ∈ L → s.data.toList.length ∈ DataW.weightsAll Tryd.prog 9 (Go.ChangeShapes.strs L : List (DataW H))
  | x :: L, s, h => by
    rcases List.mem_cons.1 h with rfl | h
    · simp [Go.ChangeShapes.strs, DataW.weightsAll, DataW.weights]
    · have := weights_strs L s h
      simp only [Go.ChangeShapes.strs, List.map_cons, DataW.weightsAll, List.mem_append]
      exact .inr this
set_option maxRecDepth 100000 in
theorem open_texts {W : World} {v : Value} {d : DataW H} {p : List MemPlace} {base : Nat} (hv : Value.okWide Tryd.prog W .any base 26 v) (h : DataW.Trod enc Tryd.prog W 0 (fun _ => true) true 26 v d p) :
    ∃ (L : List ByteArray) (ao : Option Addr) (cap : Nat), v = .slice ao L.length cap ∧ StsAt W.heap.size W ao L ∧ (L.length ≤ cap ∧ cap ≤ 9223372036854775807) ∧ (d = .nil ∧ L = [] ∨ ∃ sp, d = .slice (Go.ChangeShapes.strs L) sp) := by
  obtain ⟨a0, len0, cap0, rfl⟩ := okWide_slice Tryd.underlying26 hv
  obtain ⟨fuel, hf⟩ := h
  rcases open_strings Tryd.underlying26 Tryd.underlying9 Tryd.cells9 hf with ⟨hcs, hx⟩ | ⟨a, len, cap, ss, hcs, hb, hl, hm, hlen, hx, hi, hz⟩
  · simp [Value.cells] at hcs
    obtain ⟨rfl, rfl, rfl⟩ := hcs
    cases hx
    exact ⟨[], none, 0, rfl, fun i hi => absurd hi (by simp), by simp, .inl ⟨rfl, rfl⟩⟩
  · simp [Value.cells] at hcs
    obtain ⟨rfl, rfl, rfl⟩ := hcs
    have hls : len0 ≤ ss.length := by rw [hlen]; simpa using hl
    have hlt : (ss.take len0).length = len0 := by rw [List.length_take]; omega
    cases hx
    refine ⟨ss.take len0, some a, cap0, by rw [hlt], ?_, by rw [hlt]; exact ⟨hl, by unfold maxLen at hm; omega⟩, .inr ⟨_, rfl⟩⟩
    intro i hil
    rw [hlt] at hil
    have h0 := hi 0 (by omega)
    have ha0 : a = ⟨a.block, a.off, none⟩ := by simpa [Addr.add] using plain_addr h0
    have hgl : a.block < W.heap.size := by simpa [Addr.add] using cell_block h0
    refine ⟨a.block, a.off, by rw [← ha0], hgl, ?_⟩
    have h1 := hi i (by omega)
    have e : a.add i = ⟨a.block, a.off + i, none⟩ := by
      rw [ha0]; exact add_plain _ _ _
    rw [e] at h1
    rw [h1, List.getElem_take]
    simp [List.getD_eq_getElem?_getD, List.getElem?_eq_getElem (show i < ss.length by omega)]
end
/-- The heap that the door's own run leaves meets the row's list. -/
theorem door_met (os : Os) (args : Array Value) : laidMetH Tryd.prog Rows.schemaCountsRow.laid ((World.doorLaid Tryd.prog 400 os).forCall (fun _ _ => 0) ⟨#[], args, []⟩).memory :=
  laidMetH_of_parts3 (fuel := 8) (laidMet_of_run' 8 (by kernel_rfl) (by kernel_rfl)) (by kernel_rfl) (by kernel_rfl)

set_option maxRecDepth 100000 in
theorem schemaCounts_lifted (os : Os) (started : os.Started) (H : Type) (enc : TypeId × Value → H) :
    ReturnsInHanded {} Tryd.checked os 6 .any (fun w args => (Rows.schemaCountsSpec.pre enc Tryd.prog Tryd.f6 [] false w args ∧ laidMetH Tryd.prog Rows.schemaCountsRow.laid w) ∧ sizedMet enc Tryd.prog Tryd.f6 (OpenSpec.ofChange Rows.schemaCountsSpec) false w args)
      (Rows.schemaCountsSpec.post enc Tryd.prog Tryd.f6 false true false false) := by
  refine returnsInHanded_of_change_and (C := Tryd.checked) (X := fun w _ => laidMetH Tryd.prog Rows.schemaCountsRow.laid w) (fun _ _ _ hh h => h.of_heap hh) own started (by kernel_rfl) Tryd.func6
    (ChangeSpec.witness_shaped (enc := enc) (C := Tryd.checked) (os := os) (X := fun w _ => laidMetH Tryd.prog Rows.schemaCountsRow.laid w) false (World.doorLaid Tryd.prog 400 os) #[.slice none 0 0, .int .i64 0] 8 rfl (World.shaped_of_RefB (by kernel_rfl) (by kernel_rfl)) (by kernel_rfl) (by kernel_rfl) (by kernel_rfl) (door_met os _)) ?_
  intro W base args ds gs before hval0 hW _ hsz _ _
  have hval : ∀ (j : Nat) t v, Tryd.f6.params[j]? = some t → args[j]? = some v → Value.okWide Tryd.prog W .any base t v := hval0
  have hW' := hW
  obtain ⟨p, q, hA0, hV, rfl, hfz, hnd⟩ := hW
  have hA : DataW.TrodAll enc Tryd.prog W 0 (fun _ => true) true Tryd.f6.params.toList args.toList ds p := hA0
  rw [Tryd.params6] at hA hval
  obtain ⟨v0, vs0, d0, ds0, p0, q0, hargs, rfl, rfl, h0, r0⟩ := trodAll_cons hA
  obtain ⟨v1, vs1, d1, ds1, p1, q1, rfl, rfl, rfl, h1, r1⟩ := trodAll_cons r0
  obtain ⟨rfl, rfl, rfl⟩ := trodAll_nil r1
  obtain rfl : args = #[v0, v1] := by cases args; simp_all
  obtain ⟨rfl, rfl⟩ := trodVars_none hV
  obtain ⟨L, ao, cap, rfl, hI, hcap, hd⟩ := open_texts (hval 0 26 v0 rfl rfl) h0
  obtain ⟨n, rfl, rfl, rfl, _⟩ := open_int Tryd.underlying3 (hval 1 3 v1 rfl rfl) h1
  have hS : ∀ s ∈ L, s.size ≤ 140737488355328 := by
    intro s hs
    rcases hd with ⟨_, rfl⟩ | ⟨sp, rfl⟩
    · cases hs
    · have hm : s.data.toList.length ∈ DataW.weights Tryd.prog 26 (.slice (Go.ChangeShapes.strs L) sp : DataW H) := by
        simp only [DataW.weights, Tryd.underlying26, List.mem_cons, List.mem_append]
        exact .inr (.inl (weights_strs L s hs))
      rw [Tryd.params6] at hsz
      have h2 := List.all_eq_true.1 hsz _ (DataW.weights_mem_each (j := 0) (t := 26) rfl rfl _ hm)
      have h3 := of_decide_eq_true h2
      have h4 := reachBytes_lt
      simp at h3
      omega
  obtain ⟨m, hm0, hm1, hmn⟩ : ∃ m : Nat, 1 ≤ m ∧ m ≤ 99999 ∧ (if n < 1 ∨ 99999 < n then 9 else n) = (m : Int) := by
    split
    · exact ⟨9, by decide, by decide, rfl⟩
    · exact ⟨n.toNat, by omega, by omega, by omega⟩
  exact (counts_in (L.take 1000) ao cap L n m W rfl hm0 hm1 hmn hI hcap hS).mono fun e W' ⟨he, hg⟩ => ⟨_, he, law_post [26, 3] (by rw [Tryd.params6]) (by kernel_rfl) hW' rfl rfl rfl rfl rfl hg⟩

theorem schemaCounts_holds : Rows.SchemaCountsSaid :=
  OpenClaim.holds_of_wide 6 Tryd.f6 rfl rfl rfl rfl rfl rfl rfl ⟨rfl, rfl, rfl, rfl, rfl⟩ rfl rfl rfl rfl rfl (by kernel_rfl) Tryd.func6 (by kernel_rfl)
    (of_decide_eq_true (by kernel_rfl)) (by unfold Func.isWrapper; first | (rw [if_pos (by decide +kernel)]; kernel_rfl) | (rw [if_neg (by decide +kernel)]; exact ⟨rfl, rfl⟩))
    (fun os started H enc _ => schemaCounts_lifted os started H enc)

theorem schemaCounts_card : Rows.SchemaCountsCardSaid :=
  Claim7.holds_tied_plain_at .later [] [.data, .data, .data, .sentinel, .sentinel] true (true, "1b36708f64cd12bca4add3eef68c278867cfe0b83c1ad0d48589f096151e1424") true
    schemaCounts_holds (fun _ h => by cases h) (by kernel_rfl) (fun _ h => by cases h) schemaCounts_row_tie rfl ⟨rfl, rfl⟩ (by kernel_rfl) rfl
    (fun f fn hf hfn => by
      obtain rfl : f = 6 := Option.some.inj ((show Tryd.prog.funcNamed "coracle/coraclelaw02.SchemaCounts" = some 6 by kernel_rfl).symm.trans hf) |>.symm
      obtain rfl : fn = Tryd.f6 := (Option.some.inj (Tryd.func6.symm.trans hfn)).symm
      exact ⟨by kernel_rfl, fun j t ht => by
        rw [Tryd.params6] at ht
        have hm : t ∈ [26, 3] := by simpa using Array.mem_of_getElem? ht
        have hall : ([26, 3].all fun u => !Tryd.prog.wantsStandIn u) = true := by kernel_rfl
        exact (show Tryd.prog.wantsStandIn t = false by simpa using List.all_eq_true.1 hall t hm)⟩)
    (by kernel_rfl)
end Go.Proofs.YtfblnbcdnokdnaaDoor
