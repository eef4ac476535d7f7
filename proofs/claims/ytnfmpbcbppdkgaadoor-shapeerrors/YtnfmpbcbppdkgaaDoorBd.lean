/-
  A strings.Builder of the call's own: a text behind what it holds. (The library's copyCheck has a wall in this translation, so its contract is walked here.) Its condition: what it holds and the text are short.
-/
import Derived.Test.YtnfmpbcbppdkgaaDoorShelf
import Derived.Test.YtnfmpbcbppdkgaaDoorRows
import Derived.Lib.Hide
import Derived.WalkKit
import Derived.Lib.AppendStr
import Derived.Lib.Builder
import Derived.Deep.LoopGhost
namespace Go.Proofs.YtnfmpbcbppdkgaaDoor
open Go.RowKit
abbrev BIs (B b : Nat) (l : List UInt8) (w : World) : Prop := Lib.IsBuilder 54 5 B b (Lib.byteCells l) w
theorem info46 : (Tryd.prog.info? 54).map (·.size) = some 2 := by kernel_rfl
theorem size46 : ∃ j : TypeInfo, Tryd.prog.info? 54 = some j ∧ j.size = 2 := by
  have h := info46
  cases e : Tryd.prog.info? 54 with
  | none => rw [e] at h; cases h
  | some j => rw [e] at h; exact ⟨j, rfl, by simpa using h⟩
theorem self_eq (w : World) (b : Nat) : (binOp .neq 51 (.pointer (some ⟨b, 0, none⟩)) (.pointer (some ⟨b, 0, none⟩))).run Tryd.prog w = .ok (.bool false) w := by
  obtain ⟨j, hj, _⟩ := size46
  exact Lib.run_neq_ptr_same w ⟨b, 0, none⟩ Tryd.underlying51 hj
theorem there_back (w : World) (b : Nat) (h : w.shape? b = some (54, 2)) :
    (convert 51 91 (.pointer (some ⟨b, 0, none⟩))).run Tryd.prog w = .ok (.pointer (some ⟨b, 0, none⟩)) w ∧ (convert 91 51 (.pointer (some ⟨b, 0, none⟩))).run Tryd.prog w = .ok (.pointer (some ⟨b, 0, none⟩)) w := by
  obtain ⟨j, hj, h2⟩ := size46
  exact ⟨Lib.run_to_unsafe w ⟨b, 0, none⟩ Tryd.underlying51 Tryd.underlying91 hj (by omega) h (by show 0 < 2; omega), Lib.run_from_unsafe w ⟨b, 0, none⟩ Tryd.underlying91 Tryd.underlying51 hj h (by kernel_rfl)⟩
set_option maxRecDepth 100000 in
set_option maxHeartbeats 1000000 in
/-- Behind the check the builder knows itself. -/
theorem check_self (B b : Nat) (cs : List Value) (w : World) (h : Lib.IsBuilder 54 5 B b cs w) :
    Calls Tryd.prog 29 #[.pointer (some ⟨b, 0, none⟩)] w fun e w' => e = .returned (.tuple #[]) ∧ Lib.BuilderAt 54 5 B b (.pointer (some ⟨b, 0, none⟩)) cs w' ∧ Below B w w' := by
  have hse := fun w => self_eq w b
  rcases h with h | h
  · have c0 := h.cell0
    have hsh := h.shape
    obtain ⟨hB, v, hbk, hown, hne⟩ := h
    have hfz : w.frozen? ⟨b, 0, none⟩ = false := Lib.frozen_of_heap hbk 0
    obtain ⟨k1, k2⟩ := there_back w b hsh
    have HO := Lib.hid hown
    have HN := Lib.hid hne
    have HK := Lib.hid hbk
    clear hown hne hbk hsh
    have hex : (callFunc 35 #[.pointer (some ⟨b, 0, none⟩)]).run Tryd.prog w = .ok (Next.value (.pointer (some ⟨b, 0, none⟩))) w := by
      rw [run_callFunc_extern Tryd.func35 (by kernel_rfl) (by kernel_rfl) (by kernel_rfl) (e := Extern.AbiNoEscape.same) (by kernel_rfl), Lib.run_noEscape]
      rfl
    have hst : Lib.BuilderAt 54 5 B b (.pointer (some ⟨b, 0, none⟩)) cs (w.setCell ⟨b, 0, none⟩ (.pointer (some ⟨b, 0, none⟩))) ∧ Below B w (w.setCell ⟨b, 0, none⟩ (.pointer (some ⟨b, 0, none⟩))) := by
      refine ⟨⟨hB, v, ?_, ?_, HN.out⟩, (Below.refl B w).setCell (p := ⟨b, 0, none⟩) hB _⟩
      · simp [World.setCell, Array.getElem?_modify, HK.out]
      · refine ⟨HO.out.1, ?_⟩
        rcases HO.out.2 with e | ⟨g, cap, cur, e, h1, h2, h3⟩
        · exact .inl e
        · refine .inr ⟨g, cap, cur, e, h1, ?_, h3⟩
          have hgb : g ≠ b := fun e2 => HN.out (by rw [e, e2]; rfl)
          exact (Below.heap_setCell _ _ _ _ hgb).trans h2
    have HS := Lib.hid hst
    clear hst
    have c1 : (w.setCell ⟨b, 0, none⟩ (.pointer (some ⟨b, 0, none⟩))).cell? ⟨b, 0, none⟩ = some (.pointer (some ⟨b, 0, none⟩)) := HS.out.1.cell0
    go_enter Tryd.func29, Tryd.ntmps29
    go_wp2
    go_end0
    exact ⟨rfl, HS.out⟩
  · have c0 := h.cell0
    have HH := Lib.hid h
    clear h
    go_enter Tryd.func29, Tryd.ntmps29
    go_wp2
    go_end0
    exact ⟨rfl, HH.out, Below.refl _ _⟩
set_option maxRecDepth 100000 in
set_option maxHeartbeats 1000000 in
/-- A text more. -/
theorem write_text (B b : Nat) (l : List UInt8) (s : ByteArray) (w : World) (h : BIs B b l w) (hl : l.length + s.size ≤ 1000000) (hBw : B ≤ w.heap.size) :
    Calls Tryd.prog 20 #[.pointer (some ⟨b, 0, none⟩), .string s] w fun e w' => (∃ v, e = .returned v) ∧ BIs B b (l ++ s.data.toList) w' ∧ Below B w w' := by
  obtain ⟨i0, hi, hz0, hz1, hz2⟩ := info_parts Tryd.Builder_Extra_169.infoByte
  have hi5 : Tryd.prog.info? 5 = some i0 := hi
  clear hi
  go_enter Tryd.func20, Tryd.ntmps20
  go_wp2_with fail
  refine (check_self B b (Lib.byteCells l) w h).mono ?_
  rintro e w1 ⟨rfl, hat, hb1⟩
  obtain ⟨hB, v, hbk, hown, hne⟩ := hat
  have c0 : w1.cell? ⟨b, 0, none⟩ = some (.pointer (some ⟨b, 0, none⟩)) := by rw [Lib.cell_of_heap hbk]; rfl
  have c1 : w1.cell? ⟨b, 1, none⟩ = some v := by rw [Lib.cell_of_heap hbk]; rfl
  have hlt : b < w1.heap.size := (Array.getElem?_eq_some_iff.1 hbk).1
  have hcl : (Lib.byteCells l).length = l.length := by simp [Lib.byteCells]
  have HB1 := Lib.hid hb1
  have HN := Lib.hid hne
  have HK := Lib.hid hbk
  have HO := Lib.hid hown
  clear hb1 hne hbk hown h
  go_wp2_with (at_builtin; refine Lib.wpList_append_own_string _ rfl (.tmp 12) (.tmp 13) 52 9 rfl B 5 i0 Tryd.underlying52 Tryd.underlying9 hi5 hz0 hz1 hz2 v _ _ rfl HO.out s rfl (by rw [hcl]; unfold maxLen; omega) (by rw [hcl]; omega) (by have := HB1.out.size; omega) ?_)
  intro v' w2 hown' hgrow _
  have hb2 : w2.heap[b]? = some (.cells #[.pointer (some ⟨b, 0, none⟩), v] 54 (0, 0)) := by
    rw [hgrow.block b hlt (fun e => HN.out e.symm)]
    exact HK.out
  have d0 : w2.cell? ⟨b, 0, none⟩ = some (.pointer (some ⟨b, 0, none⟩)) := by rw [Lib.cell_of_heap hb2]; rfl
  have d1 : w2.cell? ⟨b, 1, none⟩ = some v := by rw [Lib.cell_of_heap hb2]; rfl
  have f1 : w2.frozen? ⟨b, 1, none⟩ = false := Lib.frozen_of_heap hb2 1
  have hfin : BIs B b (l ++ s.data.toList) (w2.setCell ⟨b, 1, none⟩ v') ∧ Below B w (w2.setCell ⟨b, 1, none⟩ v') := by
    have e1 : Lib.byteCells (l ++ s.data.toList) = Lib.byteCells l ++ Lib.strCells s := by simp [Lib.byteCells, Lib.strCells]
    refine ⟨.inr ?_, ?_⟩
    · rw [e1]
      exact Lib.BuilderAt.put (T := 54) (e := 5) hB hb2 (bs' := Lib.byteCells l ++ Lib.strCells s) (by rw [List.length_append, Lib.strCells_length, hcl]; exact hown') (by decide)
    · exact (HB1.out.grown hgrow (by have := HB1.out.size; omega) (fun k hk => (HO.out.lt k hk).1)).setCell (p := ⟨b, 1, none⟩) hB _
  have HF := Lib.hid hfin
  have hsl : ∃ ao n' cap, v' = .slice ao n' cap := by
    rcases hown'.2 with ⟨hv, _⟩ | ⟨g, cap, cur, hv, _⟩
    · exact ⟨_, _, _, hv⟩
    · exact ⟨_, _, _, hv⟩
  clear hfin hown' hgrow hb2
  obtain ⟨ao, n', cap, rfl⟩ := hsl
  go_wp2
  go_ret2
  exact ⟨⟨_, rfl⟩, HF.out⟩
end Go.Proofs.YtnfmpbcbppdkgaaDoor
