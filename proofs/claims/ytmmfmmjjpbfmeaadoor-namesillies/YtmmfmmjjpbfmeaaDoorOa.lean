/-
  A pair of ints that came in; the table of powers out of what is laid. No condition.
-/
import Derived.Test.YtmmfmmjjpbfmeaaDoorSw
import Derived.Test.YtmmfmmjjpbfmeaaDoorFin
import Derived.ChangeSlices
import Derived.LaidMore
import Derived.Lib.LaidTab
namespace Go.Proofs.YtmmfmmjjpbfmeaaDoor
open Go.ChangeShapes Go.WideShapes Go.ChangeAt Go.RowKit
theorem cellsOf3 : Tryd.prog.cellsOf 3 = 1 := by kernel_rfl
def intOfV : Value → Int
  | .int _ n => n
  | _ => 0
theorem drop_take_one {α : Type} (l : List α) (i : Nat) (h : i < l.length) : (l.drop (i * 1)).take 1 = [l[i]] := by
  rw [Nat.mul_one, List.drop_eq_getElem_cons h]
  rfl
theorem i64_le {n : Int} (h : (Lit.int .i64 n).wf = true) : n ≤ 9223372036854775807 := by
  simp [Lit.wf, IntKind.min, IntKind.max, IntKind.bits, IntKind.signed] at h
  omega
section
variable {H : Type} {enc : TypeId × Value → H}
theorem open_pair {W : World} {v : Value} {d : DataW H} {p : List MemPlace} {base : Nat} (hv : Value.okWide Tryd.prog W .any base 34 v) (h : DataW.Trod enc Tryd.prog W 0 (fun _ => true) true 34 v d p) :
    ∃ x y : Int, v = .agg #[.int .i64 x, .int .i64 y] ∧ x ≤ 9223372036854775807 ∧ y ≤ 9223372036854775807 := by
  have hu : Tryd.prog.underlying 34 = some (.array 2 3) := Tryd.underlying34
  simp only [Value.okWide, hu] at hv
  obtain ⟨cs, rfl, hc, _⟩ := hv
  rw [show Tryd.prog.cellsOf 34 = 2 from by kernel_rfl] at hc
  obtain ⟨fuel, hf⟩ := h
  obtain ⟨xs, m, _, _, _, hl, hg⟩ := DataW.trod_array hu hf
  have hone : ∀ i (hi : i < 2), ∃ z : Int, cs[i]? = some (.int .i64 z) ∧ z ≤ 9223372036854775807 := by
    intro i hi
    have h1 := hg i (by omega)
    rw [cellsOf3] at h1
    have hcs : (Value.agg cs).cells = cs := rfl
    rw [hcs, drop_take_one _ _ (by simp; omega), List.getElem?_eq_getElem (by omega)] at h1
    obtain ⟨k, e, _, hw⟩ := DataW.trod_int Tryd.underlying3 h1
    simp only [List.cons.injEq, and_true] at e
    refine ⟨k, ?_, i64_le hw⟩
    rw [Array.getElem?_eq_getElem (by omega)]
    rw [← e]
    simp
  obtain ⟨x, hx, hxm⟩ := hone 0 (by omega)
  obtain ⟨y, hy, hym⟩ := hone 1 (by omega)
  refine ⟨x, y, ?_, hxm, hym⟩
  congr 1
  apply Array.ext
  · simpa using hc
  · intro i h1 h2
    have h3 : i = 0 ∨ i = 1 := by omega
    rcases h3 with rfl | rfl
    · rw [Array.getElem?_eq_getElem h1] at hx
      simpa using hx
    · rw [Array.getElem?_eq_getElem h1] at hy
      simpa using hy
end
theorem pw_of {W : World} (h : laidMetH Tryd.prog Rows.nameSilliesRow.laid W) : Pw W := by
  rw [MakeChecks.laidMetH_plain _ _ _ (by kernel_rfl)] at h
  obtain ⟨ps, hl, _, _⟩ := h
  obtain ⟨g1, t1, cs1, f1, p1, q1, _, _, _, _, hr1, _⟩ := hl
  obtain ⟨g2, t2, cs2, f2, p2, q2, _, _, _, _, hr2, _⟩ := hr1
  obtain ⟨g3, t3, cs3, f3, p3, q3, hg, ht, hvar, hd, _, _⟩ := hr2
  obtain rfl := Option.some.inj ((show Tryd.prog.globalNamed "internal/strconv.uint64pow10" = some 1 by kernel_rfl).symm.trans hg)
  obtain rfl := Option.some.inj ((show (Tryd.prog.globals[1]?).map (·.type) = some 67 by kernel_rfl).symm.trans ht)
  unfold Pw Lib.TabIs
  rw [hvar, ← Lib.cells_of_tab (k := .u64) (zs := Lib.pow10Tab) Tryd.underlying67 Tryd.underlying61 (by kernel_rfl) (by kernel_rfl) hd]
end Go.Proofs.YtmmfmmjjpbfmeaaDoor
