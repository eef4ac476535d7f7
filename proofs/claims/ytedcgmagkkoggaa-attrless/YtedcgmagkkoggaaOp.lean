/-
  Arrays and lists of numbers that came in. No condition.
-/
import Derived.Test.YtedcgmagkkoggaaFin
import Derived.Test.YtedcgmagkkoggaaAp
import Derived.Deep.Slices
import Derived.ChangeSlices
namespace Go.Proofs.Ytedcgmagkkoggaa
open Go.ChangeShapes Go.WideShapes Go.ChangeAt Go.RowKit
theorem Try.cellsOf3 : Try.prog.cellsOf 3 = 1 := by kernel_rfl
theorem Try.cellsOf4 : Try.prog.cellsOf 4 = 1 := by kernel_rfl
theorem plain_addr {w : World} {a : Addr} {v : Value} (h : w.cell? a = some v) : a = ⟨a.block, a.off, none⟩ := by
  obtain ⟨g, off, sp⟩ := a
  cases sp with
  | none => rfl
  | some k => simp [World.cell?] at h; split at h <;> simp at h
theorem cell_block {w : World} {a : Addr} {v : Value} (h : w.cell? a = some v) : a.block < w.heap.size := World.block_lt_of_cell? w a h
theorem add_plain (b o i : Nat) : (⟨b, o, none⟩ : Addr).add i = ⟨b, o + i, none⟩ := by unfold Addr.add; split <;> simp_all
def intOfV : Value → Int
  | .int _ n => n
  | _ => 0
def boolOfV : Value → Bool
  | .bool b => b
  | _ => false
theorem drop_take_one {α : Type} (l : List α) (i : Nat) (h : i < l.length) : (l.drop (i * 1)).take 1 = [l[i]] := by
  rw [Nat.mul_one, List.drop_eq_getElem_cons h]
  rfl
section
variable {H : Type} {enc : TypeId × Value → H}
theorem open_arr {W : World} {v : Value} {d : DataW H} {p : List MemPlace} {base n : Nat} {t : TypeId} (hu : Try.prog.underlying t = some (.array n 3)) (hC : Try.prog.cellsOf t = n) (hv : Value.okWide Try.prog W .any base t v) (h : DataW.Trod enc Try.prog W 0 (fun _ => true) true t v d p) :
    ∃ L : List Int, L.length = n ∧ v = .agg (L.map fun x => Value.int .i64 x).toArray := by
  simp only [Value.okWide, hu] at hv
  obtain ⟨cs, rfl, hc, _⟩ := hv
  rw [hC] at hc
  obtain ⟨fuel, hf⟩ := h
  obtain ⟨xs, m, _, _, _, hl, hg⟩ := DataW.trod_array hu hf
  refine ⟨cs.toList.map intOfV, by simp [hc], ?_⟩
  congr 1
  apply Array.ext'
  rw [List.toList_toArray, List.map_map]
  symm
  refine (List.map_congr_left (g := id) (fun u hu2 => ?_)).trans (List.map_id _)
  obtain ⟨i, hi, rfl⟩ := List.mem_iff_getElem.1 hu2
  have hi' : i < cs.size := by simpa using hi
  have h1 := hg i (by omega)
  rw [Try.cellsOf3] at h1
  have hcs : (Value.agg cs).cells = cs := rfl
  rw [hcs, drop_take_one _ _ hi, List.getElem?_eq_getElem (by omega)] at h1
  obtain ⟨k, e, _, _⟩ := DataW.trod_int Try.underlying3 h1
  simp only [List.cons.injEq, and_true] at e
  rw [e]
  rfl
theorem open_bools {W : World} {v : Value} {d : DataW H} {p : List MemPlace} {base n : Nat} {t : TypeId} (hu : Try.prog.underlying t = some (.array n 4)) (hC : Try.prog.cellsOf t = n) (hv : Value.okWide Try.prog W .any base t v) (h : DataW.Trod enc Try.prog W 0 (fun _ => true) true t v d p) :
    ∃ L : List Bool, L.length = n ∧ v = .agg (L.map fun x => Value.bool x).toArray := by
  simp only [Value.okWide, hu] at hv
  obtain ⟨cs, rfl, hc, _⟩ := hv
  rw [hC] at hc
  obtain ⟨fuel, hf⟩ := h
  obtain ⟨xs, m, _, _, _, hl, hg⟩ := DataW.trod_array hu hf
  refine ⟨cs.toList.map boolOfV, by simp [hc], ?_⟩
  congr 1
  apply Array.ext'
  rw [List.toList_toArray, List.map_map]
  symm
  refine (List.map_congr_left (g := id) (fun u hu2 => ?_)).trans (List.map_id _)
  obtain ⟨i, hi, rfl⟩ := List.mem_iff_getElem.1 hu2
  have hi' : i < cs.size := by simpa using hi
  have h1 := hg i (by omega)
  rw [Try.cellsOf4] at h1
  have hcs : (Value.agg cs).cells = cs := rfl
  rw [hcs, drop_take_one _ _ hi, List.getElem?_eq_getElem (by omega)] at h1
  obtain ⟨k, e, _⟩ := DataW.trod_bool Try.underlying4 h1
  simp only [List.cons.injEq, and_true] at e
  rw [e]
  rfl
theorem open_groups {W : World} {v : Value} {d : DataW H} {p : List MemPlace} {base : Nat} (hv : Value.okWide Try.prog W .any base 23 v) (h : DataW.Trod enc Try.prog W 0 (fun _ => true) true 23 v d p) :
    ∃ (L : List Int) (ao : Option Addr) (cap : Nat), v = .slice ao L.length cap ∧ IntsAt W ao L ∧ (d = .nil ∧ L = [] ∨ ∃ es sp, d = .slice es sp ∧ es.length = L.length) := by
  obtain ⟨a0, len0, cap0, rfl⟩ := okWide_slice Try.underlying23 hv
  obtain ⟨fuel, hf⟩ := h
  rcases ChangeShapes.open_ints Try.underlying23 Try.underlying3 Try.cellsOf3 hf with ⟨hcs, hx⟩ | ⟨a, len, cap, ss, hcs, hb, hl, hm, hlen, hx, hi, hz⟩
  · simp [Value.cells] at hcs
    obtain ⟨rfl, rfl, rfl⟩ := hcs
    cases hx
    exact ⟨[], none, 0, rfl, fun i hi => absurd hi (by simp), .inl ⟨rfl, rfl⟩⟩
  · simp [Value.cells] at hcs
    obtain ⟨rfl, rfl, rfl⟩ := hcs
    have hls : len0 ≤ ss.length := by rw [hlen]; simpa using hl
    have hlt : (ss.take len0).length = len0 := by rw [List.length_take]; omega
    cases hx
    refine ⟨ss.take len0, some a, cap0, by rw [hlt], ?_, .inr ⟨_, _, rfl, by simp [lits]⟩⟩
    intro i hil
    rw [hlt] at hil
    have h0 := hi 0 (by omega)
    have ha0 : a = ⟨a.block, a.off, none⟩ := by simpa [Addr.add] using plain_addr h0
    have hgl : a.block < W.heap.size := by simpa [Addr.add] using cell_block h0
    have hg : ss.getD i 0 = ss[i]'(by omega) := by simp [List.getD_eq_getElem?_getD, List.getElem?_eq_getElem (show i < ss.length by omega)]
    refine ⟨a.block, a.off, by rw [← ha0], hgl, ?_⟩
    have h1 := hi i (by omega)
    have e : a.add i = ⟨a.block, a.off + i, none⟩ := by
      rw [ha0]; exact add_plain _ _ _
    rw [e, hg] at h1
    rw [h1]
    simp
end
end Go.Proofs.Ytedcgmagkkoggaa
