/-
  Arrays of four ints and of two texts that came in. No condition.
-/
import Derived.Test.YtkbjimbnbocfpaaFin
import Derived.Laws.IdiomArrays
namespace Go.Proofs.Ytkbjimbnbocfpaa
open Go.ChangeShapes Go.WideShapes Go.ChangeAt Go.RowKit
theorem Try.cellsOf3 : Try.prog.cellsOf 3 = 1 := by kernel_rfl
theorem Try.cellsOf9 : Try.prog.cellsOf 9 = 1 := by kernel_rfl
theorem Try.cellsOf22 : Try.prog.cellsOf 22 = 4 := by kernel_rfl
theorem Try.cellsOf57 : Try.prog.cellsOf 57 = 2 := by kernel_rfl
section
variable {H : Type} {enc : TypeId × Value → H}
theorem open_four {W : World} {v : Value} {d : DataW H} {p : List MemPlace} {base : Nat} (hv : Value.okWide Try.prog W .any base 22 v) (h : DataW.Trod enc Try.prog W 0 (fun _ => true) true 22 v d p) :
    ∃ a b c e : Int, v = .agg #[.int .i64 a, .int .i64 b, .int .i64 c, .int .i64 e] := by
  simp only [Value.okWide, Try.underlying22] at hv
  obtain ⟨cs, rfl, hc, _⟩ := hv
  rw [Try.cellsOf22] at hc
  obtain ⟨fuel, hf⟩ := h
  have hcs : (Value.agg cs).cells = cs := rfl
  rw [hcs] at hf
  match cs, hc with
  | ⟨[c0, c1, c2, c3]⟩, _ =>
    obtain ⟨y0, y1, y2, y3, n, _, g0, g1, g2, g3⟩ := trod_array4 Try.underlying22 Try.cellsOf3 hf
    obtain ⟨k0, e0, _, _⟩ := DataW.trod_int Try.underlying3 g0
    obtain ⟨k1, e1, _, _⟩ := DataW.trod_int Try.underlying3 g1
    obtain ⟨k2, e2, _, _⟩ := DataW.trod_int Try.underlying3 g2
    obtain ⟨k3, e3, _, _⟩ := DataW.trod_int Try.underlying3 g3
    simp only [List.cons.injEq, and_true] at e0 e1 e2 e3
    subst e0 e1 e2 e3
    exact ⟨k0, k1, k2, k3, rfl⟩
set_option maxRecDepth 100000 in
theorem open_two {W : World} {v : Value} {d : DataW H} {p : List MemPlace} {base : Nat} (hv : Value.okWide Try.prog W .any base 57 v) (h : DataW.Trod enc Try.prog W 0 (fun _ => true) true 57 v d p) :
    ∃ s t : ByteArray, v = .agg #[.string s, .string t] ∧ d = .agg [.lit (.string s.data.toList), .lit (.string t.data.toList)] := by
  simp only [Value.okWide, Try.underlying57] at hv
  obtain ⟨cs, rfl, hc, _⟩ := hv
  rw [Try.cellsOf57] at hc
  obtain ⟨fuel, hf⟩ := h
  have hcs : (Value.agg cs).cells = cs := rfl
  rw [hcs] at hf
  match cs, hc with
  | ⟨[c0, c1]⟩, _ =>
    obtain ⟨xs, m, _, hx, _, hl, hi⟩ := DataW.trod_array Try.underlying57 hf
    match xs, hl with
    | [y0, y1], _ =>
      have g0 := hi 0 (by omega)
      have g1 := hi 1 (by omega)
      rw [Try.cellsOf9] at g0 g1
      obtain ⟨s, e0, f0, _⟩ := DataW.trod_string Try.underlying9 (show DataW.trod enc Try.prog W 0 (fun _ => true) true m 9 [c0] = some y0 from g0)
      obtain ⟨t, e1, f1, _⟩ := DataW.trod_string Try.underlying9 (show DataW.trod enc Try.prog W 0 (fun _ => true) true m 9 [c1] = some y1 from g1)
      simp only [List.cons.injEq, and_true] at e0 e1
      subst e0 e1 f0 f1
      simp only [Prod.mk.injEq] at hx
      exact ⟨s, t, rfl, hx.1⟩
end
end Go.Proofs.Ytkbjimbnbocfpaa
