/-
  A list of things that came in: its cells, and how much it holds. No condition.
-/
import Derived.Test.YtjkkneeomjfieaaFin
import Derived.Deep.Slices
import Derived.Deep.Fields
namespace Go.Proofs.Ytjkkneeomjfieaa
open Go.RowKit Go.WideShapes Go.ChangeShapes Go.Deep

/-- A thing: its kind, its number, its text. -/
structure It where
  kind : Int
  n : Int
  text : ByteArray

def bulkL (L : List It) : Nat := (L.map fun x => x.text.size + 4).sum

theorem list_of {α : Type} (P : Nat → α → Prop) : ∀ len : Nat, (∀ i, i < len → ∃ x, P i x) → ∃ L : List α, L.length = len ∧ ∀ i (h : i < L.length), P i L[i]
  | 0, _ => ⟨[], rfl, fun i h => absurd h (by simp)⟩
  | n + 1, h => by
    obtain ⟨L, hl, hP⟩ := list_of P n fun i hi => h i (by omega)
    obtain ⟨x, hx⟩ := h n (by omega)
    refine ⟨L ++ [x], by simp [hl], fun i hi => ?_⟩
    by_cases e : i < L.length
    · rw [List.getElem_append_left e]; exact hP i e
    · have : i = L.length := by simp at hi; omega
      subst this
      rw [List.getElem_append_right (Nat.le_refl _)]
      simpa [hl] using hx

/-- The list v in the world w. -/
def ItemsAt (w : World) (ao : Option Addr) (L : List It) : Prop := ∀ i (_ : i < L.length), ∃ g off, ao = some ⟨g, off, none⟩ ∧ g < w.heap.size ∧
  w.cell? ⟨g, off + i * 3, none⟩ = some (.int .i64 L[i].kind) ∧ w.cell? ⟨g, off + i * 3 + 1, none⟩ = some (.int .i64 L[i].n) ∧ w.cell? ⟨g, off + i * 3 + 2, none⟩ = some (.string L[i].text)

def datum {H : Type} (x : It) : DataW H := .agg [.lit (.int .i64 x.kind), .lit (.int .i64 x.n), .lit (.string x.text.data.toList)]

theorem bulk_items {H : Type} : ∀ L : List It, Rows.uptoBulkAll (L.map (datum (H := H))) = bulkL L
  | [] => rfl
  | x :: L => by
    have e : x.text.data.toList.length = x.text.size := by rw [Array.length_toList]; rfl
    have ih := bulk_items (H := H) L
    simp only [List.map_cons, Rows.uptoBulkAll, ih]
    unfold datum bulkL
    simp only [Rows.uptoBulk, Rows.uptoBulkAll, List.map_cons, List.sum_cons, e]
    omega

theorem Try.cells29 : Try.prog.cellsOf 29 = 3 := by kernel_rfl
theorem Try.cells3 : Try.prog.cellsOf 3 = 1 := by kernel_rfl
theorem Try.cells9 : Try.prog.cellsOf 9 = 1 := by kernel_rfl

theorem plain_addr {w : World} {a : Addr} {v : Value} (h : w.cell? a = some v) : a = ⟨a.block, a.off, none⟩ := by
  obtain ⟨g, off, sp⟩ := a
  cases sp with
  | none => rfl
  | some k => simp [World.cell?] at h; split at h <;> simp at h

theorem cell_block {w : World} {a : Addr} {v : Value} (h : w.cell? a = some v) : a.block < w.heap.size := World.block_lt_of_cell? w a h

section
variable {H : Type} {enc : TypeId × Value → H}
theorem open_items {W : World} {v : Value} {d : DataW H} {p : List MemPlace} {base : Nat} (hv : Value.okWide Try.prog W .any base 22 v) (h : DataW.Trod enc Try.prog W 0 (fun _ => true) true 22 v d p) :
    ∃ (L : List It) (ao : Option Addr) (cap : Nat), v = .slice ao L.length cap ∧ ItemsAt W ao L ∧ L.length ≤ maxLen ∧ (∀ i (h : i < L.length), L[i].text.size ≤ maxLen ∧ -9223372036854775808 ≤ L[i].n ∧ L[i].n ≤ 9223372036854775807) ∧ bulkL L ≤ Rows.uptoBulk d := by
  obtain ⟨a0, len0, cap0, rfl⟩ := okWide_slice Try.underlying22 hv
  obtain ⟨fuel, hf⟩ := h
  rcases open_slice Try.underlying22 hf with ⟨hcs, hx⟩ | ⟨a, len, cap, m, n, D, Pl, hcs, hb, hl, hm, hmm, hx, hi⟩
  · simp [Value.cells] at hcs
    obtain ⟨rfl, rfl, rfl⟩ := hcs
    exact ⟨[], none, 0, rfl, fun i hi => absurd hi (by simp), by simp, fun i hi => absurd hi (by simp), by simp [bulkL]⟩
  · simp [Value.cells] at hcs
    obtain ⟨rfl, rfl, rfl⟩ := hcs
    have hmc : m = cap0 := by simpa using hmm
    simp only [Prod.mk.injEq] at hx
    obtain ⟨hd, _⟩ := hx
    have step : ∀ i, i < len0 → ∃ x : It, (∃ g off, a = ⟨g, off, none⟩ ∧ g < W.heap.size ∧
        W.cell? ⟨g, off + i * 3, none⟩ = some (.int .i64 x.kind) ∧ W.cell? ⟨g, off + i * 3 + 1, none⟩ = some (.int .i64 x.n) ∧ W.cell? ⟨g, off + i * 3 + 2, none⟩ = some (.string x.text)) ∧ D i = datum x ∧ x.text.size ≤ maxLen ∧ -9223372036854775808 ≤ x.n ∧ x.n ≤ 9223372036854775807 := by
      intro i hil
      have key : ∀ i, i < m → ∃ x : It, W.cell? (a.add (i * 3)) = some (.int .i64 x.kind) ∧ W.cell? ((a.add (i * 3)).add 1) = some (.int .i64 x.n) ∧ W.cell? ((a.add (i * 3)).add 2) = some (.string x.text) ∧ D i = datum x ∧ x.text.size ≤ maxLen ∧ -9223372036854775808 ≤ x.n ∧ x.n ≤ 9223372036854775807 := by
        intro i him
        obtain ⟨cs', hc, ht'⟩ := hi i him
        rw [Try.cells29] at hc
        obtain ⟨ys, n', hn', hy, hlen, hyl, hfld⟩ := DataW.trod_struct Try.underlying29 ht'
        rw [Try.cells29] at hlen
        obtain ⟨_, hcl, hat⟩ := World.cells?_some hc
        match cs', hlen with
        | [c0, c1, c2], _ =>
          match ys, hyl with
          | [y0, y1, y2], _ =>
            have g0 : DataW.trod enc Try.prog W 0 (fun _ => true) true n' 3 (List.take (Try.prog.cellsOf 3) [c0, c1, c2]) = some y0 := hfld 0 _ rfl
            have g1 : DataW.trod enc Try.prog W 0 (fun _ => true) true n' 3 (List.take (Try.prog.cellsOf 3) [c1, c2]) = some y1 := hfld 1 _ rfl
            have g2 : DataW.trod enc Try.prog W 0 (fun _ => true) true n' 9 (List.take (Try.prog.cellsOf 9) [c2]) = some y2 := hfld 2 _ rfl
            rw [Try.cells3] at g0 g1
            rw [Try.cells9] at g2
            change DataW.trod enc Try.prog W 0 (fun _ => true) true n' 3 [c0] = some y0 at g0
            change DataW.trod enc Try.prog W 0 (fun _ => true) true n' 3 [c1] = some y1 at g1
            change DataW.trod enc Try.prog W 0 (fun _ => true) true n' 9 [c2] = some y2 at g2
            obtain ⟨k0, e0, f0, _⟩ := DataW.trod_int Try.underlying3 g0
            obtain ⟨k1, e1, f1, wk1⟩ := DataW.trod_int Try.underlying3 g1
            obtain ⟨t2, e2, f2, hb2⟩ := DataW.trod_string Try.underlying9 g2
            simp only [List.cons.injEq, and_true] at e0 e1 e2
            subst e0 e1 e2 f0 f1 f2
            refine ⟨⟨k0, k1, t2⟩, ?_, ?_, ?_, ?_, hb2, bounds_i64 wk1⟩
            · have := hat 0 (by omega); simpa [Addr.add] using this
            · exact hat 1 (by omega)
            · exact hat 2 (by omega)
            · simp only [Prod.mk.injEq] at hy; rw [hy.1]; rfl
      obtain ⟨x0, h00, _⟩ := key 0 (by omega)
      have ha := plain_addr h00
      have ha0 : a = ⟨a.block, a.off, none⟩ := by simpa [Addr.add] using ha
      obtain ⟨x, h1, h2, h3, h4, h5⟩ := key i (by omega)
      have hg : a.block < W.heap.size := by
        have := cell_block h00
        simpa [Addr.add] using this
      have ea : ∀ j, a.add j = ⟨a.block, a.off + j, none⟩ := by
        intro j
        rw [ha0]
        simp [Addr.add]
      refine ⟨x, ⟨a.block, a.off, ha0, hg, ?_, ?_, ?_⟩, h4, h5⟩
      · rw [ea] at h1; exact h1
      · rw [ea] at h2; simpa [Addr.add] using h2
      · rw [ea] at h3; simpa [Addr.add] using h3
    obtain ⟨L, hL, hP⟩ := list_of _ len0 step
    subst hL
    refine ⟨L, some a, cap0, rfl, fun i hi => ?_, by omega, fun i hi => (hP i hi).2.2, ?_⟩
    · obtain ⟨g, off, e1, e2, e3, e4, e5⟩ := (hP i hi).1
      exact ⟨g, off, by rw [e1], e2, e3, e4, e5⟩
    · have e : (List.range L.length).map D = L.map (datum (H := H)) := by
        apply List.ext_getElem
        · simp
        · intro i h1 h2
          simp at h1
          simp [(hP i h1).2.1]
      rw [hd, e]
      have := bulk_items (H := H) L
      simp only [Rows.uptoBulk, this]
      omega
end
end Go.Proofs.Ytjkkneeomjfieaa
