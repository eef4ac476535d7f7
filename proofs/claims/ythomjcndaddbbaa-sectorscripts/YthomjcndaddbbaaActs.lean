/-
  A script that came in: its acts in memory, and how many there are. No condition.
-/
import Derived.Test.YthomjcndaddbbaaStr
import Derived.Test.YthomjcndaddbbaaBoth
import Derived.Deep.Slices
import Derived.Deep.Fields
namespace Go.Proofs.Ythomjcndaddbbaa
open Go.RowKit Go.WideShapes Go.ChangeShapes Go.Deep

structure Ac where
  what : Int
  a : Int
  b : Int
  data : ByteArray

theorem list_of {α : Type} (P : Nat → α → Prop) : ∀ len : Nat, (∀ i, i < len → ∃ x, P i x) → ∃ L : List α, L.length = len ∧ ∀ i (h : i < L.length), P i L[i]
  | 0, _ => ⟨[], rfl, fun i h => absurd h (by simp)⟩
  | n + 1, h => by
    obtain ⟨L, hl, hP⟩ := list_of P n fun i hi => h i (by omega)
    obtain ⟨x, hx⟩ := h n (by omega)
    refine ⟨L ++ [x], by simp [hl], fun i hi => ?_⟩
    by_cases e : i < L.length
    · rw [List.getElem_append_left e]; exact hP i e
    · have : i = L.length := by simp at hi; omega
      subst this
      rw [List.getElem_append_right (Nat.le_refl _)]
      simpa [hl] using hx

def ActAt (w : World) (ao : Option Addr) (L : List Ac) : Prop := ∀ i (_ : i < L.length), ∃ g off, ao = some ⟨g, off, none⟩ ∧ g < w.heap.size ∧
  w.cell? ⟨g, off + i * 4, none⟩ = some (.int .i64 L[i].what) ∧ w.cell? ⟨g, off + i * 4 + 1, none⟩ = some (.int .i64 L[i].a) ∧ w.cell? ⟨g, off + i * 4 + 2, none⟩ = some (.int .i64 L[i].b) ∧ w.cell? ⟨g, off + i * 4 + 3, none⟩ = some (.string L[i].data)
theorem ActAt.below {w w' : World} {ao : Option Addr} {L : List Ac} (h : ActAt w ao L) (hb : Below w.heap.size w w') : ActAt w' ao L := by
  intro i hi
  obtain ⟨g, off, e1, e2, e3, e4, e5, e6⟩ := h i hi
  have := hb.size
  exact ⟨g, off, e1, by omega, (hb.cell (p := ⟨g, off + i * 4, none⟩) e2).trans e3, (hb.cell (p := ⟨g, off + i * 4 + 1, none⟩) e2).trans e4, (hb.cell (p := ⟨g, off + i * 4 + 2, none⟩) e2).trans e5, (hb.cell (p := ⟨g, off + i * 4 + 3, none⟩) e2).trans e6⟩

def datum {H : Type} (x : Ac) : DataW H := .agg [.lit (.int .i64 x.what), .lit (.int .i64 x.a), .lit (.int .i64 x.b), .lit (.string x.data.data.toList)]
theorem Try.cells31 : Try.prog.cellsOf 31 = 4 := by kernel_rfl
theorem Try.cells3 : Try.prog.cellsOf 3 = 1 := by kernel_rfl

section
variable {H : Type} {enc : TypeId × Value → H}
theorem open_acts {W : World} {v : Value} {d : DataW H} {p : List MemPlace} {base : Nat} (hv : Value.okWide Try.prog W .any base 22 v) (h : DataW.Trod enc Try.prog W 0 (fun _ => true) true 22 v d p) :
    ∃ (L : List Ac) (ao : Option Addr) (cap : Nat), v = .slice ao L.length cap ∧ ActAt W ao L ∧ (∀ i (h : i < L.length), L[i].a ≤ 9223372036854775807) ∧ (L = [] ∨ ∃ es sp, d = .slice es sp ∧ es.length = L.length) := by
  obtain ⟨a0, len0, cap0, rfl⟩ := okWide_slice Try.underlying22 hv
  obtain ⟨fuel, hf⟩ := h
  rcases open_slice Try.underlying22 hf with ⟨hcs, hx⟩ | ⟨a, len, cap, m, n, D, Pl, hcs, hb, hl, hm, hmm, hx, hi⟩
  · simp [Value.cells] at hcs
    obtain ⟨rfl, rfl, rfl⟩ := hcs
    exact ⟨[], none, 0, rfl, fun i hi => absurd hi (by simp), fun i hi => absurd hi (by simp), .inl rfl⟩
  · simp [Value.cells] at hcs
    obtain ⟨rfl, rfl, rfl⟩ := hcs
    have hmc : m = cap0 := by simpa using hmm
    simp only [Prod.mk.injEq] at hx
    obtain ⟨hd, _⟩ := hx
    have step : ∀ i, i < len0 → ∃ x : Ac, (∃ g off, a = ⟨g, off, none⟩ ∧ g < W.heap.size ∧
        W.cell? ⟨g, off + i * 4, none⟩ = some (.int .i64 x.what) ∧ W.cell? ⟨g, off + i * 4 + 1, none⟩ = some (.int .i64 x.a) ∧ W.cell? ⟨g, off + i * 4 + 2, none⟩ = some (.int .i64 x.b) ∧ W.cell? ⟨g, off + i * 4 + 3, none⟩ = some (.string x.data)) ∧ D i = datum x ∧ x.a ≤ 9223372036854775807 := by
      intro i hil
      have key : ∀ i, i < m → ∃ x : Ac, W.cell? (a.add (i * 4)) = some (.int .i64 x.what) ∧ W.cell? ((a.add (i * 4)).add 1) = some (.int .i64 x.a) ∧ W.cell? ((a.add (i * 4)).add 2) = some (.int .i64 x.b) ∧ W.cell? ((a.add (i * 4)).add 3) = some (.string x.data) ∧ D i = datum x ∧ x.a ≤ 9223372036854775807 := by
        intro i him
        obtain ⟨cs', hc, ht'⟩ := hi i him
        rw [Try.cells31] at hc
        obtain ⟨ys, n', hn', hy, hlen, hyl, hfld⟩ := DataW.trod_struct Try.underlying31 ht'
        rw [Try.cells31] at hlen
        obtain ⟨_, hcl, hat⟩ := World.cells?_some hc
        match cs', hlen with
        | [c0, c1, c2, c3], _ =>
          match ys, hyl with
          | [y0, y1, y2, y3], _ =>
            have g0 : DataW.trod enc Try.prog W 0 (fun _ => true) true n' 3 (List.take (Try.prog.cellsOf 3) [c0, c1, c2, c3]) = some y0 := hfld 0 _ rfl
            have g1 : DataW.trod enc Try.prog W 0 (fun _ => true) true n' 3 (List.take (Try.prog.cellsOf 3) [c1, c2, c3]) = some y1 := hfld 1 _ rfl
            have g2 : DataW.trod enc Try.prog W 0 (fun _ => true) true n' 3 (List.take (Try.prog.cellsOf 3) [c2, c3]) = some y2 := hfld 2 _ rfl
            have g3 : DataW.trod enc Try.prog W 0 (fun _ => true) true n' 9 (List.take (Try.prog.cellsOf 9) [c3]) = some y3 := hfld 3 _ rfl
            rw [Try.cells3] at g0 g1 g2
            rw [Try.cells9] at g3
            change DataW.trod enc Try.prog W 0 (fun _ => true) true n' 3 [c0] = some y0 at g0
            change DataW.trod enc Try.prog W 0 (fun _ => true) true n' 3 [c1] = some y1 at g1
            change DataW.trod enc Try.prog W 0 (fun _ => true) true n' 3 [c2] = some y2 at g2
            change DataW.trod enc Try.prog W 0 (fun _ => true) true n' 9 [c3] = some y3 at g3
            obtain ⟨k0, e0, f0, _⟩ := DataW.trod_int Try.underlying3 g0
            obtain ⟨k1, e1, f1, wk1⟩ := DataW.trod_int Try.underlying3 g1
            obtain ⟨k2, e2, f2, _⟩ := DataW.trod_int Try.underlying3 g2
            obtain ⟨t3, e3, f3, hb3⟩ := DataW.trod_string Try.underlying9 g3
            simp only [List.cons.injEq, and_true] at e0 e1 e2 e3
            subst e0 e1 e2 e3 f0 f1 f2 f3
            refine ⟨⟨k0, k1, k2, t3⟩, ?_, ?_, ?_, ?_, ?_, (bounds_i64 wk1).2⟩
            · have := hat 0 (by omega); simpa [Addr.add] using this
            · exact hat 1 (by omega)
            · exact hat 2 (by omega)
            · exact hat 3 (by omega)
            · simp only [Prod.mk.injEq] at hy; rw [hy.1]; rfl
      obtain ⟨x0, h00, _⟩ := key 0 (by omega)
      have ha := plain_addr h00
      have ha0 : a = ⟨a.block, a.off, none⟩ := by simpa [Addr.add] using ha
      obtain ⟨x, h1, h2, h3, h4, h5⟩ := key i (by omega)
      have hg : a.block < W.heap.size := by
        have := cell_block h00
        simpa [Addr.add] using this
      have ea : ∀ j, a.add j = ⟨a.block, a.off + j, none⟩ := by
        intro j
        rw [ha0]
        simp [Addr.add]
      refine ⟨x, ⟨a.block, a.off, ha0, hg, ?_, ?_, ?_, ?_⟩, h5⟩
      · rw [ea] at h1; exact h1
      · rw [ea] at h2; simpa [Addr.add] using h2
      · rw [ea] at h3; simpa [Addr.add] using h3
      · rw [ea] at h4; simpa [Addr.add] using h4
    obtain ⟨L, hL, hP⟩ := list_of _ len0 step
    subst hL
    refine ⟨L, some a, cap0, rfl, fun i hi => ?_, fun i hi => (hP i hi).2.2, ?_⟩
    · obtain ⟨g, off, e1, e2, e3, e4, e5, e6⟩ := (hP i hi).1
      exact ⟨g, off, by rw [e1], e2, e3, e4, e5, e6⟩
    · exact .inr ⟨_, _, hd, by simp⟩
end

/-- A block beside both disks: nobody touches it. -/
def Guest (w : World) (B : Nat) (x : Ac) : Prop := w.heap[B]? = some (.cells #[.int .i64 x.what, .int .i64 x.a, .int .i64 x.b, .string x.data] 31 (0, 0))
theorem Guest.cells {w : World} {B : Nat} {x : Ac} (h : Guest w B x) : w.cell? ⟨B, 0, none⟩ = some (.int .i64 x.what) ∧ w.cell? ⟨B, 1, none⟩ = some (.int .i64 x.a) ∧ w.cell? ⟨B, 2, none⟩ = some (.int .i64 x.b) ∧ w.cell? ⟨B, 3, none⟩ = some (.string x.data) := by
  have hh : w.heap[B]? = _ := h
  refine ⟨?_, ?_, ?_, ?_⟩ <;> (rw [cell_of_row w B _ _ _ _ hh]; rfl)
section
variable {w0 w w' : World} {l : Loc} {v : Value} {d d' : Dk} {q : Nat} {F : Nat → Prop} {r r' : Rk} {n : Nat} {B : Nat} {x : Ac}
theorem Guest.lt (h : Guest w B x) : B < w.heap.size := (Array.getElem?_eq_some_iff.1 h).1
theorem Guest.stepD (h : Guest w B x) (hD : Disk w l v d) (hd : DkTo w l v d' w') : Guest w' B x := by
  obtain ⟨v', _, hC⟩ := hd
  refine (hC.far h.lt ?_).trans h
  have hh : w.heap[B]? = _ := h
  rintro (e | e | e | e)
  · have := hD.head; rw [← e, hh] at this; simp at this
  · have := hD.rowL; rw [← e, hh] at this; simp at this
  · have := hD.rowS; rw [← e, hh] at this; simp at this
  · exact hD.ne hh (by decide) e
theorem Guest.stepR (h : Guest w B x) (hR : RDk w q F r) (hr : RTo w q F r' w') : Guest w' B x := by
  obtain ⟨F', _, hF, _⟩ := hr
  obtain ⟨vl, vp, vt, hR, rfl⟩ := hR
  refine (hF.block B h.lt ?_).trans h
  have hh : w.heap[B]? = _ := h
  rintro (e | e | e | e)
  · have := hR.head; rw [← e, hh] at this; simp at this
  · exact owned_ne hR.rowL hh (by decide) e
  · exact owned_ne hR.rowP hh (by decide) e
  · exact owned_ne hR.rowT hh (by decide) e
theorem Guest.below (h : Guest w B x) (hb : Below w.heap.size w w') : Guest w' B x := (hb.block B h.lt).trans h
end
end Go.Proofs.Ythomjcndaddbbaa
