/-
  ScorePicks is true at every input, and its arguments read as they did. No condition.
-/
import Derived.Test.YtdfpfdkpgokflaaPickW
import Derived.Test.YtdfpfdkpgokflaaFin
import Derived.Deep.Slices
import Derived.ChangeSlices
import Derived.Laws.IdiomArrays
namespace Go.Proofs.Ytdfpfdkpgokflaa
open Go.ChangeShapes Go.WideShapes Go.ChangeAt Go.RowKit Go.Deep

theorem Try.cells3 : Try.prog.cellsOf 3 = 1 := by kernel_rfl
theorem Try.cells36 : Try.prog.cellsOf 36 = 3 := by kernel_rfl
theorem plain_at {w : World} {a : Addr} {v : Value} (h : w.cell? a = some v) : a = ⟨a.block, a.off, none⟩ := by
  obtain ⟨g, off, sp⟩ := a
  cases sp with
  | none => rfl
  | some k => simp [World.cell?] at h; split at h <;> simp at h
theorem list_of {α : Type} (Q : Nat → α → Prop) : ∀ n, (∀ i, i < n → ∃ x, Q i x) → ∃ L : List α, L.length = n ∧ ∀ i (h : i < L.length), Q i L[i]
  | 0, _ => ⟨[], rfl, fun i h => absurd h (by simp)⟩
  | n + 1, h => by
    obtain ⟨L, hl, hq⟩ := list_of Q n fun i hi => h i (by omega)
    obtain ⟨x, hx⟩ := h n (by omega)
    refine ⟨L ++ [x], by simp [hl], ?_⟩
    intro i hi
    by_cases hlt : i < L.length
    · rw [List.getElem_append_left hlt]; exact hq i hlt
    · have : i = L.length := by simp at hi; omega
      subst this
      rw [List.getElem_append_right (by omega)]
      simp [hl, hx]
section
variable {H : Type} {enc : TypeId × Value → H}
theorem open_threes {W : World} {v : Value} {d : DataW H} {p : List MemPlace} {base : Nat} (hv : Value.okWide Try.prog W .any base 34 v) (h : DataW.Trod enc Try.prog W 0 (fun _ => true) true 34 v d p) :
    ∃ (L : List Seg) (ao : Option Addr) (cap : Nat), v = .slice ao L.length cap ∧ SegAt W ao L ∧ (d = .nil ∧ L = [] ∨ ∃ es sp, d = .slice es sp ∧ es.length = L.length) := by
  obtain ⟨a0, len0, cap0, rfl⟩ := okWide_slice Try.underlying34 hv
  obtain ⟨fuel, hf⟩ := h
  rcases open_slice Try.underlying34 hf with ⟨hcs, hx⟩ | ⟨a, len, cap, m, n, D, Pl, hcs, hb, hl, hm, hmm, hx, hi⟩
  · simp [Value.cells] at hcs
    obtain ⟨rfl, rfl, rfl⟩ := hcs
    cases hx
    exact ⟨[], none, 0, rfl, fun i hi => absurd hi (by simp), .inl ⟨rfl, rfl⟩⟩
  · simp [Value.cells] at hcs
    obtain ⟨rfl, rfl, rfl⟩ := hcs
    have hmc : m = cap0 := by simpa using hmm
    simp only [Prod.mk.injEq] at hx
    obtain ⟨hd, _⟩ := hx
    have step : ∀ i, i < len0 → ∃ x : Seg, (∃ g off, a = ⟨g, off, none⟩ ∧ g < W.heap.size ∧
        W.cell? ⟨g, off + i * 3, none⟩ = some (.int .i64 x.l) ∧ W.cell? ⟨g, off + i * 3 + 1, none⟩ = some (.int .i64 x.s) ∧ W.cell? ⟨g, off + i * 3 + 2, none⟩ = some (.int .i64 x.a)) := by
      intro i hil
      have key : ∀ i, i < m → ∃ x : Seg, W.cell? (a.add (i * 3)) = some (.int .i64 x.l) ∧ W.cell? ((a.add (i * 3)).add 1) = some (.int .i64 x.s) ∧ W.cell? ((a.add (i * 3)).add 2) = some (.int .i64 x.a) := by
        intro i him
        obtain ⟨cs', hc, ht'⟩ := hi i him
        rw [Try.cells36] at hc
        obtain ⟨_, hcl, hat⟩ := World.cells?_some hc
        match cs', hcl with
        | [c0, c1, c2], _ =>
          obtain ⟨y0, y1, y2, n', hy, g0, g1, g2⟩ := trod_array3 Try.underlying36 Try.cells3 ht'
          obtain ⟨k0, e0, f0, _⟩ := DataW.trod_int Try.underlying3 g0
          obtain ⟨k1, e1, f1, _⟩ := DataW.trod_int Try.underlying3 g1
          obtain ⟨k2, e2, f2, _⟩ := DataW.trod_int Try.underlying3 g2
          simp only [List.cons.injEq, and_true] at e0 e1 e2
          subst e0 e1 e2
          refine ⟨⟨k0, k1, k2⟩, ?_, ?_, ?_⟩
          · have := hat 0 (by omega); simpa [Addr.add] using this
          · exact hat 1 (by omega)
          · exact hat 2 (by omega)
      obtain ⟨x0, h00, _⟩ := key 0 (by omega)
      have ha := plain_at h00
      have ha0 : a = ⟨a.block, a.off, none⟩ := by simpa [Addr.add] using ha
      obtain ⟨x, h1, h2, h3⟩ := key i (by omega)
      have hg : a.block < W.heap.size := by
        have := World.block_lt_of_cell? W _ h00
        simpa [Addr.add] using this
      have ea : ∀ j, a.add j = ⟨a.block, a.off + j, none⟩ := by
        intro j
        rw [ha0]
        simp [Addr.add]
      refine ⟨x, ⟨a.block, a.off, ha0, hg, ?_, ?_, ?_⟩⟩
      · rw [ea] at h1; exact h1
      · rw [ea] at h2; simpa [Addr.add] using h2
      · rw [ea] at h3; simpa [Addr.add] using h3
    obtain ⟨L, hL, hP⟩ := list_of _ len0 step
    subst hL
    refine ⟨L, some a, cap0, rfl, fun i hi => ?_, ?_⟩
    · obtain ⟨g, off, e1, e2, e3, e4, e5⟩ := hP i hi
      exact ⟨g, off, by rw [e1], e2, e3, e4, e5⟩
    · exact .inr ⟨_, _, hd, by simp⟩
end

theorem scorePicks_contract (H : Type) (enc : TypeId × Value → H) (W : World) (base : Nat) (args : Array Value) (ds gs : List (DataW H)) (before : List MemPlace)
    (hval : ∀ (j : Nat) t v, Try.f5.params[j]? = some t → args[j]? = some v → Value.okWide Try.prog W .any base t v)
    (hW : DataW.Whole enc Try.prog Try.f5.params.toList Rows.scorePicksSpec.vars false W args.toList ds gs before) (hsz : (DataW.weightsEach Try.prog (Try.f5.params.toList ++ Rows.scorePicksSpec.plain.varTypes Try.prog) (ds ++ gs)).all (· ≤ reachBytes) = true) :
    Calls Try.prog 5 args W fun e W' => ∃ v, e = .returned v ∧ Rows.scorePicksSpec.post enc Try.prog Try.f5 false true false false W args v W' := by
  have hW' := hW
  obtain ⟨p, q, hA0, hV, rfl, hfz, hnd⟩ := hW
  have hA : DataW.TrodAll enc Try.prog W 0 (fun _ => true) true Try.f5.params.toList args.toList ds p := hA0
  rw [Try.params5] at hA hval
  obtain ⟨v0, vs0, d0, ds0, p0, q0, hargs, rfl, rfl, h0, r0⟩ := trodAll_cons hA
  obtain ⟨rfl, rfl, rfl⟩ := trodAll_nil r0
  obtain rfl : args = #[v0] := by cases args; simp_all
  obtain ⟨rfl, rfl⟩ := trodVars_none hV
  rw [Try.params5] at hsz
  obtain ⟨L, ao, cap, rfl, hA1, hb⟩ := open_threes (hval 0 34 v0 rfl rfl) h0
  have hl : L.length * 24 ≤ 140737488355328 := by
    rcases hb with ⟨_, rfl⟩ | ⟨es, sp, rfl, he⟩
    · simp
    · have hb := sized_slice hsz (j := 0) (t := 34) rfl rfl Try.underlying34
      rw [show Try.prog.bytesOf 36 = 24 from by kernel_rfl] at hb
      have := reachBytes_lt
      omega
  exact (picks_walk L ao cap W hA1 hl).mono fun e W' ⟨he, hg⟩ => ⟨_, he, law_post [34] (by rw [Try.params5]) (by kernel_rfl) hW' rfl rfl rfl rfl rfl hg⟩

set_option maxRecDepth 100000 in
theorem scorePicks_lifted (os : Os) (started : os.Started) (H : Type) (enc : TypeId × Value → H) :
    ReturnsInHanded {} Try.checked os 5 .any (Rows.scorePicksSpec.pre6 enc Try.prog Try.f5 Rows.scorePicksRow.domain false) (Rows.scorePicksSpec.post enc Try.prog Try.f5 false true false false) := by
  refine returnsInHanded_of_change_sized (C := Try.checked) own started (by kernel_rfl) Try.func5
    (ChangeSpec.witness6 (enc := enc) (C := Try.checked) false ⟨#[], #[.slice none 0 0], []⟩ 8 (by kernel_rfl) (by kernel_rfl) (by kernel_rfl) (by kernel_rfl)) ?_
  intro W base args ds gs before hval hW hcnd hsz _
  exact scorePicks_contract H enc W base args ds gs before hval hW hsz

theorem scorePicks_holds : Rows.ScorePicksSaid :=
  OpenClaim.holds_of_wide 5 Try.f5 rfl rfl rfl rfl rfl rfl rfl ⟨rfl, rfl, rfl, rfl, rfl⟩ rfl rfl rfl rfl rfl (by kernel_rfl) Try.func5 (by kernel_rfl)
    (of_decide_eq_true (by kernel_rfl)) (by unfold Func.isWrapper; first | (rw [if_pos (by decide +kernel)]; kernel_rfl) | (rw [if_neg (by decide +kernel)]; exact ⟨rfl, rfl⟩))
    (fun os started H enc _ => scorePicks_lifted os started H enc)
end Go.Proofs.Ytdfpfdkpgokflaa
