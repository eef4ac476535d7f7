/-
  A Value in memory that is appended to, beside a writer. Its conditions: what is appended lies in memory.
-/
import Derived.Test.YtakfpfnaogdmlaaDoorTs
import Derived.Test.YtakfpfnaogdmlaaDoorYPut
import Derived.Test.YtakfpfnaogdmlaaDoorLn
import Derived.Deep.AppendLies
namespace Go.Proofs.YtakfpfnaogdmlaaDoor
open Go.RowKit Sch
/-- The Value in block p has the numbers N and the texts T. -/
structure VB (B0 p : Nat) (N : List Int) (T : List ByteArray) (vN vT : Value) (w : World) : Prop where
  box : w.heap[p]? = some (.cells #[vN, vT] 31 (0, 0))
  n : w.ownsRow B0 3 1 vN N.length (ints N)
  t : w.ownsRow B0 9 1 vT T.length (strs T)
  hp : B0 ≤ p
/-- Blocks of other types stay. -/
def Oth (w w' : World) : Prop := ∀ (k : Nat) (cur : Array Value) (t : Nat) (fr : Nat × Nat), t ≠ 3 → t ≠ 9 → t ≠ 31 → w.heap[k]? = some (.cells cur t fr) → w'.heap[k]? = w.heap[k]?
theorem VB.kept {B0 p : Nat} {N : List Int} {T : List ByteArray} {vN vT : Value} {w w' : World} (h : VB B0 p N T vN vT w) (hk : ∀ (k : Nat) (cur : Array Value) (t : Nat), (t = 3 ∨ t = 9 ∨ t = 31) → w.heap[k]? = some (.cells cur t (0, 0)) → w'.heap[k]? = w.heap[k]?) : VB B0 p N T vN vT w' := by
  refine ⟨(hk p _ 31 (.inr (.inr rfl)) h.box).trans h.box, ownsB_kept h.n fun k e => ?_, ownsB_kept h.t fun k e => ?_, h.hp⟩
  · obtain ⟨_, cur, hc⟩ := ownsB_type h.n e
    exact hk k cur 3 (.inl rfl) hc
  · obtain ⟨_, cur, hc⟩ := ownsB_type h.t e
    exact hk k cur 9 (.inr (.inl rfl)) hc
theorem VB.cells {B0 p : Nat} {N : List Int} {T : List ByteArray} {vN vT : Value} {w : World} (h : VB B0 p N T vN vT w) : w.cell? ⟨p, 0, none⟩ = some vN ∧ w.cell? ⟨p, 1, none⟩ = some vT ∧ w.frozen? ⟨p, 0, none⟩ = false ∧ w.frozen? ⟨p, 1, none⟩ = false := by
  refine ⟨?_, ?_, Lib.frozen_of_heap h.box _, Lib.frozen_of_heap h.box _⟩ <;> (rw [cell_of_row w p _ _ _ _ h.box]; rfl)
theorem VB.lt {B0 p : Nat} {N : List Int} {T : List ByteArray} {vN vT : Value} {w : World} (h : VB B0 p N T vN vT w) : p < w.heap.size := (Array.getElem?_eq_some_iff.1 h.box).1
/-- A writer's call leaves the Value. -/
theorem VB.chg {B0 p q : Nat} {N : List Int} {T : List ByteArray} {vN vT v v' : Value} {l : List UInt8} {w w' : World} (h : VB B0 p N T vN vT w) (hw : Y.Wr 57 [] w q v l) (hc : Y.Chg q v v' w w') : VB B0 p N T vN vT w' :=
  h.kept fun k cur t ht hk => hc.block k (Array.getElem?_eq_some_iff.1 hk).1 (fun e => by subst e; have := blk_type hk hw.1.2; omega) (fun e => by
    obtain ⟨c, hg⟩ := hw.row e.symm
    have := blk_type hk hg
    omega)
/-- The writer stays where other blocks turn. -/
theorem wr_oth {q : Nat} {v : Value} {l : List UInt8} {w w' : World} (hw : Y.Wr 57 [] w q v l) (h : Oth w w') : Y.Wr 57 [] w' q v l := by
  refine ⟨⟨hw.1.1, (h q _ 57 _ (by decide) (by decide) (by decide) hw.1.2).trans hw.1.2⟩, ownsB_kept hw.2 fun k e => ?_⟩
  obtain ⟨_, cur, hc⟩ := ownsB_type hw.2 e
  exact h k cur 5 _ (by decide) (by decide) (by decide) hc
theorem Oth.refl (w : World) : Oth w w := fun _ _ _ _ _ _ _ _ => rfl
theorem Oth.trans {a b c : World} (h : Oth a b) (k : Oth b c) : Oth a c := fun i cur t fr h3 h9 h31 hi => (k i cur t fr h3 h9 h31 ((h i cur t fr h3 h9 h31 hi).trans hi)).trans (h i cur t fr h3 h9 h31 hi)
/-- The Value's block as it is, and two slices that may not have been stored yet. -/
structure MB (B0 p : Nat) (vN vT : Value) (N : List Int) (uN : Value) (T : List ByteArray) (uT : Value) (a w : World) : Prop where
  box : w.heap[p]? = some (.cells #[vN, vT] 31 (0, 0))
  n : w.ownsRow B0 3 1 uN N.length (ints N)
  t : w.ownsRow B0 9 1 uT T.length (strs T)
  hp : B0 ≤ p
  low : Below B0 a w
  oth : Oth a w
section
variable {B0 p : Nat} {vN vT uN uT : Value} {N : List Int} {T : List ByteArray} {a w w' : World}
theorem VB.mb (h : VB B0 p N T vN vT w) : MB B0 p vN vT N vN T vT w w := ⟨h.box, h.n, h.t, h.hp, Below.refl _ _, Oth.refl _⟩
theorem MB.vb (h : MB B0 p vN vT N vN T vT a w) : VB B0 p N T vN vT w := ⟨h.box, h.n, h.t, h.hp⟩
theorem MB.lt (h : MB B0 p vN vT N uN T uT a w) : p < w.heap.size := (Array.getElem?_eq_some_iff.1 h.box).1
theorem MB.base (h : MB B0 p vN vT N uN T uT a w) : B0 ≤ w.heap.size := by have := h.hp; have := h.lt; omega
theorem MB.kept (h : MB B0 p vN vT N uN T uT a w) (hb : ∀ k, k < w.heap.size → w'.heap[k]? = w.heap[k]?) (ho : w'.os = w.os) (ht : w'.tape = w.tape) (hu : w'.output = w.output) (hs : w.heap.size ≤ w'.heap.size) : MB B0 p vN vT N uN T uT a w' :=
  ⟨(hb p h.lt).trans h.box, ownsB_kept h.n (fun k e => by obtain ⟨_, cur, hc⟩ := ownsB_type h.n e; exact hb k (Array.getElem?_eq_some_iff.1 hc).1), ownsB_kept h.t (fun k e => by obtain ⟨_, cur, hc⟩ := ownsB_type h.t e; exact hb k (Array.getElem?_eq_some_iff.1 hc).1), h.hp,
    h.low.trans ⟨ho, ht, hu, hs, fun k hk => hb k (by have := h.base; omega)⟩, h.oth.trans fun k _ _ _ _ _ _ hk => hb k (Array.getElem?_eq_some_iff.1 hk).1⟩
theorem MB.drew (h : MB B0 p vN vT N uN T uT a w) : MB B0 p vN vT N uN T uT a w.drew := ⟨h.box, h.n, h.t, h.hp, ⟨h.low.os, h.low.tape, h.low.output, h.low.size, h.low.block⟩, h.oth⟩
theorem MB.alloc (h : MB B0 p vN vT N uN T uT a w) (o : Obj) : MB B0 p vN vT N uN T uT a (w.alloc o) :=
  h.kept (fun k hk => Below.heap_alloc _ _ _ hk) rfl rfl rfl (by simp)
theorem MB.appN (h : MB B0 p vN vT N uN T uT a w) {n : Int} {v : Value} (hgrow : w.grownBy w' uN.ownBlock) (hown : w'.ownsRow B0 3 1 v (N.length + 1) (ints N ++ [.int .i64 n])) : MB B0 p vN vT (N ++ [n]) v T uT a w' := by
  have hb : ∀ (k : Nat) (cur : Array Value) (t : Nat) (fr : Nat × Nat), t ≠ 3 → w.heap[k]? = some (.cells cur t fr) → w'.heap[k]? = w.heap[k]? := fun k cur t fr ht hk => hgrow.block k (Array.getElem?_eq_some_iff.1 hk).1 (fun e => by
    obtain ⟨_, c, hc⟩ := ownsB_type h.n e.symm
    exact ht (blk_type hk hc))
  refine ⟨(hb p _ 31 _ (by decide) h.box).trans h.box, ?_, ownsB_kept h.t fun k e => ?_, h.hp, ?_, h.oth.trans fun k cur t fr h3 _ _ hk => hb k cur t fr h3 hk⟩
  · rw [ints_app, List.length_append]; exact hown
  · obtain ⟨_, c, hc⟩ := ownsB_type h.t e
    exact hb k c 9 _ (by decide) hc
  · exact h.low.trans ⟨hgrow.os, hgrow.tape, hgrow.output, hgrow.size, fun k hk => hgrow.block k (by have := h.base; omega) (fun e => by have := (ownsB_type h.n e.symm).1; omega)⟩
theorem MB.appT (h : MB B0 p vN vT N uN T uT a w) {s : ByteArray} {v : Value} (hgrow : w.grownBy w' uT.ownBlock) (hown : w'.ownsRow B0 9 1 v (T.length + 1) (strs T ++ [.string s])) : MB B0 p vN vT N uN (T ++ [s]) v a w' := by
  have hb : ∀ (k : Nat) (cur : Array Value) (t : Nat) (fr : Nat × Nat), t ≠ 9 → w.heap[k]? = some (.cells cur t fr) → w'.heap[k]? = w.heap[k]? := fun k cur t fr ht hk => hgrow.block k (Array.getElem?_eq_some_iff.1 hk).1 (fun e => by
    obtain ⟨_, c, hc⟩ := ownsB_type h.t e.symm
    exact ht (blk_type hk hc))
  refine ⟨(hb p _ 31 _ (by decide) h.box).trans h.box, ownsB_kept h.n fun k e => ?_, ?_, h.hp, ?_, h.oth.trans fun k cur t fr _ h9 _ hk => hb k cur t fr h9 hk⟩
  · obtain ⟨_, c, hc⟩ := ownsB_type h.n e
    exact hb k c 3 _ (by decide) hc
  · rw [strs_app, List.length_append]; exact hown
  · exact h.low.trans ⟨hgrow.os, hgrow.tape, hgrow.output, hgrow.size, fun k hk => hgrow.block k (by have := h.base; omega) (fun e => by have := (ownsB_type h.t e.symm).1; omega)⟩
theorem MB.set (h : MB B0 p vN vT N uN T uT a w) (i : Nat) (u : Value) {c : Array Value} (hc : (#[vN, vT] : Array Value).setIfInBounds i u = c) (x y : Value) (hxy : c = #[x, y]) : MB B0 p x y N uN T uT a (w.setCell ⟨p, i, none⟩ u) := by
  have hb : ∀ k, k ≠ p → (w.setCell ⟨p, i, none⟩ u).heap[k]? = w.heap[k]? := fun k hk => Below.heap_setCell _ _ _ _ hk
  have hne : ∀ {k : Nat} {cur : Array Value} {t : Nat} {fr : Nat × Nat}, t ≠ 31 → w.heap[k]? = some (.cells cur t fr) → k ≠ p := fun ht hk e => by subst e; exact ht (blk_type hk h.box)
  refine ⟨?_, ownsB_kept h.n fun k e => ?_, ownsB_kept h.t fun k e => ?_, h.hp, ?_, h.oth.trans fun k cur t fr _ _ h31 hk => hb k (hne h31 hk)⟩
  · subst hc
    simp only [World.setCell, Array.getElem?_modify, h.box, if_true, Option.map_some]
    rw [hxy]; rfl
  · obtain ⟨_, c', hc'⟩ := ownsB_type h.n e
    exact hb k (hne (by decide) hc')
  · obtain ⟨_, c', hc'⟩ := ownsB_type h.t e
    exact hb k (hne (by decide) hc')
  · exact h.low.trans (((X.Only.refl p w).set i u).below h.hp)
theorem MB.put0 (h : MB B0 p vN vT N uN T uT a w) : MB B0 p uN vT N uN T uT a (w.setCell ⟨p, 0, none⟩ uN) := h.set 0 uN rfl uN vT rfl
theorem MB.put1 (h : MB B0 p vN vT N uN T uT a w) : MB B0 p vN uT N uN T uT a (w.setCell ⟨p, 1, none⟩ uT) := h.set 1 uT rfl vN uT rfl
end
theorem own_new {w : World} {B : Nat} {C : Array Value} (L : List Int) (hC : C = (ints L).toArray) (hL : L.length ≤ 100) (hB : B ≤ w.heap.size) : (w.alloc (.cells C 3)).ownsRow B 3 1 (.slice (some ⟨w.heap.size, 0, none⟩) L.length L.length) L.length (ints L) := by
  have hl : (ints L).length = L.length := by simp [ints]
  refine ⟨by omega, .inr ⟨w.heap.size, L.length, C, rfl, hB, heap_alloc_new w _, Nat.le_refl _, by unfold maxLen; omega, by rw [hC]; simp [ints], ?_⟩⟩
  rw [hC, Nat.mul_one, ← hl]
  simp
theorem MB.newN {B0 p : Nat} {vN vT uN uT : Value} {N : List Int} {T : List ByteArray} {a w : World} (h : MB B0 p vN vT N uN T uT a w) {C : Array Value} (L : List Int) (hC : C = (ints L).toArray) (hL : L.length ≤ 100) : MB B0 p vN vT L (.slice (some ⟨w.heap.size, 0, none⟩) L.length L.length) T uT a (w.alloc (.cells C 3)) :=
  have k := h.alloc (.cells C 3)
  ⟨k.box, own_new L hC hL h.base, k.t, k.hp, k.low, k.oth⟩
/-- A Value and a writer, both of the call's own. -/
structure TS (w0 : World) (V W : Nat) (N : List Int) (T : List ByteArray) (l : List UInt8) (w : World) : Prop where
  val : ∃ vN vT, VB w0.heap.size V N T vN vT w
  wr : ∃ vW, Y.Wr 57 [] w W vW l ∧ ∀ k, vW.ownBlock = some k → w0.heap.size ≤ k
  low : Below w0.heap.size w0 w
  hW : w0.heap.size ≤ W
theorem TS.put {w0 w : World} {V W : Nat} {N : List Int} {T : List ByteArray} {l : List UInt8} (h : TS w0 V W N T l w) : ∃ vW, Y.Wr 57 [] w W vW l ∧ ∀ l' w', Y.WrTo 57 [] w W vW l' w' → TS w0 V W N T l' w' := by
  obtain ⟨⟨vN, vT, hv⟩, ⟨vW, hw, ho⟩, hl, hW⟩ := h
  refine ⟨vW, hw, ?_⟩
  rintro l' w' ⟨v', hw', hc⟩
  refine ⟨⟨vN, vT, hv.chg hw hc⟩, ⟨v', hw', fun k hk => ?_⟩, hl.trans (hc.below hl.size hW ho), hW⟩
  rcases hc.own with e | ⟨g, e, hg⟩
  · exact ho k (e ▸ hk)
  · rw [e] at hk
    obtain rfl : g = k := by simpa using hk
    exact Nat.le_trans hl.size hg
theorem TS.val' {w0 w w' : World} {V W : Nat} {N N' : List Int} {T T' : List ByteArray} {l : List UInt8} {vN vT : Value} (h : TS w0 V W N T l w) (hm : MB w0.heap.size V vN vT N' vN T' vT w w') : TS w0 V W N' T' l w' := by
  obtain ⟨_, ⟨vW, hw, ho⟩, hl, hW⟩ := h
  exact ⟨⟨vN, vT, hm.vb⟩, ⟨vW, wr_oth hw hm.oth, ho⟩, hl.trans hm.low, hW⟩
theorem MB.cells {B0 p : Nat} {vN vT uN uT : Value} {N : List Int} {T : List ByteArray} {a w : World} (h : MB B0 p vN vT N uN T uT a w) : w.cell? ⟨p, 0, none⟩ = some vN ∧ w.cell? ⟨p, 1, none⟩ = some vT ∧ w.frozen? ⟨p, 0, none⟩ = false ∧ w.frozen? ⟨p, 1, none⟩ = false := by
  refine ⟨?_, ?_, Lib.frozen_of_heap h.box _, Lib.frozen_of_heap h.box _⟩ <;> (rw [cell_of_row w p _ _ _ _ h.box]; rfl)
theorem MB.far {B0 p : Nat} {vN vT uN uT : Value} {N : List Int} {T : List ByteArray} {a w : World} (h : MB B0 p vN vT N uN T uT a w) {b : Addr} {v : Value} (hb : b.block < B0) (hc : a.cell? b = some v) : w.cell? b = some v := (World.cell?_of_block (h.low.block b.block hb)).trans hc
theorem grow_keeps {w w' : World} {v : Value} {B e sz n : Nat} {xs : List Value} (hgrow : w.grownBy w' v.ownBlock) (ho : w.ownsRow B e sz v n xs) (k : Nat) (cur : Array Value) (t : Nat) (fr : Nat × Nat) (ht : t ≠ e) (hk : w.heap[k]? = some (.cells cur t fr)) : w'.heap[k]? = some (.cells cur t fr) :=
  (hgrow.block k (Array.getElem?_eq_some_iff.1 hk).1 (fun e => by
    obtain ⟨_, c, hc⟩ := ownsB_type ho e.symm
    exact ht (blk_type hk hc))).trans hk
theorem TS.drew {w0 w : World} {V W : Nat} {N : List Int} {T : List ByteArray} {l : List UInt8} (h : TS w0 V W N T l w) : TS w0 V W N T l w.drew :=
  ⟨h.val.imp fun _ ⟨vT, k⟩ => ⟨vT, k.box, k.n, k.t, k.hp⟩, h.wr.imp fun _ ⟨k, q⟩ => ⟨⟨k.1, k.2⟩, q⟩, ⟨h.low.os, h.low.tape, h.low.output, h.low.size, h.low.block⟩, h.hW⟩
theorem its_of {w : World} {B : Nat} {v : Value} {n : List Int} (h : w.ownsRow B 3 1 v n.length (ints n)) : ∃ ao c, v = .slice ao n.length c ∧ ItsAt w.heap.size w ao n ∧ n.length ≤ c ∧ c ≤ 9223372036854775807 := by
  have hh := h
  rcases h.2 with ⟨e, e2⟩ | ⟨g, cap, cur, e, _, hg, hc, hm, _⟩
  · exact ⟨none, 0, by rw [e, e2], fun i hi => by omega, by omega, by omega⟩
  · subst e
    refine ⟨_, cap, rfl, fun i hi => ⟨g, 0, rfl, (Array.getElem?_eq_some_iff.1 hg).1, ?_⟩, hc, by unfold maxLen at hm; omega⟩
    have := cellAt0 hh i (.int .i64 n[i]) (by simp [ints, hi])
    simpa using this
theorem sts_of {w : World} {B : Nat} {v : Value} {n : List ByteArray} (h : w.ownsRow B 9 1 v n.length (strs n)) : ∃ ao c, v = .slice ao n.length c ∧ StsAt w.heap.size w ao n ∧ n.length ≤ c ∧ c ≤ 9223372036854775807 := by
  have hh := h
  rcases h.2 with ⟨e, e2⟩ | ⟨g, cap, cur, e, _, hg, hc, hm, _⟩
  · exact ⟨none, 0, by rw [e, e2], fun i hi => by omega, by omega, by omega⟩
  · subst e
    refine ⟨_, cap, rfl, fun i hi => ⟨g, 0, rfl, (Array.getElem?_eq_some_iff.1 hg).1, ?_⟩, hc, by unfold maxLen at hm; omega⟩
    have := cellAt0 hh i (.string n[i]) (by simp [strs, hi])
    simpa using this
end Go.Proofs.YtakfpfnaogdmlaaDoor
