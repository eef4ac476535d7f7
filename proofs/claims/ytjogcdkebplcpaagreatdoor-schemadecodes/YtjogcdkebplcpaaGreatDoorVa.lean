/-
  The document's value in memory that is appended to, beside the document's reader. Its conditions: what is appended lies in memory.
-/
import Derived.Test.YtjogcdkebplcpaaGreatDoorTs
import Derived.Test.YtjogcdkebplcpaaGreatDoorXRsText
import Derived.Test.YtjogcdkebplcpaaGreatDoorLn
import Derived.Test.YtjogcdkebplcpaaGreatDoorTi
import Derived.Deep.AppendLies
namespace Go.Proofs.YtjogcdkebplcpaaGreatDoor
open Go.RowKit Sch
/-- The Value in block p has the numbers N and the texts T. -/
structure VB (B0 p : Nat) (N : List Int) (T : List ByteArray) (vN vT : Value) (w : World) : Prop where
  box : w.heap[p]? = some (.cells #[vN, vT] 30 (0, 0))
  n : w.ownsRow B0 3 1 vN N.length (ints N)
  t : w.ownsRow B0 9 1 vT T.length (strs T)
  hp : B0 ≤ p
/-- Blocks of other types stay. -/
def Oth (w w' : World) : Prop := ∀ (k : Nat) (cur : Array Value) (t : Nat) (fr : Nat × Nat), t ≠ 3 → t ≠ 9 → t ≠ 30 → w.heap[k]? = some (.cells cur t fr) → w'.heap[k]? = w.heap[k]?
theorem VB.kept {B0 p : Nat} {N : List Int} {T : List ByteArray} {vN vT : Value} {w w' : World} (h : VB B0 p N T vN vT w) (hk : ∀ (k : Nat) (cur : Array Value) (t : Nat), (t = 3 ∨ t = 9 ∨ t = 30) → w.heap[k]? = some (.cells cur t (0, 0)) → w'.heap[k]? = w.heap[k]?) : VB B0 p N T vN vT w' := by
  refine ⟨(hk p _ 30 (.inr (.inr rfl)) h.box).trans h.box, ownsB_kept h.n fun k e => ?_, ownsB_kept h.t fun k e => ?_, h.hp⟩
  · obtain ⟨_, cur, hc⟩ := ownsB_type h.n e
    exact hk k cur 3 (.inl rfl) hc
  · obtain ⟨_, cur, hc⟩ := ownsB_type h.t e
    exact hk k cur 9 (.inr (.inl rfl)) hc
theorem VB.cells {B0 p : Nat} {N : List Int} {T : List ByteArray} {vN vT : Value} {w : World} (h : VB B0 p N T vN vT w) : w.cell? ⟨p, 0, none⟩ = some vN ∧ w.cell? ⟨p, 1, none⟩ = some vT ∧ w.frozen? ⟨p, 0, none⟩ = false ∧ w.frozen? ⟨p, 1, none⟩ = false := by
  refine ⟨?_, ?_, Lib.frozen_of_heap h.box _, Lib.frozen_of_heap h.box _⟩ <;> (rw [cell_of_row w p _ _ _ _ h.box]; rfl)
theorem VB.lt {B0 p : Nat} {N : List Int} {T : List ByteArray} {vN vT : Value} {w : World} (h : VB B0 p N T vN vT w) : p < w.heap.size := (Array.getElem?_eq_some_iff.1 h.box).1
theorem Oth.refl (w : World) : Oth w w := fun _ _ _ _ _ _ _ _ => rfl
theorem Oth.trans {a b c : World} (h : Oth a b) (k : Oth b c) : Oth a c := fun i cur t fr h3 h9 h30 hi => (k i cur t fr h3 h9 h30 ((h i cur t fr h3 h9 h30 hi).trans hi)).trans (h i cur t fr h3 h9 h30 hi)
/-- The Value's block as it is, and two slices that may not have been stored yet. -/
structure MB (B0 p : Nat) (vN vT : Value) (N : List Int) (uN : Value) (T : List ByteArray) (uT : Value) (a w : World) : Prop where
  box : w.heap[p]? = some (.cells #[vN, vT] 30 (0, 0))
  n : w.ownsRow B0 3 1 uN N.length (ints N)
  t : w.ownsRow B0 9 1 uT T.length (strs T)
  hp : B0 ≤ p
  low : Below B0 a w
  oth : Oth a w
section
variable {B0 p : Nat} {vN vT uN uT : Value} {N : List Int} {T : List ByteArray} {a w w' : World}
theorem VB.mb (h : VB B0 p N T vN vT w) : MB B0 p vN vT N vN T vT w w := ⟨h.box, h.n, h.t, h.hp, Below.refl _ _, Oth.refl _⟩
theorem MB.vb (h : MB B0 p vN vT N vN T vT a w) : VB B0 p N T vN vT w := ⟨h.box, h.n, h.t, h.hp⟩
theorem MB.lt (h : MB B0 p vN vT N uN T uT a w) : p < w.heap.size := (Array.getElem?_eq_some_iff.1 h.box).1
theorem MB.base (h : MB B0 p vN vT N uN T uT a w) : B0 ≤ w.heap.size := by have := h.hp; have := h.lt; omega
theorem MB.kept (h : MB B0 p vN vT N uN T uT a w) (hb : ∀ k, k < w.heap.size → w'.heap[k]? = w.heap[k]?) (ho : w'.os = w.os) (ht : w'.tape = w.tape) (hu : w'.output = w.output) (hs : w.heap.size ≤ w'.heap.size) : MB B0 p vN vT N uN T uT a w' :=
  ⟨(hb p h.lt).trans h.box, ownsB_kept h.n (fun k e => by obtain ⟨_, cur, hc⟩ := ownsB_type h.n e; exact hb k (Array.getElem?_eq_some_iff.1 hc).1), ownsB_kept h.t (fun k e => by obtain ⟨_, cur, hc⟩ := ownsB_type h.t e; exact hb k (Array.getElem?_eq_some_iff.1 hc).1), h.hp,
    h.low.trans ⟨ho, ht, hu, hs, fun k hk => hb k (by have := h.base; omega)⟩, h.oth.trans fun k _ _ _ _ _ _ hk => hb k (Array.getElem?_eq_some_iff.1 hk).1⟩
theorem MB.drew (h : MB B0 p vN vT N uN T uT a w) : MB B0 p vN vT N uN T uT a w.drew := ⟨h.box, h.n, h.t, h.hp, ⟨h.low.os, h.low.tape, h.low.output, h.low.size, h.low.block⟩, h.oth⟩
theorem MB.alloc (h : MB B0 p vN vT N uN T uT a w) (o : Obj) : MB B0 p vN vT N uN T uT a (w.alloc o) :=
  h.kept (fun k hk => Below.heap_alloc _ _ _ hk) rfl rfl rfl (by simp)
theorem MB.appN (h : MB B0 p vN vT N uN T uT a w) {n : Int} {v : Value} (hgrow : w.grownBy w' uN.ownBlock) (hown : w'.ownsRow B0 3 1 v (N.length + 1) (ints N ++ [.int .i64 n])) : MB B0 p vN vT (N ++ [n]) v T uT a w' := by
  have hb : ∀ (k : Nat) (cur : Array Value) (t : Nat) (fr : Nat × Nat), t ≠ 3 → w.heap[k]? = some (.cells cur t fr) → w'.heap[k]? = w.heap[k]? := fun k cur t fr ht hk => hgrow.block k (Array.getElem?_eq_some_iff.1 hk).1 (fun e => by
    obtain ⟨_, c, hc⟩ := ownsB_type h.n e.symm
    exact ht (blk_type hk hc))
  refine ⟨(hb p _ 30 _ (by decide) h.box).trans h.box, ?_, ownsB_kept h.t fun k e => ?_, h.hp, ?_, h.oth.trans fun k cur t fr h3 _ _ hk => hb k cur t fr h3 hk⟩
  · rw [ints_app, List.length_append]; exact hown
  · obtain ⟨_, c, hc⟩ := ownsB_type h.t e
    exact hb k c 9 _ (by decide) hc
  · exact h.low.trans ⟨hgrow.os, hgrow.tape, hgrow.output, hgrow.size, fun k hk => hgrow.block k (by have := h.base; omega) (fun e => by have := (ownsB_type h.n e.symm).1; omega)⟩
theorem MB.appT (h : MB B0 p vN vT N uN T uT a w) {s : ByteArray} {v : Value} (hgrow : w.grownBy w' uT.ownBlock) (hown : w'.ownsRow B0 9 1 v (T.length + 1) (strs T ++ [.string s])) : MB B0 p vN vT N uN (T ++ [s]) v a w' := by
  have hb : ∀ (k : Nat) (cur : Array Value) (t : Nat) (fr : Nat × Nat), t ≠ 9 → w.heap[k]? = some (.cells cur t fr) → w'.heap[k]? = w.heap[k]? := fun k cur t fr ht hk => hgrow.block k (Array.getElem?_eq_some_iff.1 hk).1 (fun e => by
    obtain ⟨_, c, hc⟩ := ownsB_type h.t e.symm
    exact ht (blk_type hk hc))
  refine ⟨(hb p _ 30 _ (by decide) h.box).trans h.box, ownsB_kept h.n fun k e => ?_, ?_, h.hp, ?_, h.oth.trans fun k cur t fr _ h9 _ hk => hb k cur t fr h9 hk⟩
  · obtain ⟨_, c, hc⟩ := ownsB_type h.n e
    exact hb k c 3 _ (by decide) hc
  · rw [strs_app, List.length_append]; exact hown
  · exact h.low.trans ⟨hgrow.os, hgrow.tape, hgrow.output, hgrow.size, fun k hk => hgrow.block k (by have := h.base; omega) (fun e => by have := (ownsB_type h.t e.symm).1; omega)⟩
theorem MB.set (h : MB B0 p vN vT N uN T uT a w) (i : Nat) (u : Value) {c : Array Value} (hc : (#[vN, vT] : Array Value).setIfInBounds i u = c) (x y : Value) (hxy : c = #[x, y]) : MB B0 p x y N uN T uT a (w.setCell ⟨p, i, none⟩ u) := by
  have hb : ∀ k, k ≠ p → (w.setCell ⟨p, i, none⟩ u).heap[k]? = w.heap[k]? := fun k hk => Below.heap_setCell _ _ _ _ hk
  have hne : ∀ {k : Nat} {cur : Array Value} {t : Nat} {fr : Nat × Nat}, t ≠ 30 → w.heap[k]? = some (.cells cur t fr) → k ≠ p := fun ht hk e => by subst e; exact ht (blk_type hk h.box)
  refine ⟨?_, ownsB_kept h.n fun k e => ?_, ownsB_kept h.t fun k e => ?_, h.hp, ?_, h.oth.trans fun k cur t fr _ _ h30 hk => hb k (hne h30 hk)⟩
  · subst hc
    simp only [World.setCell, Array.getElem?_modify, h.box, if_true, Option.map_some]
    rw [hxy]; rfl
  · obtain ⟨_, c', hc'⟩ := ownsB_type h.n e
    exact hb k (hne (by decide) hc')
  · obtain ⟨_, c', hc'⟩ := ownsB_type h.t e
    exact hb k (hne (by decide) hc')
  · exact h.low.trans (((X.Only.refl p w).set i u).below h.hp)
theorem MB.put0 (h : MB B0 p vN vT N uN T uT a w) : MB B0 p uN vT N uN T uT a (w.setCell ⟨p, 0, none⟩ uN) := h.set 0 uN rfl uN vT rfl
theorem MB.put1 (h : MB B0 p vN vT N uN T uT a w) : MB B0 p vN uT N uN T uT a (w.setCell ⟨p, 1, none⟩ uT) := h.set 1 uT rfl vN uT rfl
end
theorem MB.cells {B0 p : Nat} {vN vT uN uT : Value} {N : List Int} {T : List ByteArray} {a w : World} (h : MB B0 p vN vT N uN T uT a w) : w.cell? ⟨p, 0, none⟩ = some vN ∧ w.cell? ⟨p, 1, none⟩ = some vT ∧ w.frozen? ⟨p, 0, none⟩ = false ∧ w.frozen? ⟨p, 1, none⟩ = false := by
  refine ⟨?_, ?_, Lib.frozen_of_heap h.box _, Lib.frozen_of_heap h.box _⟩ <;> (rw [cell_of_row w p _ _ _ _ h.box]; rfl)
theorem its_of {w : World} {B : Nat} {v : Value} {n : List Int} (h : w.ownsRow B 3 1 v n.length (ints n)) : ∃ ao c, v = .slice ao n.length c ∧ ItsAt w.heap.size w ao n ∧ n.length ≤ c ∧ c ≤ 9223372036854775807 := by
  have hh := h
  rcases h.2 with ⟨e, e2⟩ | ⟨g, cap, cur, e, _, hg, hc, hm, _⟩
  · exact ⟨none, 0, by rw [e, e2], fun i hi => by omega, by omega, by omega⟩
  · subst e
    refine ⟨_, cap, rfl, fun i hi => ⟨g, 0, rfl, (Array.getElem?_eq_some_iff.1 hg).1, ?_⟩, hc, by unfold maxLen at hm; omega⟩
    have := cellAt0 hh i (.int .i64 n[i]) (by simp [ints, hi])
    simpa using this
theorem sts_of {w : World} {B : Nat} {v : Value} {n : List ByteArray} (h : w.ownsRow B 9 1 v n.length (strs n)) : ∃ ao c, v = .slice ao n.length c ∧ StsAt w.heap.size w ao n ∧ n.length ≤ c ∧ c ≤ 9223372036854775807 := by
  have hh := h
  rcases h.2 with ⟨e, e2⟩ | ⟨g, cap, cur, e, _, hg, hc, hm, _⟩
  · exact ⟨none, 0, by rw [e, e2], fun i hi => by omega, by omega, by omega⟩
  · subst e
    refine ⟨_, cap, rfl, fun i hi => ⟨g, 0, rfl, (Array.getElem?_eq_some_iff.1 hg).1, ?_⟩, hc, by unfold maxLen at hm; omega⟩
    have := cellAt0 hh i (.string n[i]) (by simp [strs, hi])
    simpa using this

/-- The document's value and its reader: what was taken, what is left, what was wrong. -/
def DS (B0 p q : Nat) (R : ByteArray) (N : List Int) (T : List ByteArray) (l : List UInt8) (e : Int) (w : World) : Prop := (∃ vN vT, VB B0 p N T vN vT w) ∧ X.RL w q R l e ∧ B0 ≤ q
theorem rl_heap {w w' : World} {q : Nat} {R : ByteArray} {l : List UInt8} {e : Int} (h : X.RL w q R l e) (hh : w'.heap = w.heap) : X.RL w' q R l e := by
  obtain ⟨a, h1, h2⟩ := h
  exact ⟨a, ⟨by rw [hh]; exact h1.blk, h1.le, h1.big, h1.bad⟩, h2⟩
theorem rl_oth {w w' : World} {q : Nat} {R : ByteArray} {l : List UInt8} {e : Int} (h : X.RL w q R l e) (ho : Oth w w') : X.RL w' q R l e := by
  obtain ⟨a, h1, h2⟩ := h
  exact ⟨a, ⟨(ho q _ _ _ (by decide) (by decide) (by decide) h1.blk).trans h1.blk, h1.le, h1.big, h1.bad⟩, h2⟩
theorem rl_err {w : World} {q : Nat} {R : ByteArray} {l : List UInt8} {e : Int} (h : X.RL w q R l e) : w.cell? ⟨q, 2, none⟩ = some (.int .i64 e) := by
  obtain ⟨a, h1, h2⟩ := h
  exact h1.cells.2.2.1
theorem rl_lt {w : World} {q : Nat} {R : ByteArray} {l : List UInt8} {e : Int} (h : X.RL w q R l e) : q < w.heap.size := by
  obtain ⟨a, h1, h2⟩ := h
  exact (Array.getElem?_eq_some_iff.1 h1.blk).1
theorem rl_len {w : World} {q : Nat} {R : ByteArray} {l : List UInt8} {e : Int} (h : X.RL w q R l e) : l.length ≤ R.size := by
  obtain ⟨a, h1, rfl⟩ := h
  rw [X.drop_len]; omega
/-- The reader's work leaves the value. -/
theorem VB.only {B0 p q : Nat} {R : ByteArray} {N : List Int} {T : List ByteArray} {vN vT : Value} {l : List UInt8} {e : Int} {w w' : World} (h : VB B0 p N T vN vT w) (hr : X.RL w q R l e) (ho : X.Only q w w') : VB B0 p N T vN vT w' := by
  obtain ⟨a, h1, _⟩ := hr
  exact h.kept fun k cur t ht hk => ho.block k fun e => by subst e; have := blk_type hk h1.blk; omega
theorem VB.heap {B0 p : Nat} {N : List Int} {T : List ByteArray} {vN vT : Value} {w w' : World} (h : VB B0 p N T vN vT w) (hh : w'.heap = w.heap) : VB B0 p N T vN vT w' := h.kept fun k _ _ _ _ => by rw [hh]
theorem DS.only {B0 p q : Nat} {R : ByteArray} {N : List Int} {T : List ByteArray} {l l' : List UInt8} {e e' : Int} {w w' : World} (h : DS B0 p q R N T l e w) (hr : X.RL w' q R l' e') (ho : X.Only q w w') : DS B0 p q R N T l' e' w' := by
  obtain ⟨⟨vN, vT, hv⟩, h1, h2⟩ := h
  exact ⟨⟨vN, vT, hv.only h1 ho⟩, hr, h2⟩
theorem DS.heap {B0 p q : Nat} {R : ByteArray} {N : List Int} {T : List ByteArray} {l : List UInt8} {e : Int} {w w' : World} (h : DS B0 p q R N T l e w) (hh : w'.heap = w.heap) : DS B0 p q R N T l e w' := by
  obtain ⟨⟨vN, vT, hv⟩, h1, h2⟩ := h
  exact ⟨⟨vN, vT, hv.heap hh⟩, rl_heap h1 hh, h2⟩
theorem DS.news {B0 p q : Nat} {R : ByteArray} {N : List Int} {T : List ByteArray} {l : List UInt8} {e : Int} {w w' : World} (h : DS B0 p q R N T l e w) (hb : Below w.heap.size w w') : DS B0 p q R N T l e w' := by
  obtain ⟨⟨vN, vT, hv⟩, ⟨a, h1, h3⟩, h2⟩ := h
  exact ⟨⟨vN, vT, hv.kept fun k _ _ _ hk => hb.block k (Array.getElem?_eq_some_iff.1 hk).1⟩, ⟨a, ⟨(hb.block q (Array.getElem?_eq_some_iff.1 h1.blk).1).trans h1.blk, h1.le, h1.big, h1.bad⟩, h3⟩, h2⟩
/-- A number more: the value's block, from the world behind the reader's call on. -/
theorem DS.appN {B0 p q : Nat} {R : ByteArray} {N : List Int} {T : List ByteArray} {l : List UInt8} {e n : Int} {vN vT : Value} {a w : World} (hv : VB B0 p N T vN vT a) (hr : X.RL a q R l e) (hq : B0 ≤ q) {o : Obj} {g cap : Nat}
    (hgrow : (a.alloc o).grownBy w vN.ownBlock) (hown : w.ownsRow B0 3 1 (.slice (some ⟨g, 0, none⟩) (N.length + 1) cap) (N.length + 1) (ints N ++ [.int .i64 n])) :
    DS B0 p q R (N ++ [n]) T l e (w.setCell ⟨p, 0, none⟩ (.slice (some ⟨g, 0, none⟩) (N.length + 1) cap)) ∧ Below B0 a (w.setCell ⟨p, 0, none⟩ (.slice (some ⟨g, 0, none⟩) (N.length + 1) cap)) := by
  have hm := ((hv.mb.alloc o).appN hgrow hown).put0
  exact ⟨⟨⟨_, vT, hm.vb⟩, rl_oth hr hm.oth, hq⟩, hm.low⟩
theorem DS.appT {B0 p q : Nat} {R : ByteArray} {N : List Int} {T : List ByteArray} {l : List UInt8} {e : Int} {s : ByteArray} {vN vT : Value} {a w : World} (hv : VB B0 p N T vN vT a) (hr : X.RL a q R l e) (hq : B0 ≤ q) {o : Obj} {g cap : Nat}
    (hgrow : (a.alloc o).grownBy w vT.ownBlock) (hown : w.ownsRow B0 9 1 (.slice (some ⟨g, 0, none⟩) (T.length + 1) cap) (T.length + 1) (strs T ++ [.string s])) :
    DS B0 p q R N (T ++ [s]) l e (w.setCell ⟨p, 1, none⟩ (.slice (some ⟨g, 0, none⟩) (T.length + 1) cap)) ∧ Below B0 a (w.setCell ⟨p, 1, none⟩ (.slice (some ⟨g, 0, none⟩) (T.length + 1) cap)) := by
  have hm := ((hv.mb.alloc o).appT hgrow hown).put1
  exact ⟨⟨⟨vN, _, hm.vb⟩, rl_oth hr hm.oth, hq⟩, hm.low⟩
/-- The count stands one higher. -/
theorem DS.bump {B0 p q : Nat} {R : ByteArray} {N n : List Int} {T : List ByteArray} {j : Int} {l : List UInt8} {e : Int} {w : World} (h : DS B0 p q R (N ++ j :: n) T l e w) : ∃ g cap, w.cell? ⟨p, 0, none⟩ = some (.slice (some ⟨g, 0, none⟩) (N ++ j :: n).length cap) ∧ (N ++ j :: n).length ≤ cap ∧ w.cell? ⟨g, N.length, none⟩ = some (.int .i64 j) ∧ w.frozen? ⟨g, N.length, none⟩ = false ∧
    ∀ j', DS B0 p q R (N ++ j' :: n) T l e (w.setCell ⟨g, N.length, none⟩ (.int .i64 j')) ∧ Below B0 w (w.setCell ⟨g, N.length, none⟩ (.int .i64 j')) := by
  obtain ⟨⟨vN, vT, hb⟩, hr, hq⟩ := h
  obtain ⟨g, cap, rfl, hg, hlt⟩ := hb.n.form (by simp; omega)
  obtain ⟨_, cur, hcur⟩ := ownsB_type hb.n (k := g) rfl
  have hcap : (N ++ j :: n).length ≤ cap := by
    rcases hb.n.2 with ⟨e, _⟩ | ⟨g', cap', cur', e, _, _, hn, _⟩
    · cases e
    · simp only [Value.slice.injEq] at e
      obtain ⟨_, _, rfl⟩ := e
      exact hn
  refine ⟨g, cap, hb.cells.1, hcap, cellAt0 hb.n _ _ (by simp [ints]), Lib.frozen_of_heap hcur _, fun j' => ?_⟩
  have ho : X.Only g w (w.setCell ⟨g, N.length, none⟩ (.int .i64 j')) := (X.Only.refl g w).set _ _
  have hpg : p ≠ g := fun e => by subst e; exact absurd (blk_type hb.box hcur) (by decide)
  refine ⟨⟨⟨_, vT, ho.block p hpg ▸ hb.box, ?_, ?_, hb.hp⟩, ?_, hq⟩, ho.below hg⟩
  · have hlen : (N ++ j' :: n).length = (N ++ j :: n).length := by simp
    have hints : ints (N ++ j' :: n) = (ints (N ++ j :: n)).set N.length (.int .i64 j') := by
      have : (ints N).length = N.length := by simp [ints]
      simp only [ints_app]
      rw [List.set_append_right _ _ (by omega), this, Nat.sub_self]
      rfl
    rw [hlen, hints]
    exact owns_set hb.n _ _
  · refine ownsB_kept hb.t fun k e => ho.block k fun e' => ?_
    obtain ⟨_, cur', hc⟩ := ownsB_type hb.t e
    subst e'
    exact absurd (blk_type hc hcur) (by decide)
  · obtain ⟨a, h1, h3⟩ := hr
    exact ⟨a, ⟨(ho.block q fun e => by subst e; exact absurd (blk_type h1.blk hcur) (by decide)).trans h1.blk, h1.le, h1.big, h1.bad⟩, h3⟩
theorem Only.undrew {q : Nat} {a b : World} (h : X.Only q a.drew b) : X.Only q a b := ⟨h.os, h.tape, h.output, h.size, h.block⟩
/-- What a sign, or a row, leaves. -/
def Out (B0 p q : Nat) (R : ByteArray) (N : List Int) (T : List ByteArray) (y : Tr) (w : World) : Prop :=
  match y with
  | .ok (n, t, l) => DS B0 p q R (N ++ n) (T ++ t) l 0 w
  | .error e => e ≠ 0 ∧ ∃ N' T' l', DS B0 p q R N' T' l' e w
/-- How much may be left. -/
theorem room_step {s s2 s3 A K : Nat} {l1 l2 : List UInt8} {n2 : List Int} {t2 : List ByteArray} {y : Tr} (hf : Few s l1 y) (hy : y = .ok (n2, t2, l2)) (hs : s2 = s + s3) (hK : A + s2 * (l1.length / 4 + 1) ≤ K) :
    A + (n2.length + t2.length) + s3 * (l2.length / 4 + 1) ≤ K ∧ l2.length ≤ l1.length := by
  obtain ⟨a1, a2⟩ := hf n2 t2 l2 hy
  subst hs
  have c1 : s * ((l1.length - l2.length) / 4 + 1) ≤ s * (l1.length / 4 + 1) := Nat.mul_le_mul_left _ (by omega)
  have c2 : s3 * (l2.length / 4 + 1) ≤ s3 * (l1.length / 4 + 1) := Nat.mul_le_mul_left _ (by omega)
  rw [Nat.add_mul] at hK
  exact ⟨by omega, a1⟩
theorem few_one (c : UInt8) (l : List UInt8) : Few 1 l (oneT c l) := by
  refine few_ofN ?_
  split
  · exact numR_len 4 l 0
  · split
    · exact numR_len 8 l 0
    · exact boolR_len l
theorem few_num (c : UInt8) (k : Nat) (l : List UInt8) : Few 1 l (numT c k l) := by
  refine few_ofT ?_
  split
  · exact opqR_len _ l 0
  · exact fixR_len _ l 0
theorem few_opt (c : UInt8) (i : Row) (l : List UInt8) : Few (1 + i.sz) l (if c = 63 then maybeT (tk none i) l else timesT (tk none i) l) := by
  have := few_tk (.opt c i .nil) none l
  have e2 : tk none (.opt c i .nil) l = (if c = 63 then maybeT (tk none i) l else timesT (tk none i) l) := by
    simp only [tk]
    generalize (if c = 63 then maybeT (tk none i) l else timesT (tk none i) l) = z
    cases z with
    | error e => rfl
    | ok y => obtain ⟨a, b, d⟩ := y; simp [andT, pre]
  rw [e2] at this
  exact this
theorem few_ch (a : Row) (l : List UInt8) : Few (1 + a.sz) l (armT (fun n l1 => tk (some n) a l1) l) := few_and (few_ofN (numR_len 4 l 0)) fun l1 _ => few_tk a (some _) l1
end Go.Proofs.YtjogcdkebplcpaaGreatDoor
