/-
  A disk in memory, and what a call may have done to it. No condition.
-/
import Derived.Test.YthomjcndaddbbaaRows
import Derived.Test.YthomjcndaddbbaaShelf
import Derived.Test.YthomjcndaddbbaaDk
import Derived.WalkKit
import Derived.WalkSpells
import Derived.WalkLawsBesides
import Derived.Deep.AppendLies
import Derived.Deep.RegionHeld3
import Derived.Deep.RegionLaw
import Derived.StillTailTactics
import Derived.Laws.CopyRow
import Derived.Lib.Hide
namespace Go.Proofs.Ythomjcndaddbbaa
open Go.RowKit

/-- Texts as cells; writes as cells. -/
def strs (l : List ByteArray) : List Value := l.map Value.string
def qcells (q : List (Nat × ByteArray)) : List Value := q.flatMap fun x => [.int .i64 (x.1 : Int), .string x.2]
theorem strs_length (l : List ByteArray) : (strs l).length = l.length := by simp [strs]
theorem qcells_length : ∀ q : List (Nat × ByteArray), (qcells q).length = q.length * 2
  | [] => rfl
  | x :: r => by
    show (Value.int .i64 (x.1 : Int) :: Value.string x.2 :: qcells r).length = _
    simp [qcells_length r]; omega
theorem qcells_append (a b : List (Nat × ByteArray)) : qcells (a ++ b) = qcells a ++ qcells b := by simp [qcells]

/-- Where a disk lies: its block, what lasts, what is seen (with the room behind it). -/
structure Loc where
  p : Nat
  b : Nat
  c : Nat
  n2 : Nat
  R : List Value

structure Disk (w : World) (l : Loc) (v : Value) (d : Dk) : Prop where
  head : w.heap[l.p]? = some (.cells #[.slice (some ⟨l.b, 0, none⟩) d.L.length d.L.length, .slice (some ⟨l.c, 0, none⟩) d.L.length l.n2, v, .bool d.off, .int .i64 d.cut, .int .i64 d.keep, .int .i64 d.wr, .int .i64 d.fl] 64 (0, 0))
  rowL : w.heap[l.b]? = some (.cells (strs d.L).toArray 9 (0, 0))
  rowS : w.heap[l.c]? = some (.cells (strs d.S ++ l.R).toArray 9 (0, 0))
  queue : w.ownsRow 0 67 2 v d.Q.length (qcells d.Q)
  apart : l.b ≠ l.c
  len : d.S.length = d.L.length

/-- What may have changed: the disk's own blocks, its queue's row, and new blocks. -/
structure Chg (l : Loc) (v v' : Value) (w w' : World) : Prop where
  os : w'.os = w.os
  tape : w'.tape = w.tape
  output : w'.output = w.output
  size : w.heap.size ≤ w'.heap.size
  block : ∀ k, k < w.heap.size → k ≠ l.p → k ≠ l.b → k ≠ l.c → some k ≠ v.ownBlock → w'.heap[k]? = w.heap[k]?
  own : v'.ownBlock = none ∨ v'.ownBlock = v.ownBlock ∨ ∃ g, v'.ownBlock = some g ∧ w.heap.size ≤ g

theorem Chg.refl (l : Loc) (v : Value) (w : World) : Chg l v v w w := ⟨rfl, rfl, rfl, Nat.le_refl _, fun _ _ _ _ _ _ => rfl, .inr (.inl rfl)⟩

theorem Chg.trans {l : Loc} {v v' v'' : Value} {a b c : World} (h : Chg l v v' a b) (k : Chg l v' v'' b c) : Chg l v v'' a c := by
  refine ⟨k.os.trans h.os, k.tape.trans h.tape, k.output.trans h.output, Nat.le_trans h.size k.size, fun i hi h1 h2 h3 hv => ?_, ?_⟩
  · have hs := h.size
    refine (k.block i (by omega) h1 h2 h3 ?_).trans (h.block i hi h1 h2 h3 hv)
    rcases h.own with e | e | ⟨g, e, hg⟩
    · rw [e]; simp
    · rw [e]; exact hv
    · rw [e]; intro e2; have : i = g := by simpa using e2
      omega
  · rcases k.own with e | e | ⟨g, e, hg⟩
    · exact .inl e
    · rw [e]; exact h.own
    · exact .inr (.inr ⟨g, e, Nat.le_trans h.size hg⟩)

theorem Chg.below {l : Loc} {v v' : Value} {w w' : World} (h : Chg l v v' w w') {B : Nat} (hB : B ≤ w.heap.size) (hp : B ≤ l.p) (hb : B ≤ l.b) (hc : B ≤ l.c) (hv : ∀ k, v.ownBlock = some k → B ≤ k) : Below B w w' :=
  ⟨h.os, h.tape, h.output, h.size, fun k hk => h.block k (by omega) (by omega) (by omega) (by omega) (fun e => by have := hv k e.symm; omega)⟩

/-- What a call of a disk leaves. -/
def DkTo (w : World) (l : Loc) (v : Value) (d : Dk) (w' : World) : Prop := ∃ v', Disk w' l v' d ∧ Chg l v v' w w'

theorem DkTo.next {w w1 w2 : World} {l : Loc} {v v1 : Value} {d : Dk} (hC : Chg l v v1 w w1) (h : DkTo w1 l v1 d w2) : DkTo w l v d w2 := by
  obtain ⟨v2, a, b⟩ := h
  exact ⟨v2, a, hC.trans b⟩

section
variable {w : World} {l : Loc} {v : Value} {d : Dk}
theorem Disk.cells (h : Disk w l v d) : w.cell? ⟨l.p, 0, none⟩ = some (.slice (some ⟨l.b, 0, none⟩) d.L.length d.L.length) ∧ w.cell? ⟨l.p, 1, none⟩ = some (.slice (some ⟨l.c, 0, none⟩) d.L.length l.n2) ∧ w.cell? ⟨l.p, 2, none⟩ = some v ∧
    w.cell? ⟨l.p, 3, none⟩ = some (.bool d.off) ∧ w.cell? ⟨l.p, 4, none⟩ = some (.int .i64 d.cut) ∧ w.cell? ⟨l.p, 5, none⟩ = some (.int .i64 d.keep) ∧ w.cell? ⟨l.p, 6, none⟩ = some (.int .i64 d.wr) ∧ w.cell? ⟨l.p, 7, none⟩ = some (.int .i64 d.fl) := by
  have hh := h.head
  refine ⟨?_, ?_, ?_, ?_, ?_, ?_, ?_, ?_⟩ <;> (rw [cell_of_row w l.p _ _ _ _ hh]; rfl)
theorem Disk.free (h : Disk w l v d) (o : Nat) : w.frozen? ⟨l.p, o, none⟩ = false := Lib.frozen_of_heap h.head _
theorem Disk.lt (h : Disk w l v d) : l.p < w.heap.size := (Array.getElem?_eq_some_iff.1 h.head).1
theorem Disk.ltb (h : Disk w l v d) : l.b < w.heap.size := (Array.getElem?_eq_some_iff.1 h.rowL).1
theorem Disk.ltc (h : Disk w l v d) : l.c < w.heap.size := (Array.getElem?_eq_some_iff.1 h.rowS).1
theorem Disk.pb (h : Disk w l v d) : l.p ≠ l.b := by intro e; have := h.head; rw [e, h.rowL] at this; simp at this
theorem Disk.pc (h : Disk w l v d) : l.p ≠ l.c := by intro e; have := h.head; rw [e, h.rowS] at this; simp at this
theorem Disk.row (h : Disk w l v d) {g : Nat} (hg : v.ownBlock = some g) : ∃ cur, w.heap[g]? = some (.cells cur 67 (0, 0)) := by
  rcases h.queue.2 with ⟨rfl, _⟩ | ⟨g', cap, cur, rfl, _, hh, _⟩
  · cases hg
  · have : g' = g := by simpa [Value.ownBlock] using hg
    subst this
    exact ⟨cur, hh⟩
theorem Disk.ne {k : Nat} (h : Disk w l v d) {cs : Array Value} {t : TypeId} (hk : w.heap[k]? = some (.cells cs t (0, 0))) (ht : t ≠ 67) : some k ≠ v.ownBlock := by
  intro e
  obtain ⟨cur, hc⟩ := h.row e.symm
  rw [hk] at hc
  simp at hc
  exact ht hc.2
theorem Disk.vp (h : Disk w l v d) : some l.p ≠ v.ownBlock := h.ne h.head (by decide)
theorem Disk.vb (h : Disk w l v d) : some l.b ≠ v.ownBlock := h.ne h.rowL (by decide)
theorem Disk.vc (h : Disk w l v d) : some l.c ≠ v.ownBlock := h.ne h.rowS (by decide)
theorem Disk.vlt (h : Disk w l v d) {g : Nat} (hg : v.ownBlock = some g) : g < w.heap.size := by
  obtain ⟨cur, hc⟩ := h.row hg
  exact (Array.getElem?_eq_some_iff.1 hc).1
end

theorem ownsRow_of {w w' : World} {B e size n : Nat} {v : Value} {xs : List Value} (h : w.ownsRow B e size v n xs) (hk : ∀ g, v.ownBlock = some g → w'.heap[g]? = w.heap[g]?) : w'.ownsRow B e size v n xs := by
  refine ⟨h.1, ?_⟩
  rcases h.2 with e | ⟨g, cap, cur, e, hB, hg, r⟩
  · exact .inl e
  · exact .inr ⟨g, cap, cur, e, hB, (hk g (by rw [e]; rfl)).trans hg, r⟩

theorem heap_set {w : World} {g o : Nat} {cur : Array Value} {t : TypeId} (x : Value) (h : w.heap[g]? = some (.cells cur t (0, 0))) : (w.setCell ⟨g, o, none⟩ x).heap[g]? = some (.cells (cur.setIfInBounds o x) t (0, 0)) := by
  rw [setCell_eq_setRow w g o cur t (0, 0) x h]
  exact setRow_heap w g cur _ t _ h

theorem Chg.setP {l : Loc} {v v' : Value} {w : World} (o : Nat) (x : Value) (hv : v'.ownBlock = none ∨ v'.ownBlock = v.ownBlock) : Chg l v v' w (w.setCell ⟨l.p, o, none⟩ x) :=
  ⟨rfl, rfl, rfl, by simp [World.setCell], fun _ _ h1 _ _ _ => Below.heap_setCell _ _ _ _ h1, by rcases hv with h | h; exact .inl h; exact .inr (.inl h)⟩
theorem Chg.setB {l : Loc} {v : Value} {w : World} (o : Nat) (x : Value) : Chg l v v w (w.setCell ⟨l.b, o, none⟩ x) :=
  ⟨rfl, rfl, rfl, by simp [World.setCell], fun _ _ _ h1 _ _ => Below.heap_setCell _ _ _ _ h1, .inr (.inl rfl)⟩
theorem Chg.setC {l : Loc} {v : Value} {w : World} (o : Nat) (x : Value) : Chg l v v w (w.setCell ⟨l.c, o, none⟩ x) :=
  ⟨rfl, rfl, rfl, by simp [World.setCell], fun _ _ _ _ h1 _ => Below.heap_setCell _ _ _ _ h1, .inr (.inl rfl)⟩

/-- A number of the disk's own is set. -/
theorem Disk.setP {w : World} {l : Loc} {v : Value} {d : Dk} (h : Disk w l v d) (o : Nat) (x v' : Value) (d' : Dk) (hL : d'.L = d.L) (hS : d'.S = d.S) (hQ : (v' = v ∧ d'.Q = d.Q) ∨ (v' = .slice none 0 0 ∧ d'.Q = []))
    (hc : (#[Value.slice (some ⟨l.b, 0, none⟩) d.L.length d.L.length, .slice (some ⟨l.c, 0, none⟩) d.L.length l.n2, v, .bool d.off, .int .i64 d.cut, .int .i64 d.keep, .int .i64 d.wr, .int .i64 d.fl] : Array Value).setIfInBounds o x =
      #[Value.slice (some ⟨l.b, 0, none⟩) d.L.length d.L.length, .slice (some ⟨l.c, 0, none⟩) d.L.length l.n2, v', .bool d'.off, .int .i64 d'.cut, .int .i64 d'.keep, .int .i64 d'.wr, .int .i64 d'.fl]) :
    Disk (w.setCell ⟨l.p, o, none⟩ x) l v' d' := by
  refine ⟨?_, ?_, ?_, ?_, h.apart, by rw [hL, hS]; exact h.len⟩
  · rw [heap_set x h.head, hc, hL]
  · rw [Below.heap_setCell _ _ _ _ (fun e => h.pb e.symm), hL]; exact h.rowL
  · rw [Below.heap_setCell _ _ _ _ (fun e => h.pc e.symm), hS]; exact h.rowS
  · rcases hQ with ⟨rfl, e⟩ | ⟨rfl, e⟩
    · rw [e]
      exact ownsRow_of h.queue fun g hg => Below.heap_setCell _ _ _ _ (fun e => h.vp (by rw [hg, e]))
    · rw [e]; exact World.ownsRow_nil _ _ _ _

theorem cellAt {w : World} {B e size n : Nat} {v : Value} {xs : List Value} (h : w.ownsRow B e size v n xs) {g : Nat} (hg : v.ownBlock = some g) (j : Nat) (u : Value) (hj : xs[j]? = some u) : w.cell? ⟨g, j, none⟩ = some u := by
  have := h.cells hg j u hj
  have e : (⟨g, 0, none⟩ : Addr).add j = ⟨g, j, none⟩ := by unfold Addr.add; split <;> simp_all
  rw [e] at this
  exact this
theorem qcells_get : ∀ (q : List (Nat × ByteArray)) (k : Nat) (x : Nat × ByteArray), q[k]? = some x → (qcells q)[k * 2]? = some (.int .i64 (x.1 : Int)) ∧ (qcells q)[k * 2 + 1]? = some (.string x.2)
  | [], k, x, h => by simp at h
  | y :: r, 0, x, h => by
    have : y = x := by simpa using h
    subst this
    exact ⟨rfl, rfl⟩
  | y :: r, k + 1, x, h => by
    have := qcells_get r k x (by simpa using h)
    have e : qcells (y :: r) = .int .i64 (y.1 : Int) :: .string y.2 :: qcells r := rfl
    rw [e, show (k + 1) * 2 = (k * 2 + 1) + 1 from by omega]
    simpa using this

/-- copy, in a region that draws its order: the world behind it, to the block. -/
theorem step_copy_at {P : Program} {ops : Array Oper} {o : Oper} {a : Act} {w : World} {K : Act → World → Prop} {Q : Exit → Act → World → Prop} {E : Prop} (hgd : o.guard = none) (d s : Operand) (dT sT : TypeId)
    (ho : o.op = .call { callee := .builtin .copy, args := #[d, s], argTypes := #[dT, sT] }) (elem : TypeId) (hu : P.underlying dT = some (.slice elem)) (hsz : (P.info? elem).map (·.size) = some 1)
    (g off dLen dCap : Nat) (ad : Addr) (sLen sCap : Nat) (hd : a.eval d = .slice (some ⟨g, off, none⟩) dLen dCap) (hs : a.eval s = .slice (some ad) sLen sCap)
    (cur : Array Value) (t : TypeId) (hg : w.heap[g]? = some (.cells cur t (0, 0))) (cs : List Value) (hn : cs.length = Nat.min sLen dLen)
    (hsrc : ∀ j v, cs[j]? = some v → w.cell? (ad.add j) = some v) (hfit : off + cs.length ≤ cur.size) (h1 : ∀ v ∈ cs, v.oneCell' = true)
    (h : ∀ w', Hid (w' = w.setRow g (cur.toList.take off ++ cs ++ cur.toList.drop (off + cs.length)).toArray) → K (a.put o.dst (goInt cs.length)) w') :
    if Region.wanted o (yielded ops a.tmps) = true then Oper.wp P o a w K Q else E := by
  have hw : Region.wanted o (yielded ops a.tmps) = true := by simp [Region.wanted, hgd]
  rw [if_pos hw]
  have hrun := run_copy_row (P := P) w dT sT o.type elem g off dLen dCap ad sLen sCap cur t cs hu hsz hg hn hsrc hfit h1
  unfold Oper.wp
  simp only [execOp, ho, resolve, invoke, builtin, Sem.run_bind, Sem.run_pure, Result.andThen_ok, List.map_toArray, List.map_cons, List.map_nil, hd, hs, hrun]
  exact h _ (Lib.hid rfl)
end Go.Proofs.Ythomjcndaddbbaa
