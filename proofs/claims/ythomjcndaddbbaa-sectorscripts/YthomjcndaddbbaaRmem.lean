/-
  The document's own disk in memory, and what a call may have done to it. No condition.
-/
import Derived.Test.YthomjcndaddbbaaFull
import Derived.Test.YthomjcndaddbbaaDl
namespace Go.Proofs.Ythomjcndaddbbaa
open Go.RowKit

/-- The document's disk as plain data. -/
structure Rk where
  L : List ByteArray
  P : List Nat
  T : List ByteArray
  cut : Int
  keep : Int
  off : Bool
  wr : Int
  fl : Int
def Rk.of (d : Dk) (keep : Int) : Rk := ⟨d.L, d.Q.map (·.1), d.Q.map (·.2), d.cut, keep, d.off, d.wr, d.fl⟩

def nums (l : List Nat) : List Value := l.map fun (n : Nat) => Value.int .i64 (n : Int)
theorem nums_length (l : List Nat) : (nums l).length = l.length := by simp [nums]

structure RDisk (w : World) (q : Nat) (vl vp vt : Value) (r : Rk) : Prop where
  head : w.heap[q]? = some (.cells #[vl, vp, vt, .int .i64 r.cut, .int .i64 r.keep, .bool r.off, .int .i64 r.wr, .int .i64 r.fl] 44 (0, 0))
  rowL : w.ownsRow 0 9 1 vl r.L.length (strs r.L)
  rowP : w.ownsRow 0 3 1 vp r.P.length (nums r.P)
  rowT : w.ownsRow 0 9 1 vt r.T.length (strs r.T)
  apart : ∀ g, vl.ownBlock = some g → vt.ownBlock ≠ some g

/-- Its blocks. -/
def RFoot (q : Nat) (vl vp vt : Value) (k : Nat) : Prop := k = q ∨ some k = vl.ownBlock ∨ some k = vp.ownBlock ∨ some k = vt.ownBlock

/-- What may have changed. -/
structure Fr (F : Nat → Prop) (w w' : World) : Prop where
  os : w'.os = w.os
  tape : w'.tape = w.tape
  output : w'.output = w.output
  size : w.heap.size ≤ w'.heap.size
  block : ∀ k, k < w.heap.size → ¬ F k → w'.heap[k]? = w.heap[k]?
def Sub (F F' : Nat → Prop) (w : World) : Prop := ∀ k, F' k → F k ∨ w.heap.size ≤ k
theorem Fr.refl (F : Nat → Prop) (w : World) : Fr F w w := ⟨rfl, rfl, rfl, Nat.le_refl _, fun _ _ _ => rfl⟩
theorem Fr.trans {F F' : Nat → Prop} {a b c : World} (h : Fr F a b) (hs : Sub F F' a) (k : Fr F' b c) : Fr F a c := by
  refine ⟨k.os.trans h.os, k.tape.trans h.tape, k.output.trans h.output, Nat.le_trans h.size k.size, fun i hi hF => ?_⟩
  refine (k.block i (by have := h.size; omega) ?_).trans (h.block i hi hF)
  intro e
  rcases hs i e with e | e
  · exact hF e
  · omega
theorem Sub.refl (F : Nat → Prop) (w : World) : Sub F F w := fun _ h => .inl h
theorem Sub.trans {F F' F'' : Nat → Prop} {a b : World} (h : Sub F F' a) (k : Sub F' F'' b) (hs : a.heap.size ≤ b.heap.size) : Sub F F'' a := by
  intro x hx
  rcases k x hx with e | e
  · exact h x e
  · right; omega
theorem Fr.ofBelow {w w' : World} (F : Nat → Prop) (hb : Below w.heap.size w w') : Fr F w w' := ⟨hb.os, hb.tape, hb.output, hb.size, fun k hk _ => hb.block k hk⟩

/-- A disk of the document's, its blocks F. -/
def RDk (w : World) (q : Nat) (F : Nat → Prop) (r : Rk) : Prop := ∃ vl vp vt, RDisk w q vl vp vt r ∧ F = RFoot q vl vp vt
def RTo (w : World) (q : Nat) (F : Nat → Prop) (r : Rk) (w' : World) : Prop := ∃ F', RDk w' q F' r ∧ Fr F w w' ∧ Sub F F' w
theorem RTo.next {w w1 w2 : World} {q : Nat} {F F1 : Nat → Prop} {r : Rk} (hf : Fr F w w1) (hs : Sub F F1 w) (h : RTo w1 q F1 r w2) : RTo w q F r w2 := by
  obtain ⟨F2, a, b, c⟩ := h
  exact ⟨F2, a, hf.trans hs b, hs.trans c hf.size⟩

section
variable {w : World} {q : Nat} {vl vp vt : Value} {r : Rk}
theorem RDisk.cells (h : RDisk w q vl vp vt r) : w.cell? ⟨q, 0, none⟩ = some vl ∧ w.cell? ⟨q, 1, none⟩ = some vp ∧ w.cell? ⟨q, 2, none⟩ = some vt ∧ w.cell? ⟨q, 3, none⟩ = some (.int .i64 r.cut) ∧ w.cell? ⟨q, 4, none⟩ = some (.int .i64 r.keep) ∧
    w.cell? ⟨q, 5, none⟩ = some (.bool r.off) ∧ w.cell? ⟨q, 6, none⟩ = some (.int .i64 r.wr) ∧ w.cell? ⟨q, 7, none⟩ = some (.int .i64 r.fl) := by
  have hh := h.head
  refine ⟨?_, ?_, ?_, ?_, ?_, ?_, ?_, ?_⟩ <;> (rw [cell_of_row w q _ _ _ _ hh]; rfl)
theorem RDisk.free (h : RDisk w q vl vp vt r) (o : Nat) : w.frozen? ⟨q, o, none⟩ = false := Lib.frozen_of_heap h.head _
theorem RDisk.lt (h : RDisk w q vl vp vt r) : q < w.heap.size := (Array.getElem?_eq_some_iff.1 h.head).1
theorem owned_type {w : World} {B e size n g : Nat} {v : Value} {xs : List Value} (h : w.ownsRow B e size v n xs) (hg : v.ownBlock = some g) : ∃ cur, w.heap[g]? = some (.cells cur e (0, 0)) := by
  rcases h.2 with ⟨rfl, _⟩ | ⟨g', cap, cur, rfl, _, hh, _⟩
  · cases hg
  · have : g' = g := by simpa [Value.ownBlock] using hg
    subst this
    exact ⟨cur, hh⟩
theorem owned_ne {w : World} {B e size n k : Nat} {v : Value} {xs : List Value} (h : w.ownsRow B e size v n xs) {cs : Array Value} {t : TypeId} (hk : w.heap[k]? = some (.cells cs t (0, 0))) (ht : t ≠ e) : some k ≠ v.ownBlock := by
  intro e1
  obtain ⟨cur, hc⟩ := owned_type h e1.symm
  rw [hk] at hc
  simp at hc
  exact ht hc.2
theorem owned_lt {w : World} {B e size n g : Nat} {v : Value} {xs : List Value} (h : w.ownsRow B e size v n xs) (hg : v.ownBlock = some g) : g < w.heap.size := by
  obtain ⟨cur, hc⟩ := owned_type h hg
  exact (Array.getElem?_eq_some_iff.1 hc).1
theorem RDisk.ql (h : RDisk w q vl vp vt r) : some q ≠ vl.ownBlock := owned_ne h.rowL h.head (by decide)
theorem RDisk.qp (h : RDisk w q vl vp vt r) : some q ≠ vp.ownBlock := owned_ne h.rowP h.head (by decide)
theorem RDisk.qt (h : RDisk w q vl vp vt r) : some q ≠ vt.ownBlock := owned_ne h.rowT h.head (by decide)
theorem RDisk.foot (h : RDisk w q vl vp vt r) {k : Nat} (hk : RFoot q vl vp vt k) : k < w.heap.size := by
  rcases hk with rfl | e | e | e
  · exact h.lt
  · exact owned_lt h.rowL e.symm
  · exact owned_lt h.rowP e.symm
  · exact owned_lt h.rowT e.symm
theorem RDisk.lp (h : RDisk w q vl vp vt r) {g : Nat} (hg : vl.ownBlock = some g) : some g ≠ vp.ownBlock := by
  obtain ⟨cur, hc⟩ := owned_type h.rowL hg
  exact owned_ne h.rowP hc (by decide)
theorem RDisk.pt (h : RDisk w q vl vp vt r) {g : Nat} (hg : vp.ownBlock = some g) : some g ≠ vt.ownBlock ∧ some g ≠ vl.ownBlock := by
  obtain ⟨cur, hc⟩ := owned_type h.rowP hg
  exact ⟨owned_ne h.rowT hc (by decide), owned_ne h.rowL hc (by decide)⟩
theorem RDisk.same {w' : World} (h : RDisk w q vl vp vt r) (hk : ∀ k, RFoot q vl vp vt k → w'.heap[k]? = w.heap[k]?) : RDisk w' q vl vp vt r :=
  ⟨(hk _ (.inl rfl)).trans h.head, ownsRow_of h.rowL fun g hg => hk g (.inr (.inl hg.symm)), ownsRow_of h.rowP fun g hg => hk g (.inr (.inr (.inl hg.symm))), ownsRow_of h.rowT fun g hg => hk g (.inr (.inr (.inr hg.symm))), h.apart⟩
theorem RDisk.below {w' : World} (h : RDisk w q vl vp vt r) (hb : Below w.heap.size w w') : RDisk w' q vl vp vt r := h.same fun k hk => hb.block k (h.foot hk)
theorem RDisk.alloc (h : RDisk w q vl vp vt r) (o : Obj) : RDisk (w.alloc o) q vl vp vt r := h.below ((Below.refl _ _).alloc (Nat.le_refl _) o)
theorem RDisk.drew (h : RDisk w q vl vp vt r) : RDisk w.drew q vl vp vt r := h.below ((Below.refl _ _).drew)

/-- A number of its own, or one of its lists, is set. -/
theorem RDisk.setQ (h : RDisk w q vl vp vt r) (o : Nat) (x : Value) (vp' vt' : Value) (r' : Rk) (hL : r'.L = r.L) (hP : (vp' = vp ∧ r'.P = r.P) ∨ (vp' = .slice none 0 0 ∧ r'.P = [])) (hT : (vt' = vt ∧ r'.T = r.T) ∨ (vt' = .slice none 0 0 ∧ r'.T = []))
    (hc : (#[vl, vp, vt, Value.int .i64 r.cut, .int .i64 r.keep, .bool r.off, .int .i64 r.wr, .int .i64 r.fl] : Array Value).setIfInBounds o x = #[vl, vp', vt', Value.int .i64 r'.cut, .int .i64 r'.keep, .bool r'.off, .int .i64 r'.wr, .int .i64 r'.fl]) :
    RDisk (w.setCell ⟨q, o, none⟩ x) q vl vp' vt' r' := by
  have hk : ∀ g, g ≠ q → (w.setCell ⟨q, o, none⟩ x).heap[g]? = w.heap[g]? := fun g hg => Below.heap_setCell _ _ _ _ hg
  refine ⟨?_, ?_, ?_, ?_, ?_⟩
  · rw [heap_set x h.head, hc]
  · rw [hL]; exact ownsRow_of h.rowL fun g hg => hk g (fun e => h.ql (by rw [hg, e]))
  · rcases hP with ⟨rfl, e⟩ | ⟨rfl, e⟩
    · rw [e]; exact ownsRow_of h.rowP fun g hg => hk g (fun e => h.qp (by rw [hg, e]))
    · rw [e]; exact World.ownsRow_nil _ _ _ _
  · rcases hT with ⟨rfl, e⟩ | ⟨rfl, e⟩
    · rw [e]; exact ownsRow_of h.rowT fun g hg => hk g (fun e => h.qt (by rw [hg, e]))
    · rw [e]; exact World.ownsRow_nil _ _ _ _
  · rcases hT with ⟨rfl, _⟩ | ⟨rfl, _⟩
    · exact h.apart
    · intro g _ e; simp [Value.ownBlock] at e
theorem Fr.setQ (o : Nat) (x : Value) : Fr (RFoot q vl vp vt) w (w.setCell ⟨q, o, none⟩ x) :=
  ⟨rfl, rfl, rfl, by simp [World.setCell], fun k _ hk => Below.heap_setCell _ _ _ _ (fun e => hk (.inl e))⟩
theorem Sub.nils {vp' vt' : Value} (hP : vp' = vp ∨ vp' = .slice none 0 0) (hT : vt' = vt ∨ vt' = .slice none 0 0) : Sub (RFoot q vl vp vt) (RFoot q vl vp' vt') w := by
  rintro k (e | e | e | e)
  · exact .inl (.inl e)
  · exact .inl (.inr (.inl e))
  · rcases hP with rfl | rfl
    · exact .inl (.inr (.inr (.inl e)))
    · simp [Value.ownBlock] at e
  · rcases hT with rfl | rfl
    · exact .inl (.inr (.inr (.inr e)))
    · simp [Value.ownBlock] at e

/-- A text that lasts is set. -/
theorem RDisk.setL {g cap n : Nat} (h : RDisk w q (.slice (some ⟨g, 0, none⟩) n cap) vp vt r) (i : Nat) (s : ByteArray) :
    RDisk (w.setCell ⟨g, i, none⟩ (.string s)) q (.slice (some ⟨g, 0, none⟩) n cap) vp vt { r with L := r.L.set i s } := by
  have hk : ∀ k, k ≠ g → (w.setCell ⟨g, i, none⟩ (.string s)).heap[k]? = w.heap[k]? := fun k hk => Below.heap_setCell _ _ _ _ hk
  refine ⟨(hk _ (fun e => h.ql (by rw [e]; rfl))).trans h.head, ?_, ?_, ?_, h.apart⟩
  · obtain ⟨e1, e2⟩ := h.rowL
    refine ⟨by simp [strs], ?_⟩
    rcases e2 with ⟨e, _⟩ | ⟨g', cap', cur, e, b1, hh, h1, h2, h3, h4⟩
    · simp at e
    · right
      simp only [Value.slice.injEq, Option.some.injEq, Addr.mk.injEq, and_true] at e
      obtain ⟨rfl, rfl, rfl⟩ := e
      refine ⟨g, cap, cur.setIfInBounds i (.string s), by simp, b1, heap_set _ hh, by simpa using h1, h2, by simpa using h3, ?_⟩
      simp only [Array.toList_setIfInBounds, List.length_set]
      rw [List.take_set, h4]
      simp [strs, List.map_set]
  · exact ownsRow_of h.rowP fun k hk2 => hk k (fun e => h.lp (g := g) rfl (by rw [hk2, e]))
  · exact ownsRow_of h.rowT fun k hk2 => hk k (fun e => h.apart g rfl (by rw [hk2, e]))
theorem Fr.setL {g cap n : Nat} (i : Nat) (x : Value) : Fr (RFoot q (.slice (some ⟨g, 0, none⟩) n cap) vp vt) w (w.setCell ⟨g, i, none⟩ x) :=
  ⟨rfl, rfl, rfl, by simp [World.setCell], fun k _ hk => Below.heap_setCell _ _ _ _ (fun e => hk (.inr (.inl (by rw [e]; rfl))))⟩
end

/-- The cells of a row that is owned, by place. -/
theorem str_at {w : World} {v : Value} {n : Nat} {l : List ByteArray} (h : w.ownsRow 0 9 1 v n (strs l)) {g : Nat} (hg : v.ownBlock = some g) (j : Nat) (hj : j < l.length) : w.cell? ⟨g, j, none⟩ = some (.string l[j]) :=
  cellAt h hg j _ (by simp [strs, hj])
theorem num_at {w : World} {v : Value} {n : Nat} {l : List Nat} (h : w.ownsRow 0 3 1 v n (nums l)) {g : Nat} (hg : v.ownBlock = some g) (j : Nat) (hj : j < l.length) : w.cell? ⟨g, j, none⟩ = some (.int .i64 (l[j] : Int)) :=
  cellAt h hg j _ (by simp [nums, hj])
theorem owned_free {w : World} {B e size n g : Nat} {v : Value} {xs : List Value} (h : w.ownsRow B e size v n xs) (hg : v.ownBlock = some g) (o : Nat) : w.frozen? ⟨g, o, none⟩ = false := by
  obtain ⟨cur, hc⟩ := owned_type h hg
  exact Lib.frozen_of_heap hc _
end Go.Proofs.Ythomjcndaddbbaa
