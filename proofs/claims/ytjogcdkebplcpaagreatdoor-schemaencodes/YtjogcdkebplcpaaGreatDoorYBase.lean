/-
  A writer in memory, and what a call may have done to it: the words that the contracts of package xdr are said in. No condition.
-/
import Derived.Test.YtjogcdkebplcpaaGreatDoorRows
import Derived.WalkKit
import Derived.WalkSpells
import Derived.WalkLawsBesides
import Derived.Deep.AppendLies
import Derived.Deep.RegionHeld3
import Derived.Lib.AppendStr
import Derived.Lib.Hide
namespace Go.Proofs.YtjogcdkebplcpaaGreatDoor.Y
open Go.RowKit
variable {T : Nat} {R : List Value}

/-- Bytes as cells. -/
def cellsOf (l : List UInt8) : List Value := l.map fun b => Value.int .u8 b.toNat

theorem cellsOf_length (l : List UInt8) : (cellsOf l).length = l.length := by simp [cellsOf]
theorem cellsOf_append (a b : List UInt8) : cellsOf (a ++ b) = cellsOf a ++ cellsOf b := by simp [cellsOf]

/-- The writer in block p, whose field holds the slice v, has put the bytes l. -/
def Wr (T : Nat) (R : List Value) (w : World) (p : Nat) (v : Value) (l : List UInt8) : Prop :=
  (T ≠ 5 ∧ w.heap[p]? = some (.cells (v :: R).toArray T (0, 0))) ∧ w.ownsRow 0 5 1 v l.length (cellsOf l)

/-- What may have changed: the writer's own block, its row, and new blocks. -/
structure Chg (p : Nat) (v v' : Value) (w w' : World) : Prop where
  os : w'.os = w.os
  tape : w'.tape = w.tape
  output : w'.output = w.output
  size : w.heap.size ≤ w'.heap.size
  block : ∀ k, k < w.heap.size → k ≠ p → some k ≠ v.ownBlock → w'.heap[k]? = w.heap[k]?
  own : v'.ownBlock = v.ownBlock ∨ ∃ g, v'.ownBlock = some g ∧ w.heap.size ≤ g

theorem Chg.refl (p : Nat) (v : Value) (w : World) : Chg p v v w w := ⟨rfl, rfl, rfl, Nat.le_refl _, fun _ _ _ _ => rfl, .inl rfl⟩

theorem Chg.trans {p : Nat} {v v' v'' : Value} {a b c : World} (h : Chg p v v' a b) (k : Chg p v' v'' b c) : Chg p v v'' a c := by
  refine ⟨k.os.trans h.os, k.tape.trans h.tape, k.output.trans h.output, Nat.le_trans h.size k.size, fun i hi hp hv => ?_, ?_⟩
  · have hs := h.size
    refine (k.block i (by omega) hp ?_).trans (h.block i hi hp hv)
    rcases h.own with e | ⟨g, e, hg⟩
    · rw [e]; exact hv
    · rw [e]; intro e2; have : i = g := by simpa using e2
      omega
  · rcases k.own with e | ⟨g, e, hg⟩
    · rw [e]; exact h.own
    · exact .inr ⟨g, e, Nat.le_trans h.size hg⟩

theorem Chg.below {p : Nat} {v v' : Value} {w w' : World} (h : Chg p v v' w w') {B : Nat} (hB : B ≤ w.heap.size) (hp : B ≤ p) (hv : ∀ k, v.ownBlock = some k → B ≤ k) : Below B w w' :=
  ⟨h.os, h.tape, h.output, h.size, fun k hk => h.block k (by omega) (by omega) (fun e => by have := hv k e.symm; omega)⟩

/-- What a call of a writer leaves. -/
def WrTo (T : Nat) (R : List Value) (w : World) (p : Nat) (v : Value) (l : List UInt8) (w' : World) : Prop := ∃ v', Wr T R w' p v' l ∧ Chg p v v' w w'

theorem Wr.cell {w : World} {p : Nat} {v : Value} {l : List UInt8} (h : Wr T R w p v l) : w.cell? ⟨p, 0, none⟩ = some v := by
  rw [cell_of_row w p 0 _ _ _ h.1.2]; simp
theorem Wr.free {w : World} {p : Nat} {v : Value} {l : List UInt8} (h : Wr T R w p v l) : w.frozen? ⟨p, 0, none⟩ = false := Lib.frozen_of_heap h.1.2 _
theorem Wr.lt {w : World} {p : Nat} {v : Value} {l : List UInt8} (h : Wr T R w p v l) : p < w.heap.size := (Array.getElem?_eq_some_iff.1 h.1.2).1
theorem Wr.ne {w : World} {p : Nat} {v : Value} {l : List UInt8} (h : Wr T R w p v l) : some p ≠ v.ownBlock := by
  intro e
  rcases h.2.2 with ⟨rfl, _⟩ | ⟨g, cap, cur, rfl, _, hg, _⟩
  · simp [Value.ownBlock] at e
  · have : p = g := by simpa [Value.ownBlock] using e
    subst this
    rw [h.1.2] at hg
    simp only [Option.some.injEq, Obj.cells.injEq] at hg
    exact h.1.1 hg.2.1

/-- An append to the field and the store of the new slice, together. -/
theorem Wr.put {w w0 w1 : World} {p : Nat} {v v' : Value} {l m : List UInt8} (h : Wr T R w p v l)
    (hg0 : w.grownBy w0 none) (hgrow : w0.grownBy w1 v.ownBlock) (hat : v'.ownBlock = v.ownBlock ∨ ∃ g, v'.ownBlock = some g ∧ w.heap.size ≤ g) (n : Nat) (hn : n = l.length + m.length)
    (hown : w1.ownsRow 0 5 1 v' n (cellsOf l ++ cellsOf m)) : WrTo T R w p v (l ++ m) (w1.setCell ⟨p, 0, none⟩ v') := by
  have hlt := h.lt
  have h0 : w0.heap[p]? = some (.cells (v :: R).toArray T (0, 0)) := (hg0.block p hlt (by simp)).trans h.1.2
  have h1 : w1.heap[p]? = some (.cells (v :: R).toArray T (0, 0)) := (hgrow.block p (by have := hg0.size; omega) h.ne).trans h0
  have hgp : v'.ownBlock ≠ some p := by
    rcases hat with e | ⟨g, e, hg⟩
    · rw [e]; exact fun e2 => h.ne e2.symm
    · rw [e]; intro e2; have : g = p := by simpa using e2
      omega
  refine ⟨v', ⟨?_, ?_⟩, ⟨?_, ?_, ?_, ?_, ?_, hat⟩⟩
  · exact ⟨h.1.1, by simp [World.setCell, Array.getElem?_modify, h1]⟩
  · have hl : (l ++ m).length = n := by simp [hn]
    rw [hl, cellsOf_append]
    obtain ⟨e1, e2⟩ := hown
    refine ⟨e1, ?_⟩
    rcases e2 with e2 | ⟨g', cap', cur, e2, b1, hh, r⟩
    · exact .inl e2
    · refine .inr ⟨g', cap', cur, e2, b1, ?_, r⟩
      have e3 : g' ≠ p := by intro e3; apply hgp; rw [e2, e3]; rfl
      rw [Below.heap_setCell _ _ _ _ e3]; exact hh
  · show w1.os = w.os; exact hgrow.os.trans hg0.os
  · show w1.tape = w.tape; exact hgrow.tape.trans hg0.tape
  · show w1.output = w.output; exact hgrow.output.trans hg0.output
  · simp [World.setCell]; exact Nat.le_trans hg0.size hgrow.size
  · intro k hk hkp hkv
    rw [Below.heap_setCell _ _ _ _ hkp]
    exact (hgrow.block k (by have := hg0.size; omega) hkv).trans (hg0.block k hk (by simp))

theorem Tryz.info5 : (Tryz.prog.info? 5).map (fun i => (i.zero, i.size, i.bytes)) = some (some (.int .u8 0), 1, 1) := by kernel_rfl

/-- The bytes of a number: the i-th of size, the highest first. -/
def byteAt (n : Int) (k : Nat) : UInt8 := UInt8.ofNat ((n / (2 : Int) ^ k) % 256).toNat
def numTo (n : Int) (size k : Nat) : List UInt8 := (List.range k).map fun i => byteAt n (8 * (size - 1 - i))
def numBytes (n : Int) (size : Nat) : List UInt8 := numTo n size size
theorem numTo_succ (n : Int) (size k : Nat) : numTo n size (k + 1) = numTo n size k ++ [byteAt n (8 * (size - 1 - k))] := by
  simp [numTo, List.range_succ]
theorem numTo_length (n : Int) (size k : Nat) : (numTo n size k).length = k := by simp [numTo]
theorem byteAt_toNat (n : Int) (k : Nat) : ((byteAt n k).toNat : Int) = (n / (2 : Int) ^ k) % 256 := by
  unfold byteAt
  have h1 := Int.emod_nonneg (n / (2 : Int) ^ k) (show (256 : Int) ≠ 0 by decide)
  have h2 := Int.emod_lt_of_pos (n / (2 : Int) ^ k) (show (0 : Int) < 256 by decide)
  rw [UInt8.toNat_ofNat', Nat.mod_eq_of_lt (by omega)]
  omega
theorem wrap_byteAt (n : Int) (k : Nat) : IntKind.u8.wrap (n / (2 : Int) ^ k) = ((byteAt n k).toNat : Int) := by
  rw [byteAt_toNat]; rfl

/-- One byte more. -/
theorem Wr.push {w wr w0 w1 : World} {p g cap : Nat} {v v1 : Value} {L : List UInt8} {x : Value} {b : UInt8} (h : Wr T R wr p v1 L) (hC : Chg p v v1 w wr)
    (hg0 : wr.grownBy w0 none) (hgrow : w0.grownBy w1 v1.ownBlock) (hat : v1.ownBlock = some g ∨ g = wr.heap.size + 1)
    (hx : x = .int .u8 b.toNat) (hown : w1.ownsRow 0 5 1 (.slice (some ⟨g, 0, none⟩) (L.length + 1) cap) (L.length + 1) (cellsOf L ++ [x])) :
    WrTo T R w p v (L ++ [b]) (w1.setCell ⟨p, 0, none⟩ (.slice (some ⟨g, 0, none⟩) (L.length + 1) cap)) := by
  subst hx
  obtain ⟨v', e1, e2⟩ := Wr.put (m := [b]) h hg0 hgrow (v' := .slice (some ⟨g, 0, none⟩) (L.length + 1) cap) (by rcases hat with e | e; exact Or.inl (by rw [e]; rfl); exact Or.inr ⟨g, rfl, by omega⟩) (L.length + 1) (by simp) (by simpa [cellsOf] using hown)
  exact ⟨v', e1, hC.trans e2⟩

/-- Where a string's bytes lie that were appended. -/
theorem run_append_str_at {P : Program} (w : World) (t u ty e : TypeId) (i : TypeInfo) (ht : P.underlying t = some (.slice e)) (hu : P.underlying u = some .string) (hi : P.info? e = some i) (hz : i.zero = some (.int .u8 0))
    (hsize : i.size = 1) (hby : i.bytes = 1) (v : Value) (n : Nat) (xs : List Value) (hown : w.ownsRow 0 e 1 v n xs) (s : ByteArray) (hbytes : n + s.size ≤ 140737488355328) :
    ∃ ao cap w', (Builtin.append_ #[t, u] ty #[v, .string s]).run P w = .ok (.slice ao (n + s.size) cap) w' ∧ w'.ownsRow 0 e 1 (.slice ao (n + s.size) cap) (n + s.size) (xs ++ Lib.strCells s) ∧ w.grownBy w' v.ownBlock ∧
      (Value.ownBlock (.slice ao (n + s.size) cap) = v.ownBlock ∨ ∃ g, Value.ownBlock (.slice ao (n + s.size) cap) = some g ∧ w.heap.size ≤ g) := by
  obtain ⟨v', w', hr, h2, h3, h4⟩ := Lib.run_append_own_string (P := P) w 0 t u ty e i ht hu hi hz hsize hby v n xs hown s (by unfold maxLen; omega) hbytes (Nat.zero_le _)
  have hform : ∃ ao cap, v' = .slice ao (n + s.size) cap := by
    rcases h2.2 with ⟨e1, e2⟩ | ⟨g, cap, cur, e1, _⟩
    · exact ⟨none, 0, by rw [e1, e2]⟩
    · exact ⟨_, _, e1⟩
  obtain ⟨ao, cap', rfl⟩ := hform
  refine ⟨ao, cap', w', hr, h2, h3, ?_⟩
  have hxl : xs.length = n := by simpa using hown.1
  rcases hown.2 with ⟨rfl, rfl⟩ | ⟨g, cap, cur, rfl, hbg, hg, hnc, hcm, hcs, htake⟩
  · by_cases hm : s.size = 0
    · left; rw [h4.2 ⟨rfl, hm⟩]
    · right
      have hr2 := run_append_nil_string (P := P) w t u ty e i (.int .u8 0) ht hu hi hz s (by omega) (by omega) (by rw [hby]; omega)
      rw [hr] at hr2
      injection hr2 with e1 e2
      rw [e1]
      exact ⟨_, rfl, Nat.le_refl _⟩
  · have hcs' : cur.size = cap := by simpa using hcs
    by_cases hroom : n + s.size ≤ cap
    · left
      have hr2 := Lib.run_append_room_string (P := P) w t u ty e i ht hu hi hsize g n cap cur hg s hroom (by omega)
      rw [hr] at hr2
      injection hr2 with e1 e2
      rw [e1]; rfl
    · right
      have holds : ∀ j u, xs[j]? = some u → w.cell? ((⟨g, 0, none⟩ : Addr).add j) = some u := hown.cells (g := g) rfl
      have hr2 := Lib.run_append_grow_string (P := P) w t u ty e i (.int .u8 0) ht hu hi hz ⟨g, 0, none⟩ n cap xs (by rw [hsize]; simpa using hxl) holds s (by omega) (by omega) (by rw [hby]; exact growslice_fits (by omega) (by omega))
      rw [hr] at hr2
      injection hr2 with e1 e2
      rw [e1]
      exact ⟨_, rfl, Nat.le_refl _⟩

theorem wpList_append_str_at {P : Program} (w : World) {ops : Array Oper} {rest : List Oper} {o : Oper} {a : Act} {Q : Exit → Act → World → Prop} (hgd : o.guard = none) (sl x : Operand) (t u : TypeId)
    (ho : o.op = .call { callee := .builtin .append, args := #[sl, x], argTypes := #[t, u] })
    (e : TypeId) (i : TypeInfo) (ht : P.underlying t = some (.slice e)) (hu : P.underlying u = some .string) (hi : P.info? e = some i) (hz : i.zero = some (.int .u8 0))
    (hsize : i.size = 1) (hby : i.bytes = 1) (v : Value) (n : Nat) (xs : List Value) (hs : a.eval sl = v) (hown : w.ownsRow 0 e 1 v n xs) (s : ByteArray) (hx : a.eval x = .string s) (hbytes : n + s.size ≤ 140737488355328)
    (h : ∀ ao cap w', w'.ownsRow 0 e 1 (.slice ao (n + s.size) cap) (n + s.size) (xs ++ Lib.strCells s) → w.grownBy w' v.ownBlock →
      (Value.ownBlock (.slice ao (n + s.size) cap) = v.ownBlock ∨ ∃ g, Value.ownBlock (.slice ao (n + s.size) cap) = some g ∧ w.heap.size ≤ g) → wpList P ops Q rest (a.put o.dst (.slice ao (n + s.size) cap)) w') : wpList P ops Q (o :: rest) a w := by
  refine wpList_plain hgd fun K hK => ?_
  obtain ⟨ao, cap, w', hr, h2, h3, h4⟩ := run_append_str_at (P := P) w t u o.type e i ht hu hi hz hsize hby v n xs hown s hbytes
  unfold Oper.wp execOp
  simp only [ho, resolve, invoke, builtin, Sem.run_bind, Sem.run_pure, Result.andThen_ok, List.map_toArray, List.map_cons, List.map_nil, hs, hx, hr]
  exact hK _ _ (h ao cap w' h2 h3 h4)

theorem grownBy_drew {w : World} {o : Obj} : w.grownBy (w.alloc o).drew none := by
  have := World.grownBy_alloc w o none; exact ⟨this.os, this.tape, this.output, this.size, this.block⟩

/-- How many noughts. -/
def pad (n : Nat) : Nat := (4 - n % 4) % 4
theorem pad_lt (n : Nat) : pad n < 4 := Nat.mod_lt _ (by omega)
theorem and_three (n : Nat) (h : n ≤ 9223372036854775807) : bits .and .i64 (-(n : Int)) 3 = ((pad n : Nat) : Int) := by
  have e : (BitVec.ofInt 64 (-(n : Int)) &&& BitVec.ofInt 64 3).toNat = pad n := by
    rw [BitVec.toNat_and]
    have e3 : (BitVec.ofInt 64 3).toNat = 2 ^ 2 - 1 := by decide
    rw [e3, Nat.and_two_pow_sub_one_eq_mod, BitVec.toNat_ofInt]
    unfold pad
    omega
  unfold bits
  show IntKind.i64.wrap (((BitVec.ofInt 64 (-(n : Int)) &&& BitVec.ofInt 64 3).toNat : Nat) : Int) = _
  rw [e]
  exact IntWalk.i64_in _ (by unfold pad; omega)

/-- The slice's bytes as a string. -/
theorem Wr.string {P : Program} {w : World} {p : Nat} {v : Value} {l : List UInt8} (h : Wr T R w p v l) (src dst : TypeId) (hs : P.underlying src = some (.slice 5)) (he : P.underlying 5 = some (.int .u8)) (hd : P.underlying dst = some .string) :
    (convert src dst v).run P w = .ok (.string ⟨l.toArray⟩) w := by
  have hl := h.2
  rcases h.2.2 with ⟨rfl, h0⟩ | ⟨g, cap, cur, rfl, _, hg, _⟩
  · have : l = [] := List.eq_nil_of_length_eq_zero h0
    subst this
    exact run_convert_bytes_nil w src 5 hs he 0 0 dst hd
  · refine run_convert_bytes_back w src dst 5 _ cap l hs he hd fun j hj => ?_
    exact hl.cells (g := g) rfl j _ (by simp [cellsOf, List.getElem?_eq_getElem hj])
end Go.Proofs.YtjogcdkebplcpaaGreatDoor.Y
