/-
  Several texts in one (RBase, RNum, RPut, RRd, RRdFix, ROpen, RUi, RPc, RPr, RGt, RUx, RTk, RTc): contracts of package rpc and what they stand on. Their conditions: as each says.
-/
import Derived.Test.YtihkjgfghjgblaaGreatDoorRows
import Derived.WalkKit
import Derived.WalkSpells
import Derived.WalkLawsBesides
import Derived.Deep.AppendLies
import Derived.Deep.RegionHeld3
import Derived.Lib.AppendStr
import Derived.Lib.Hide
import Derived.StillTailTactics
import Derived.Deep.RegionLaw
import Derived.Deep.QuietTactic
import Derived.BigQuiet
namespace Go.Proofs.YtihkjgfghjgblaaGreatDoor.R
open Go.RowKit

/-- Bytes as cells. -/
def cellsOf (l : List UInt8) : List Value := l.map fun b => Value.int .u8 b.toNat

theorem cellsOf_length (l : List UInt8) : (cellsOf l).length = l.length := by simp [cellsOf]
theorem cellsOf_append (a b : List UInt8) : cellsOf (a ++ b) = cellsOf a ++ cellsOf b := by simp [cellsOf]

/-- The writer in block p, whose field holds the slice v, has put the bytes l. -/
def Wr (w : World) (p : Nat) (v : Value) (l : List UInt8) : Prop :=
  w.heap[p]? = some (.cells #[v] 56 (0, 0)) ∧ w.ownsRow 0 5 1 v l.length (cellsOf l)

/-- What may have changed: the writer's own block, its row, and new blocks. -/
structure Chg (p : Nat) (v v' : Value) (w w' : World) : Prop where
  os : w'.os = w.os
  tape : w'.tape = w.tape
  output : w'.output = w.output
  size : w.heap.size ≤ w'.heap.size
  block : ∀ k, k < w.heap.size → k ≠ p → some k ≠ v.ownBlock → w'.heap[k]? = w.heap[k]?
  own : v'.ownBlock = v.ownBlock ∨ ∃ g, v'.ownBlock = some g ∧ w.heap.size ≤ g

theorem Chg.refl (p : Nat) (v : Value) (w : World) : Chg p v v w w := ⟨rfl, rfl, rfl, Nat.le_refl _, fun _ _ _ _ => rfl, .inl rfl⟩

theorem Chg.trans {p : Nat} {v v' v'' : Value} {a b c : World} (h : Chg p v v' a b) (k : Chg p v' v'' b c) : Chg p v v'' a c := by
  refine ⟨k.os.trans h.os, k.tape.trans h.tape, k.output.trans h.output, Nat.le_trans h.size k.size, fun i hi hp hv => ?_, ?_⟩
  · have hs := h.size
    refine (k.block i (by omega) hp ?_).trans (h.block i hi hp hv)
    rcases h.own with e | ⟨g, e, hg⟩
    · rw [e]; exact hv
    · rw [e]; intro e2; have : i = g := by simpa using e2
      omega
  · rcases k.own with e | ⟨g, e, hg⟩
    · rw [e]; exact h.own
    · exact .inr ⟨g, e, Nat.le_trans h.size hg⟩

theorem Chg.below {p : Nat} {v v' : Value} {w w' : World} (h : Chg p v v' w w') {B : Nat} (hB : B ≤ w.heap.size) (hp : B ≤ p) (hv : ∀ k, v.ownBlock = some k → B ≤ k) : Below B w w' :=
  ⟨h.os, h.tape, h.output, h.size, fun k hk => h.block k (by omega) (by omega) (fun e => by have := hv k e.symm; omega)⟩

/-- What a call of a writer leaves. -/
def WrTo (w : World) (p : Nat) (v : Value) (l : List UInt8) (w' : World) : Prop := ∃ v', Wr w' p v' l ∧ Chg p v v' w w'

theorem Wr.cell {w : World} {p : Nat} {v : Value} {l : List UInt8} (h : Wr w p v l) : w.cell? ⟨p, 0, none⟩ = some v := by
  rw [cell_of_row w p 0 _ _ _ h.1]; rfl
theorem Wr.free {w : World} {p : Nat} {v : Value} {l : List UInt8} (h : Wr w p v l) : w.frozen? ⟨p, 0, none⟩ = false := Lib.frozen_of_heap h.1 _
theorem Wr.lt {w : World} {p : Nat} {v : Value} {l : List UInt8} (h : Wr w p v l) : p < w.heap.size := (Array.getElem?_eq_some_iff.1 h.1).1
theorem Wr.ne {w : World} {p : Nat} {v : Value} {l : List UInt8} (h : Wr w p v l) : some p ≠ v.ownBlock := by
  intro e
  rcases h.2.2 with ⟨rfl, _⟩ | ⟨g, cap, cur, rfl, _, hg, _⟩
  · simp [Value.ownBlock] at e
  · have : p = g := by simpa [Value.ownBlock] using e
    subst this
    rw [h.1] at hg
    simp at hg

/-- An append to the field and the store of the new slice, together. -/
theorem Wr.put {w w0 w1 : World} {p : Nat} {v v' : Value} {l m : List UInt8} (h : Wr w p v l)
    (hg0 : w.grownBy w0 none) (hgrow : w0.grownBy w1 v.ownBlock) (hat : v'.ownBlock = v.ownBlock ∨ ∃ g, v'.ownBlock = some g ∧ w.heap.size ≤ g) (n : Nat) (hn : n = l.length + m.length)
    (hown : w1.ownsRow 0 5 1 v' n (cellsOf l ++ cellsOf m)) : WrTo w p v (l ++ m) (w1.setCell ⟨p, 0, none⟩ v') := by
  have hlt := h.lt
  have h0 : w0.heap[p]? = some (.cells #[v] 56 (0, 0)) := (hg0.block p hlt (by simp)).trans h.1
  have h1 : w1.heap[p]? = some (.cells #[v] 56 (0, 0)) := (hgrow.block p (by have := hg0.size; omega) h.ne).trans h0
  have hgp : v'.ownBlock ≠ some p := by
    rcases hat with e | ⟨g, e, hg⟩
    · rw [e]; exact fun e2 => h.ne e2.symm
    · rw [e]; intro e2; have : g = p := by simpa using e2
      omega
  refine ⟨v', ⟨?_, ?_⟩, ⟨?_, ?_, ?_, ?_, ?_, hat⟩⟩
  · exact one_setCell h1
  · have hl : (l ++ m).length = n := by simp [hn]
    rw [hl, cellsOf_append]
    obtain ⟨e1, e2⟩ := hown
    refine ⟨e1, ?_⟩
    rcases e2 with e2 | ⟨g', cap', cur, e2, b1, hh, r⟩
    · exact .inl e2
    · refine .inr ⟨g', cap', cur, e2, b1, ?_, r⟩
      have e3 : g' ≠ p := by intro e3; apply hgp; rw [e2, e3]; rfl
      rw [Below.heap_setCell _ _ _ _ e3]; exact hh
  · show w1.os = w.os; exact hgrow.os.trans hg0.os
  · show w1.tape = w.tape; exact hgrow.tape.trans hg0.tape
  · show w1.output = w.output; exact hgrow.output.trans hg0.output
  · simp [World.setCell]; exact Nat.le_trans hg0.size hgrow.size
  · intro k hk hkp hkv
    rw [Below.heap_setCell _ _ _ _ hkp]
    exact (hgrow.block k (by have := hg0.size; omega) hkv).trans (hg0.block k hk (by simp))

theorem Tryz.info5 : (Tryz.prog.info? 5).map (fun i => (i.zero, i.size, i.bytes)) = some (some (.int .u8 0), 1, 1) := by kernel_rfl

/-- The bytes of a number: the i-th of size, the highest first. -/
def byteAt (n : Int) (k : Nat) : UInt8 := UInt8.ofNat ((n / (2 : Int) ^ k) % 256).toNat
def numTo (n : Int) (size k : Nat) : List UInt8 := (List.range k).map fun i => byteAt n (8 * (size - 1 - i))
def numBytes (n : Int) (size : Nat) : List UInt8 := numTo n size size
theorem numTo_succ (n : Int) (size k : Nat) : numTo n size (k + 1) = numTo n size k ++ [byteAt n (8 * (size - 1 - k))] := by
  simp [numTo, List.range_succ]
theorem numTo_length (n : Int) (size k : Nat) : (numTo n size k).length = k := by simp [numTo]
theorem byteAt_toNat (n : Int) (k : Nat) : ((byteAt n k).toNat : Int) = (n / (2 : Int) ^ k) % 256 := by
  unfold byteAt
  have h1 := Int.emod_nonneg (n / (2 : Int) ^ k) (show (256 : Int) ≠ 0 by decide)
  have h2 := Int.emod_lt_of_pos (n / (2 : Int) ^ k) (show (0 : Int) < 256 by decide)
  rw [UInt8.toNat_ofNat', Nat.mod_eq_of_lt (by omega)]
  omega
theorem wrap_byteAt (n : Int) (k : Nat) : IntKind.u8.wrap (n / (2 : Int) ^ k) = ((byteAt n k).toNat : Int) := by
  rw [byteAt_toNat]; rfl

/-- One byte more. -/
theorem Wr.push {w wr w0 w1 : World} {p g cap : Nat} {v v1 : Value} {L : List UInt8} {x : Value} {b : UInt8} (h : Wr wr p v1 L) (hC : Chg p v v1 w wr)
    (hg0 : wr.grownBy w0 none) (hgrow : w0.grownBy w1 v1.ownBlock) (hat : v1.ownBlock = some g ∨ g = wr.heap.size + 1)
    (hx : x = .int .u8 b.toNat) (hown : w1.ownsRow 0 5 1 (.slice (some ⟨g, 0, none⟩) (L.length + 1) cap) (L.length + 1) (cellsOf L ++ [x])) :
    WrTo w p v (L ++ [b]) (w1.setCell ⟨p, 0, none⟩ (.slice (some ⟨g, 0, none⟩) (L.length + 1) cap)) := by
  subst hx
  obtain ⟨v', e1, e2⟩ := Wr.put (m := [b]) h hg0 hgrow (v' := .slice (some ⟨g, 0, none⟩) (L.length + 1) cap) (by rcases hat with e | e; exact Or.inl (by rw [e]; rfl); exact Or.inr ⟨g, rfl, by omega⟩) (L.length + 1) (by simp) (by simpa [cellsOf] using hown)
  exact ⟨v', e1, hC.trans e2⟩

/-- Where a string's bytes lie that were appended. -/
theorem run_append_str_at {P : Program} (w : World) (t u ty e : TypeId) (i : TypeInfo) (ht : P.underlying t = some (.slice e)) (hu : P.underlying u = some .string) (hi : P.info? e = some i) (hz : i.zero = some (.int .u8 0))
    (hsize : i.size = 1) (hby : i.bytes = 1) (v : Value) (n : Nat) (xs : List Value) (hown : w.ownsRow 0 e 1 v n xs) (s : ByteArray) (hbytes : n + s.size ≤ 140737488355328) :
    ∃ ao cap w', (Builtin.append_ #[t, u] ty #[v, .string s]).run P w = .ok (.slice ao (n + s.size) cap) w' ∧ w'.ownsRow 0 e 1 (.slice ao (n + s.size) cap) (n + s.size) (xs ++ Lib.strCells s) ∧ w.grownBy w' v.ownBlock ∧
      (Value.ownBlock (.slice ao (n + s.size) cap) = v.ownBlock ∨ ∃ g, Value.ownBlock (.slice ao (n + s.size) cap) = some g ∧ w.heap.size ≤ g) := by
  obtain ⟨v', w', hr, h2, h3, h4⟩ := Lib.run_append_own_string (P := P) w 0 t u ty e i ht hu hi hz hsize hby v n xs hown s (by unfold maxLen; omega) hbytes (Nat.zero_le _)
  have hform : ∃ ao cap, v' = .slice ao (n + s.size) cap := by
    rcases h2.2 with ⟨e1, e2⟩ | ⟨g, cap, cur, e1, _⟩
    · exact ⟨none, 0, by rw [e1, e2]⟩
    · exact ⟨_, _, e1⟩
  obtain ⟨ao, cap', rfl⟩ := hform
  refine ⟨ao, cap', w', hr, h2, h3, ?_⟩
  have hxl : xs.length = n := by simpa using hown.1
  rcases hown.2 with ⟨rfl, rfl⟩ | ⟨g, cap, cur, rfl, hbg, hg, hnc, hcm, hcs, htake⟩
  · by_cases hm : s.size = 0
    · left; rw [h4.2 ⟨rfl, hm⟩]
    · right
      have hr2 := run_append_nil_string (P := P) w t u ty e i (.int .u8 0) ht hu hi hz s (by omega) (by omega) (by rw [hby]; omega)
      rw [hr] at hr2
      injection hr2 with e1 e2
      rw [e1]
      exact ⟨_, rfl, Nat.le_refl _⟩
  · have hcs' : cur.size = cap := by simpa using hcs
    by_cases hroom : n + s.size ≤ cap
    · left
      have hr2 := Lib.run_append_room_string (P := P) w t u ty e i ht hu hi hsize g n cap cur hg s hroom (by omega)
      rw [hr] at hr2
      injection hr2 with e1 e2
      rw [e1]; rfl
    · right
      have holds : ∀ j u, xs[j]? = some u → w.cell? ((⟨g, 0, none⟩ : Addr).add j) = some u := hown.cells (g := g) rfl
      have hr2 := Lib.run_append_grow_string (P := P) w t u ty e i (.int .u8 0) ht hu hi hz ⟨g, 0, none⟩ n cap xs (by rw [hsize]; simpa using hxl) holds s (by omega) (by omega) (by rw [hby]; exact growslice_fits (by omega) (by omega))
      rw [hr] at hr2
      injection hr2 with e1 e2
      rw [e1]
      exact ⟨_, rfl, Nat.le_refl _⟩

theorem wpList_append_str_at {P : Program} (w : World) {ops : Array Oper} {rest : List Oper} {o : Oper} {a : Act} {Q : Exit → Act → World → Prop} (hgd : o.guard = none) (sl x : Operand) (t u : TypeId)
    (ho : o.op = .call { callee := .builtin .append, args := #[sl, x], argTypes := #[t, u] })
    (e : TypeId) (i : TypeInfo) (ht : P.underlying t = some (.slice e)) (hu : P.underlying u = some .string) (hi : P.info? e = some i) (hz : i.zero = some (.int .u8 0))
    (hsize : i.size = 1) (hby : i.bytes = 1) (v : Value) (n : Nat) (xs : List Value) (hs : a.eval sl = v) (hown : w.ownsRow 0 e 1 v n xs) (s : ByteArray) (hx : a.eval x = .string s) (hbytes : n + s.size ≤ 140737488355328)
    (h : ∀ ao cap w', w'.ownsRow 0 e 1 (.slice ao (n + s.size) cap) (n + s.size) (xs ++ Lib.strCells s) → w.grownBy w' v.ownBlock →
      (Value.ownBlock (.slice ao (n + s.size) cap) = v.ownBlock ∨ ∃ g, Value.ownBlock (.slice ao (n + s.size) cap) = some g ∧ w.heap.size ≤ g) → wpList P ops Q rest (a.put o.dst (.slice ao (n + s.size) cap)) w') : wpList P ops Q (o :: rest) a w := by
  refine wpList_plain hgd fun K hK => ?_
  obtain ⟨ao, cap, w', hr, h2, h3, h4⟩ := run_append_str_at (P := P) w t u o.type e i ht hu hi hz hsize hby v n xs hown s hbytes
  unfold Oper.wp execOp
  simp only [ho, resolve, invoke, builtin, Sem.run_bind, Sem.run_pure, Result.andThen_ok, List.map_toArray, List.map_cons, List.map_nil, hs, hx, hr]
  exact hK _ _ (h ao cap w' h2 h3 h4)

theorem grownBy_drew {w : World} {o : Obj} : w.grownBy (w.alloc o).drew none := by
  have := World.grownBy_alloc w o none; exact ⟨this.os, this.tape, this.output, this.size, this.block⟩

/-- How many noughts. -/
def pad (n : Nat) : Nat := (4 - n % 4) % 4
theorem pad_lt (n : Nat) : pad n < 4 := Nat.mod_lt _ (by omega)
theorem and_three (n : Nat) (h : n ≤ 9223372036854775807) : bits .and .i64 (-(n : Int)) 3 = ((pad n : Nat) : Int) := by
  have e : (BitVec.ofInt 64 (-(n : Int)) &&& BitVec.ofInt 64 3).toNat = pad n := by
    rw [BitVec.toNat_and]
    have e3 : (BitVec.ofInt 64 3).toNat = 2 ^ 2 - 1 := by decide
    rw [e3, Nat.and_two_pow_sub_one_eq_mod, BitVec.toNat_ofInt]
    unfold pad
    omega
  unfold bits
  show IntKind.i64.wrap (((BitVec.ofInt 64 (-(n : Int)) &&& BitVec.ofInt 64 3).toNat : Nat) : Int) = _
  rw [e]
  exact IntWalk.i64_in _ (by unfold pad; omega)

/-- The slice's bytes as a string. -/
theorem Wr.string {P : Program} {w : World} {p : Nat} {v : Value} {l : List UInt8} (h : Wr w p v l) (src dst : TypeId) (hs : P.underlying src = some (.slice 5)) (he : P.underlying 5 = some (.int .u8)) (hd : P.underlying dst = some .string) :
    (convert src dst v).run P w = .ok (.string ⟨l.toArray⟩) w := by
  have hl := h.2
  rcases h.2.2 with ⟨rfl, h0⟩ | ⟨g, cap, cur, rfl, _, hg, _⟩
  · have : l = [] := List.eq_nil_of_length_eq_zero h0
    subst this
    exact run_convert_bytes_nil w src 5 hs he 0 0 dst hd
  · refine run_convert_bytes_back w src dst 5 _ cap l hs he hd fun j hj => ?_
    exact hl.cells (g := g) rfl j _ (by simp [cellsOf, List.getElem?_eq_getElem hj])
end Go.Proofs.YtihkjgfghjgblaaGreatDoor.R
namespace Go.Proofs.YtihkjgfghjgblaaGreatDoor.R
open Go.RowKit
set_option maxRecDepth 100000 in
set_option maxHeartbeats 1000000 in
theorem number_any (p : Nat) (v : Value) (l : List UInt8) (n : Int) (size : Nat) (w : World) (hW : Wr w p v l) (hs : size ≤ 8) (hb : l.length + size ≤ 140737488355328) :
    Calls Tryz.prog 42 #[.pointer (some ⟨p, 0, none⟩), .int .i64 n, .int .i64 size] w fun e w' => e = .returned (.tuple #[]) ∧ WrTo w p v (l ++ numBytes n size) w' := by
  obtain ⟨i0, hi, hz0, hz1, hz2⟩ := info_parts Tryz.info5
  go_enter Tryz.func42, Tryz.ntmps42
  go_wp2
  go_loopw [10] (fun i wr => ∃ k : Nat, k ≤ size ∧ i = .int .i64 k ∧ WrTo w p v (l ++ numTo n size k) wr) (fun i _ => size - (intOf i).toNat)
  case atStart => exact ⟨0, Nat.zero_le _, rfl, v, by simpa [numTo] using hW, Chg.refl _ _ _⟩
  case round =>
    obtain ⟨k, hk, rfl, v1, hW1, hC1⟩ := hrel
    have HC := Lib.hid hC1
    clear hC1
    obtain ⟨L, hL⟩ : ∃ L, L = l ++ numTo n size k := ⟨_, rfl⟩
    rw [← hL] at hW1
    have hl2 : L.length ≤ l.length + k := by rw [hL]; simp [numTo_length]
    have HL := Lib.hid hL
    clear hL
    have hc := hW1.cell
    have hf := hW1.free
    by_cases hlt : k < size
    · go_wp2
      have hw1 : IntKind.i64.wrap ((size : Int) - 1) = (size : Int) - 1 := IntWalk.i64_in _ (by omega)
      have hw2 : IntKind.i64.wrap ((size : Int) - 1 - (k : Int)) = (size : Int) - 1 - (k : Int) := IntWalk.i64_in _ (by omega)
      have hw3 : IntKind.i64.wrap (8 * ((size : Int) - 1 - (k : Int))) = 8 * ((size : Int) - 1 - (k : Int)) := IntWalk.i64_in _ (by omega)
      have hge : (0 : Int) ≤ 8 * ((size : Int) - 1 - (k : Int)) := by omega
      have hpl := hW1.lt
      have hne := hW1.ne
      go_region_law
        ((refine step_append_lies _ (by rfl) _ _ _ (by rfl) 0 5 i0 _ 1 1 Tryz.underlying54 hi hz0 hz1 hz2 rfl (by omega) v1 _ _ (by rfl) ((hW1.2.alloc _).drew)
            ⟨wr.heap.size, 0, none⟩ 1 1 [.int .u8 (IntKind.u8.wrap (n / 2 ^ (8 * ((size : Int) - 1 - (k : Int))).toNat))] (by rfl) (by rfl) (World.news_of_block (cs := #[.int .u8 (IntKind.u8.wrap (n / 2 ^ (8 * ((size : Int) - 1 - (k : Int))).toNat))]) (t := 5) (fr := (0, 0)) (heap_alloc_new wr _)) (by simp [Value.oneCell'])
            (by omega) (by unfold maxLen; omega) (by omega) (by simp) (wr.heap.size + 1) (by simp) ?_; intro g cap w1 hown1 hgrow hat hglt; have hfw : w1.frozen? ⟨p, 0, none⟩ = false := (hgrow.frozen_far _ (by simp; omega) hne).trans ((World.frozen?_alloc_past _ _ _ hpl).trans hf); have hcw : w1.cell? ⟨p, 0, none⟩ = some v1 := (hgrow.cell_far _ (by simp; omega) hne).trans ((World.cell?_alloc_past _ _ _ hpl).trans hc)))
      all_goals
        go_wp2
        go_roundw
        case rel =>
          refine ⟨k + 1, by omega, by go_num, ?_⟩
          rw [numTo_succ, ← List.append_assoc, ← HL.out]
          refine hW1.push HC.out grownBy_drew hgrow hat ?_ hown1
          rw [← wrap_byteAt]
          rw [show (8 * ((size : Int) - 1 - (k : Int))).toNat = 8 * (size - 1 - k) from by omega]
        case measure => simp [intOf]; omega
    · go_wp2
      go_end0
      have hk' : k = size := by omega
      subst hk'
      exact ⟨rfl, v1, by unfold numBytes; rw [← HL.out]; exact hW1, HC.out⟩
end Go.Proofs.YtihkjgfghjgblaaGreatDoor.R
namespace Go.Proofs.YtihkjgfghjgblaaGreatDoor.R
open Go.RowKit
theorem ret_int {k : IntKind} {a b : Int} (h : a = b) : Ending.returned (.int k a) = .returned (.int k b) := by rw [h]
set_option maxHeartbeats 400000 in
theorem noughts_any (n : Nat) (w : World) (h : n ≤ 9223372036854775807) :
    Calls Tryz.prog 50 #[.int .i64 n] w fun e w' => e = .returned (.int .i64 ((pad n : Nat) : Int)) ∧ w = w' := by
  go_enter Tryz.func50, Tryz.ntmps50
  go_wp2
  go_ret
  exact ⟨ret_int (and_three n h), rfl⟩
set_option maxHeartbeats 400000 in
theorem bytes_any (p : Nat) (v : Value) (l : List UInt8) (w : World) (hW : Wr w p v l) :
    Calls Tryz.prog 44 #[.pointer (some ⟨p, 0, none⟩)] w fun e w' => e = .returned (.string ⟨l.toArray⟩) ∧ w = w' := by
  have hc := hW.cell
  have hr := hW.string (P := Tryz.prog) 54 9 Tryz.underlying54 Tryz.underlying5 Tryz.underlying9
  go_enter Tryz.func44, Tryz.ntmps44
  go_wp2
  go_ret
  exact ⟨rfl, rfl⟩

/-- The bytes of a text, with their noughts. -/
def fixedOf (s : ByteArray) : List UInt8 := s.data.toList ++ List.replicate (pad s.size) 0
def opaqueOf (s : ByteArray) : List UInt8 := numBytes (s.size : Int) 4 ++ fixedOf s
theorem strCells_cellsOf (s : ByteArray) : Lib.strCells s = cellsOf s.data.toList := rfl

set_option maxRecDepth 100000 in
set_option maxHeartbeats 1000000 in
theorem fixed_any (p : Nat) (v : Value) (l : List UInt8) (s : ByteArray) (w : World) (hW : Wr w p v l) (hb : l.length + s.size + 4 ≤ 140737488355328) :
    Calls Tryz.prog 43 #[.pointer (some ⟨p, 0, none⟩), .string s] w fun e w' => e = .returned (.tuple #[]) ∧ WrTo w p v (l ++ fixedOf s) w' := by
  obtain ⟨i0, hi, hz0, hz1, hz2⟩ := info_parts Tryz.info5
  have hc := hW.cell
  have hf := hW.free
  have hne := hW.ne
  have hpl := hW.lt
  have hpad : pad s.size < 4 := Nat.mod_lt _ (by omega)
  go_enter Tryz.func43, Tryz.ntmps43
  go_wp2_with (first
    | (at_builtin; refine wpList_append_str_at _ rfl (.tmp 10) (.tmp 11) 54 9 rfl 5 i0 Tryz.underlying54 Tryz.underlying9 hi hz0 hz1 hz2 v l.length _ rfl hW.2 s rfl (by omega) ?_; intro ao cap w1 hown1 hgrow hat; have hc1 : w1.cell? ⟨p, 0, none⟩ = some v := (hgrow.cell_far _ hpl hne).trans hc; have hf1 : w1.frozen? ⟨p, 0, none⟩ = false := (hgrow.frozen_far _ hpl hne).trans hf)
    | (go_at_call 50; refine (noughts_any _ _ (by omega)).mono ?_; rintro e w' ⟨rfl, rfl⟩))
  have H1 : WrTo w p v (l ++ s.data.toList) (w1.setCell ⟨p, 0, none⟩ (.slice ao (l.length + s.size) cap)) :=
    Wr.put hW ⟨rfl, rfl, rfl, Nat.le_refl _, fun _ _ _ => rfl⟩ hgrow hat (l.length + s.size) (by rw [Array.length_toList]; rfl) hown1
  have HH := Lib.hid H1
  clear H1 hown1 hgrow hat hc1 hf1 hc hf hne hpl
  go_loopw [18] (fun i wr => ∃ k : Nat, k ≤ pad s.size ∧ i = .int .i64 k ∧ WrTo w p v (l ++ s.data.toList ++ List.replicate k 0) wr) (fun i _ => pad s.size - (intOf i).toNat)
  case atStart => exact ⟨0, Nat.zero_le _, rfl, by simpa using HH.out⟩
  case round =>
    obtain ⟨k, hk, rfl, v1, hW1, hC1⟩ := hrel
    have HC := Lib.hid hC1
    clear hC1
    obtain ⟨L, hL⟩ : ∃ L, L = l ++ s.data.toList ++ List.replicate k 0 := ⟨_, rfl⟩
    rw [← hL] at hW1
    have hl2 : L.length ≤ l.length + s.size + k := by rw [hL]; simp [Array.length_toList]; have : s.data.size = s.size := rfl; omega
    have HL := Lib.hid hL
    clear hL
    have hc := hW1.cell
    have hf := hW1.free
    have hpl := hW1.lt
    have hne := hW1.ne
    by_cases hlt : k < pad s.size
    · go_wp2_with (at_builtin; refine wpList_append_lies _ rfl (.tmp 24) (.tmp 25) 54 rfl 0 5 i0 _ 1 1 Tryz.underlying54 hi hz0 hz1 hz2 rfl (by omega) v1 _ _ rfl (hW1.2.alloc _) ⟨wr.heap.size, 0, none⟩ 1 1 [.int .u8 0] rfl rfl (World.news_of_block (cs := #[.int .u8 0]) (t := 5) (fr := (0, 0)) (heap_alloc_new wr _)) (by simp [Value.oneCell']) (by omega) (by unfold maxLen; omega) (by omega) (by simp) (wr.heap.size + 1) (by simp) ?_; intro g cap w1 hown1 hgrow hat hglt; have hfw : w1.frozen? ⟨p, 0, none⟩ = false := (hgrow.frozen_far _ (by simp; omega) hne).trans ((World.frozen?_alloc_past _ _ _ hpl).trans hf); have hcw : w1.cell? ⟨p, 0, none⟩ = some v1 := (hgrow.cell_far _ (by simp; omega) hne).trans ((World.cell?_alloc_past _ _ _ hpl).trans hc))
      go_roundw
      case rel =>
        refine ⟨k + 1, by omega, by go_num, ?_⟩
        rw [List.replicate_succ', ← List.append_assoc, ← HL.out]
        exact hW1.push HC.out (World.grownBy_alloc _ _ _) hgrow hat rfl hown1
      case measure => simp [intOf]; omega
    · go_wp2
      go_end0
      have hk' : k = pad s.size := by omega
      subst hk'
      exact ⟨rfl, v1, by unfold fixedOf; rw [← List.append_assoc, ← HL.out]; exact hW1, HC.out⟩

set_option maxHeartbeats 400000 in
theorem uint_any (p : Nat) (v : Value) (l : List UInt8) (n : Int) (w : World) (hW : Wr w p v l) (hb : l.length + 4 ≤ 140737488355328) :
    Calls Tryz.prog 20 #[.pointer (some ⟨p, 0, none⟩), .int .i64 n] w fun e w' => e = .returned (.tuple #[]) ∧ WrTo w p v (l ++ numBytes n 4) w' := by
  go_enter Tryz.func20, Tryz.ntmps20
  go_wp2_with fail
  refine (number_any p v l n 4 w hW (by omega) hb).mono ?_
  rintro e w' ⟨rfl, H⟩
  have HH := Lib.hid H
  clear H
  go_wp2
  go_end0
  exact ⟨rfl, HH.out⟩

theorem WrTo.next {w w1 w2 : World} {p : Nat} {v v1 : Value} {l : List UInt8} (hC : Chg p v v1 w w1) (h : WrTo w1 p v1 l w2) : WrTo w p v l w2 := by
  obtain ⟨v2, a, b⟩ := h
  exact ⟨v2, a, hC.trans b⟩

theorem numBytes_length (n : Int) (k : Nat) : (numBytes n k).length = k := numTo_length n k k

set_option maxHeartbeats 400000 in
theorem opaque_any (p : Nat) (v : Value) (l : List UInt8) (s : ByteArray) (w : World) (hW : Wr w p v l) (hb : l.length + s.size + 8 ≤ 140737488355328) :
    Calls Tryz.prog 21 #[.pointer (some ⟨p, 0, none⟩), .string s] w fun e w' => e = .returned (.tuple #[]) ∧ WrTo w p v (l ++ opaqueOf s) w' := by
  go_enter Tryz.func21, Tryz.ntmps21
  go_wp2_with fail
  refine (uint_any p v l (s.size : Int) w hW (by omega)).mono ?_
  rintro e w1 ⟨rfl, v1, hW1, hC1⟩
  have HH := Lib.hid hC1
  clear hC1
  go_wp2_with fail
  refine (fixed_any p v1 _ s w1 hW1 (by rw [List.length_append, numBytes_length]; omega)).mono ?_
  rintro e w2 ⟨rfl, H⟩
  have H2 := Lib.hid H
  clear H
  go_wp2
  go_end0
  exact ⟨rfl, by unfold opaqueOf; rw [← List.append_assoc]; exact WrTo.next HH.out H2.out⟩
theorem fixedOf_length (s : ByteArray) : (fixedOf s).length = s.size + pad s.size := by
  have : s.data.size = s.size := rfl
  simp [fixedOf, this]
theorem fixedOf_four (s : ByteArray) : (fixedOf s).length % 4 = 0 := by rw [fixedOf_length]; unfold pad; omega
theorem opaqueOf_length (s : ByteArray) : (opaqueOf s).length = 4 + (s.size + pad s.size) := by
  simp [opaqueOf, numBytes_length, fixedOf_length]

theorem Wr.row {w : World} {p : Nat} {v : Value} {l : List UInt8} (h : Wr w p v l) {g : Nat} (hg : v.ownBlock = some g) : ∃ cur, w.heap[g]? = some (.cells cur 5 (0, 0)) := by
  rcases h.2.2 with ⟨rfl, _⟩ | ⟨g', cap, cur, rfl, _, hh, _⟩
  · cases hg
  · have : g' = g := by simpa [Value.ownBlock] using hg
    subst this
    exact ⟨cur, hh⟩

/-- Another writer's work leaves a writer alone. -/
theorem Wr.kept {w w' : World} {p q : Nat} {v v' u : Value} {l m : List UInt8} (h : Wr w q u m) (hp : Wr w p v l) (hC : Chg p v v' w w') (hpq : q ≠ p) (h2 : u.ownBlock = none ∨ u.ownBlock ≠ v.ownBlock) : Wr w' q u m := by
  have h1 : some q ≠ v.ownBlock := by
    intro e
    obtain ⟨cur, hc⟩ := hp.row e.symm
    rw [h.1] at hc
    simp at hc
  refine ⟨(hC.block q h.lt hpq h1).trans h.1, h.2.1, ?_⟩
  rcases h.2.2 with e | ⟨g, cap, cur, e1, e2, hg, r⟩
  · exact .inl e
  · refine .inr ⟨g, cap, cur, e1, e2, ?_, r⟩
    have hgl : g < w.heap.size := (Array.getElem?_eq_some_iff.1 hg).1
    have hgo : u.ownBlock = some g := by rw [e1]; rfl
    refine (hC.block g hgl ?_ ?_).trans hg
    · intro e; subst e; rw [hp.1] at hg; simp at hg
    · rcases h2 with h2 | h2
      · rw [hgo] at h2; cases h2
      · rw [hgo] at h2; exact h2

theorem Wr.alloc {w : World} {p : Nat} {v : Value} {l : List UInt8} (h : Wr w p v l) (o : Obj) : Wr (w.alloc o) p v l :=
  ⟨((World.grownBy_alloc w o none).block p h.lt (by simp)).trans h.1, h.2.alloc o⟩

theorem cat_list (a b : List UInt8) : (({ data := a.toArray } : ByteArray) ++ { data := b.toArray }).toList = a ++ b := by
  rw [ByteArray.toList_eq, ByteArray.data_append]; simp
end Go.Proofs.YtihkjgfghjgblaaGreatDoor.R
namespace Go.Proofs.YtihkjgfghjgblaaGreatDoor.R
open Go.RowKit

/-- The slice v holds the bytes l. -/
def Bytes (w : World) (v : Value) (l : List UInt8) : Prop :=
  (v = .slice none 0 0 ∧ l = []) ∨ ∃ g off cap cur fr, v = .slice (some ⟨g, off, none⟩) l.length cap ∧ l.length ≤ cap ∧ cap ≤ maxLen ∧ w.heap[g]? = some (.cells cur 5 fr) ∧ ∀ j (_ : j < l.length), cur[off + j]? = some (.int .u8 (l[j].toNat : Int))

/-- The reader in block p has l left and the error e. -/
def Rd (w : World) (p : Nat) (l : List UInt8) (e : Int) : Prop := ∃ v, w.heap[p]? = some (.cells #[v, .int .i64 e] 70 (0, 0)) ∧ Bytes w v l

/-- Block p alone has turned. -/
structure Only (p : Nat) (w w' : World) : Prop where
  os : w'.os = w.os
  tape : w'.tape = w.tape
  output : w'.output = w.output
  size : w'.heap.size = w.heap.size
  block : ∀ k, k ≠ p → w'.heap[k]? = w.heap[k]?

theorem Only.refl (p : Nat) (w : World) : Only p w w := ⟨rfl, rfl, rfl, rfl, fun _ _ => rfl⟩
theorem Only.trans {p : Nat} {a b c : World} (h : Only p a b) (k : Only p b c) : Only p a c :=
  ⟨k.os.trans h.os, k.tape.trans h.tape, k.output.trans h.output, k.size.trans h.size, fun i hi => (k.block i hi).trans (h.block i hi)⟩
theorem Only.drew {p : Nat} {a b : World} (h : Only p a b) (n : Nat) : Only p a (b.drewN n) := ⟨h.os, h.tape, h.output, h.size, h.block⟩
theorem Only.set {p : Nat} {a b : World} (h : Only p a b) (o : Nat) (u : Value) : Only p a (b.setCell ⟨p, o, none⟩ u) :=
  h.trans ⟨rfl, rfl, rfl, by simp [World.setCell], fun k hk => Below.heap_setCell _ _ _ _ hk⟩
theorem Only.below {p : Nat} {w w' : World} (h : Only p w w') {B : Nat} (hp : B ≤ p) : Below B w w' :=
  ⟨h.os, h.tape, h.output, Nat.le_of_eq h.size.symm, fun k hk => h.block k (by omega)⟩

theorem Bytes.only {p : Nat} {w w' : World} {v x y : Value} {l : List UInt8} (h : Bytes w v l) (hp : w.heap[p]? = some (.cells #[x, y] 70 (0, 0))) (ho : Only p w w') : Bytes w' v l := by
  rcases h with h | ⟨g, off, cap, cur, fr, h1, h2, h3, h4, h5⟩
  · exact .inl h
  · refine .inr ⟨g, off, cap, cur, fr, h1, h2, h3, (ho.block g ?_).trans h4, h5⟩
    intro e; subst e; rw [hp] at h4; simp at h4
theorem Bytes.take {w : World} {g off cap : Nat} {l : List UInt8} {cur : Array Value} {fr : Nat × Nat} (h2 : l.length ≤ cap) (h3 : cap ≤ maxLen) (h4 : w.heap[g]? = some (.cells cur 5 fr))
    (h5 : ∀ j (_ : j < l.length), cur[off + j]? = some (.int .u8 (l[j].toNat : Int))) {n : Nat} (hn : n ≤ l.length) : Bytes w (.slice (some ⟨g, off, none⟩) n cap) (l.take n) := by
  have e : (l.take n).length = n := by simp; omega
  refine .inr ⟨g, off, cap, cur, fr, by rw [e], by omega, h3, h4, fun j hj => ?_⟩
  rw [h5 j (by omega)]
  simp
theorem Bytes.drop {w : World} {g off cap : Nat} {l : List UInt8} {cur : Array Value} {fr : Nat × Nat} (h2 : l.length ≤ cap) (h3 : cap ≤ maxLen) (h4 : w.heap[g]? = some (.cells cur 5 fr))
    (h5 : ∀ j (_ : j < l.length), cur[off + j]? = some (.int .u8 (l[j].toNat : Int))) {n : Nat} : Bytes w (.slice (some ⟨g, off + n, none⟩) (l.length - n) (cap - n)) (l.drop n) := by
  refine .inr ⟨g, off + n, cap - n, cur, fr, by simp, by simp; omega, by omega, h4, fun j hj => ?_⟩
  have hj' : n + j < l.length := by simp at hj; omega
  have := h5 (n + j) hj'
  rw [show off + n + j = off + (n + j) from by omega, this]
  simp

theorem two_cells {w : World} {p : Nat} {x y : Value} (h : w.heap[p]? = some (.cells #[x, y] 70 (0, 0))) : w.cell? ⟨p, 0, none⟩ = some x ∧ w.cell? ⟨p, 1, none⟩ = some y ∧ w.frozen? ⟨p, 0, none⟩ = false ∧ w.frozen? ⟨p, 1, none⟩ = false := by
  refine ⟨?_, ?_, Lib.frozen_of_heap h _, Lib.frozen_of_heap h _⟩
  · rw [cell_of_row w p 0 _ _ _ h]; rfl
  · rw [cell_of_row w p 1 _ _ _ h]; rfl
theorem two_set0 {w : World} {p : Nat} {x y : Value} (h : w.heap[p]? = some (.cells #[x, y] 70 (0, 0))) (u : Value) : (w.setCell ⟨p, 0, none⟩ u).heap[p]? = some (.cells #[u, y] 70 (0, 0)) := by
  simp [World.setCell, Array.getElem?_modify, h]
theorem two_set1 {w : World} {p : Nat} {x y : Value} (h : w.heap[p]? = some (.cells #[x, y] 70 (0, 0))) (u : Value) : (w.setCell ⟨p, 1, none⟩ u).heap[p]? = some (.cells #[x, u] 70 (0, 0)) := by
  simp [World.setCell, Array.getElem?_modify, h]

/-- What is left and the error, once something was wrong. -/
def failE (e d : Int) : Int := if e = 0 then d else e

set_option maxHeartbeats 400000 in
theorem fail_any (p : Nat) (l : List UInt8) (e d : Int) (w : World) (h : Rd w p l e) :
    Calls Tryz.prog 48 #[.pointer (some ⟨p, 0, none⟩), .int .i64 d] w fun r w' => r = .returned (.tuple #[]) ∧ Rd w' p [] (failE e d) ∧ Only p w w' := by
  obtain ⟨v, h1, h2⟩ := h
  obtain ⟨c0, c1, f0, f1⟩ := two_cells h1
  have HH := Lib.hid h1
  clear h1
  by_cases he : e = 0
  · subst he
    go_enter Tryz.func48, Tryz.ntmps48
    go_wp2
    go_end0
    refine ⟨rfl, ⟨.slice none 0 0, ?_, .inl ⟨rfl, rfl⟩⟩, ((Only.refl p w).set 1 _).set 0 _⟩
    exact two_set0 (two_set1 HH.out _) _
  · have hb : (e == 0) = false := by simp [he]
    go_enter Tryz.func48, Tryz.ntmps48
    go_wp2
    go_end0
    refine ⟨rfl, ⟨.slice none 0 0, ?_, .inl ⟨rfl, rfl⟩⟩, (Only.refl p w).set 0 _⟩
    unfold failE; rw [if_neg he]
    exact two_set0 HH.out _

/-- What a take leaves. -/
def Took (w : World) (p : Nat) (l : List UInt8) (e : Int) (n : Nat) (r : Ending) (w' : World) : Prop := ∃ u, r = .returned u ∧ Bytes w' u (l.take n) ∧ Rd w' p (l.drop n) e ∧ Only p w w'

theorem took_mid {w : World} {p g off cap n : Nat} {l : List UInt8} {e : Int} {cur : Array Value} {fr : Nat × Nat} (h1 : w.heap[p]? = some (.cells #[.slice (some ⟨g, off, none⟩) l.length cap, .int .i64 e] 70 (0, 0)))
    (b2 : l.length ≤ cap) (b3 : cap ≤ maxLen) (b4 : w.heap[g]? = some (.cells cur 5 fr)) (b5 : ∀ j (_ : j < l.length), cur[off + j]? = some (.int .u8 (l[j].toNat : Int))) (hn : n ≤ l.length) :
    Took w p l e n (.returned (.slice (some ⟨g, off, none⟩) n cap)) (w.setCell ⟨p, 0, none⟩ (.slice (some ⟨g, off + n, none⟩) (l.length - n) (cap - n))) := by
  have ho := (Only.refl p w).set 0 (.slice (some ⟨g, off + n, none⟩) (l.length - n) (cap - n))
  exact ⟨_, rfl, (Bytes.take b2 b3 b4 b5 hn).only h1 ho, ⟨_, two_set0 h1 _, (Bytes.drop b2 b3 b4 b5).only h1 ho⟩, ho⟩
theorem took_end {w : World} {p g off cap n : Nat} {l : List UInt8} {e : Int} {cur : Array Value} {fr : Nat × Nat} (h1 : w.heap[p]? = some (.cells #[.slice (some ⟨g, off, none⟩) l.length cap, .int .i64 e] 70 (0, 0)))
    (b2 : l.length ≤ cap) (b3 : cap ≤ maxLen) (b4 : w.heap[g]? = some (.cells cur 5 fr)) (b5 : ∀ j (_ : j < l.length), cur[off + j]? = some (.int .u8 (l[j].toNat : Int))) (hn : n ≤ l.length) (hc : cap = n) :
    Took w p l e n (.returned (.slice (some ⟨g, off, none⟩) n n)) (w.setCell ⟨p, 0, none⟩ (.slice (some ⟨g, off, none⟩) (l.length - n) 0)) := by
  have ho := (Only.refl p w).set 0 (.slice (some ⟨g, off, none⟩) (l.length - n) 0)
  subst hc
  have e0 : l.length - cap = 0 := by omega
  have e1 : l.drop cap = [] := List.drop_eq_nil_of_le b2
  refine ⟨_, rfl, (Bytes.take b2 b3 b4 b5 hn).only h1 ho, ⟨_, two_set0 h1 _, ?_⟩, ho⟩
  rw [e1, e0]
  have ho' := (Only.refl p w).set 0 (.slice (some ⟨g, off, none⟩) 0 0)
  exact Bytes.only (.inr ⟨g, off, 0, cur, fr, rfl, Nat.le_refl _, by unfold maxLen; omega, b4, fun j hj => absurd hj (by simp)⟩) h1 ho'

set_option maxHeartbeats 400000 in
theorem take_any (p : Nat) (l : List UInt8) (e : Int) (n : Nat) (w : World) (h : Rd w p l e) (hn : n ≤ l.length) :
    Calls Tryz.prog 49 #[.pointer (some ⟨p, 0, none⟩), .int .i64 n] w (Took w p l e n) := by
  obtain ⟨v, h1, h2⟩ := h
  obtain ⟨c0, c1, f0, f1⟩ := two_cells h1
  have HH := Lib.hid h1
  clear h1
  rcases h2 with ⟨rfl, rfl⟩ | ⟨g, off, cap, cur, fr, rfl, b2, b3, b4, b5⟩
  · have h0 : n = 0 := by simpa using hn
    subst h0
    go_enter Tryz.func49, Tryz.ntmps49
    go_wp2
    go_ret
    exact ⟨_, rfl, .inl ⟨rfl, rfl⟩, ⟨_, two_set0 HH.out _, .inl ⟨rfl, rfl⟩⟩, (Only.refl p w).set 0 _⟩
  · have B4 := Lib.hid b4
    have B5 := Lib.hid b5
    clear b4 b5
    unfold maxLen at b3
    go_enter Tryz.func49, Tryz.ntmps49
    go_wp2
    all_goals go_ret
    · exact took_end HH.out b2 (by unfold maxLen; exact b3) B4.out B5.out hn ‹_›
    · exact took_mid HH.out b2 (by unfold maxLen; exact b3) B4.out B5.out hn

theorem Bytes.cells {w : World} {u : Value} {m : List UInt8} (h : Bytes w u m) (k : Nat) (hk : m.length = k) (h0 : 0 < k) :
    ∃ g off cap, u = .slice (some ⟨g, off, none⟩) k cap ∧ k ≤ cap ∧ cap ≤ maxLen ∧ ∀ j, j < k → w.cell? ⟨g, off + j, none⟩ = some (.int .u8 ((m.getD j 0).toNat : Int)) := by
  rcases h with ⟨_, rfl⟩ | ⟨g, off, cap, cur, fr, rfl, b2, b3, b4, b5⟩
  · simp at hk; omega
  · subst hk
    refine ⟨g, off, cap, rfl, b2, b3, fun j hj => ?_⟩
    rw [cell_of_row w g (off + j) _ _ _ b4, b5 j hj]
    simp [List.getD_eq_getElem?_getD, List.getElem?_eq_getElem hj]

/-- The number that bytes tell, the highest first. -/
def be (l : List UInt8) : Nat := l.foldl (fun n b => 256 * n + b.toNat) 0
theorem be_snoc (l : List UInt8) (b : UInt8) : be (l ++ [b]) = 256 * be l + b.toNat := by simp [be]

theorem wrap_emod (x : Int) : (wrap64 x) % 18446744073709551616 = x % 18446744073709551616 := by unfold wrap64; omega
theorem or_byte (N : Int) (b : Nat) (hb : b < 256) : bits .or .i64 (wrap64 (N * 256)) (b : Int) = IntKind.i64.wrap (N * 256 + b) := by
  have e : (BitVec.ofInt 64 (wrap64 (N * 256)) ||| BitVec.ofInt 64 (b : Int)).toNat = ((N * 256) % 18446744073709551616).toNat + b := by
    rw [BitVec.toNat_or, BitVec.toNat_ofInt, BitVec.toNat_ofInt]
    have h1 : ((b : Int) % ((2 ^ 64 : Nat) : Int)).toNat = b := by omega
    have h2 : (wrap64 (N * 256) % ((2 ^ 64 : Nat) : Int)).toNat = ((N * 256) % 18446744073709551616).toNat := by
      have := wrap_emod (N * 256)
      have e2 : (((2 ^ 64 : Nat)) : Int) = 18446744073709551616 := by decide
      rw [e2, this]
    rw [h1, h2]
    obtain ⟨q, hq⟩ : ∃ q : Nat, ((N * 256) % 18446744073709551616).toNat = 2 ^ 8 * q := ⟨((N * 256) % 18446744073709551616).toNat / 256, by omega⟩
    rw [hq, ← Nat.two_pow_add_eq_or_of_lt (by omega)]
  unfold bits
  show IntKind.i64.wrap (((BitVec.ofInt 64 (wrap64 (N * 256)) ||| BitVec.ofInt 64 (b : Int)).toNat : Nat) : Int) = _
  rw [e, IntKind.wrap_i64, IntKind.wrap_i64]
  omega
theorem wrap_step (m b : Int) : IntKind.i64.wrap (IntKind.i64.wrap m * 256 + b) = IntKind.i64.wrap (256 * m + b) := by
  rw [IntKind.wrap_i64, IntKind.wrap_i64, IntKind.wrap_i64]
  omega

/-- A number taken: the answer, what is left, the error. -/
def numR (size : Nat) (l : List UInt8) (e : Int) : Int × List UInt8 × Int :=
  if l.length < size then (0, [], failE e 5) else (IntKind.i64.wrap (be (l.take size)), l.drop size, e)

set_option maxHeartbeats 400000 in
theorem rnum_any (p : Nat) (l : List UInt8) (e : Int) (size : Nat) (w : World) (h : Rd w p l e) (hs : 0 < size) (hs8 : size ≤ 8) (hl : l.length ≤ 140737488355328) :
    Calls Tryz.prog 31 #[.pointer (some ⟨p, 0, none⟩), .int .i64 size] w fun r w' => r = .returned (.int .i64 (numR size l e).1) ∧ Rd w' p (numR size l e).2.1 (numR size l e).2.2 ∧ Only p w w' := by
  have hh := h
  obtain ⟨v, h1, h2⟩ := hh
  obtain ⟨c0, c1, f0, f1⟩ := two_cells h1
  have hv : ∃ ao cap, v = .slice ao l.length cap := by
    rcases h2 with ⟨rfl, rfl⟩ | ⟨g, off, cap, cur, fr, rfl, _⟩
    · exact ⟨none, 0, rfl⟩
    · exact ⟨_, _, rfl⟩
  obtain ⟨ao, cap, rfl⟩ := hv
  clear h1 h2
  by_cases hlt : l.length < size
  · have hb : decide ((l.length : Int) < (size : Int)) = true := by simp; exact hlt
    go_enter Tryz.func31, Tryz.ntmps31
    go_wp2_with fail
    refine (fail_any p l e 5 w h).mono ?_
    rintro r w1 ⟨rfl, hR, hO⟩
    have HR := Lib.hid hR
    have HO := Lib.hid hO
    clear hR hO
    go_wp2
    go_ret
    unfold numR
    rw [if_pos hlt]
    exact ⟨rfl, HR.out, HO.out⟩
  · have hb : decide ((l.length : Int) < (size : Int)) = false := by simp; omega
    go_enter Tryz.func31, Tryz.ntmps31
    go_wp2_with fail
    refine (take_any p l e size w h (by omega)).mono ?_
    rintro r w1 ⟨u, rfl, hB, hR, hO⟩
    have HR := Lib.hid hR
    have HO := Lib.hid hO
    clear hR hO
    obtain ⟨g, off, cp, rfl, b2, b3, b4⟩ := hB.cells size (by simp; omega) hs
    have HCell := Lib.hid b4
    clear b4 hB
    unfold maxLen at b3
    go_wp2
    go_loop [5, 23] (fun s i => ∃ k : Nat, k ≤ size ∧ i = .int .i64 k ∧ s = .int .i64 (IntKind.i64.wrap (be (l.take k)))) (fun _ i => size - (intOf i).toNat)
    case atStart => exact ⟨0, Nat.zero_le _, rfl, rfl⟩
    case round =>
      obtain ⟨k, hk, rfl, rfl⟩ := hrel
      by_cases hk2 : k < size
      · have hc := HCell.out k hk2
        generalize hN : IntKind.i64.wrap ((be (l.take k) : Nat) : Int) = N
        have HN := Lib.hid hN
        clear hN
        obtain ⟨b, hbb⟩ : ∃ b : UInt8, b = (l.take size).getD k 0 := ⟨_, rfl⟩
        rw [← hbb] at hc
        have HBB := Lib.hid hbb
        clear hbb
        have hb256 := b.toNat_lt
        go_wp2
        go_round
        case rel =>
          refine ⟨k + 1, by omega, by go_num, ?_⟩
          rw [or_byte N b.toNat (by omega), ← HN.out, wrap_step]
          have e1 : l.take (k + 1) = l.take k ++ [b] := by
            rw [List.take_succ_eq_append_getElem (by omega), HBB.out]
            simp [List.getD_eq_getElem?_getD, hk2, List.getElem?_eq_getElem (show k < l.length by omega)]
          rw [e1, be_snoc]
          go_num
        case measure => simp [intOf]; omega
      · go_wp2
        go_ret
        have hk' : k = size := by omega
        subst hk'
        unfold numR
        rw [if_neg hlt]
        exact ⟨rfl, HR.out, HO.out⟩

set_option maxHeartbeats 400000 in
theorem ruint_any (p : Nat) (l : List UInt8) (e : Int) (w : World) (h : Rd w p l e) (hl : l.length ≤ 140737488355328) :
    Calls Tryz.prog 10 #[.pointer (some ⟨p, 0, none⟩)] w fun r w' => r = .returned (.int .i64 (numR 4 l e).1) ∧ Rd w' p (numR 4 l e).2.1 (numR 4 l e).2.2 ∧ Only p w w' := by
  go_enter Tryz.func10, Tryz.ntmps10
  go_wp2_with fail
  refine (rnum_any p l e 4 w h (by omega) (by omega) hl).mono ?_
  rintro r w1 ⟨rfl, hR, hO⟩
  have HR := Lib.hid hR
  have HO := Lib.hid hO
  clear hR hO
  go_wp2
  go_ret
  exact ⟨rfl, HR.out, HO.out⟩

/-- A Bool taken. -/
def boolR (l : List UInt8) (e : Int) : Bool × List UInt8 × Int :=
  if 1 < (numR 4 l e).1 then (false, [], failE (numR 4 l e).2.2 4) else ((numR 4 l e).1 == 1, (numR 4 l e).2)

set_option maxHeartbeats 400000 in
theorem left_any (p : Nat) (l : List UInt8) (e : Int) (w : World) (h : Rd w p l e) :
    Calls Tryz.prog 35 #[.pointer (some ⟨p, 0, none⟩)] w fun r w' => r = .returned (.int .i64 (l.length : Int)) ∧ w = w' := by
  obtain ⟨v, h1, h2⟩ := h
  obtain ⟨c0, c1, f0, f1⟩ := two_cells h1
  have hv : ∃ ao cap, v = .slice ao l.length cap := by
    rcases h2 with ⟨rfl, rfl⟩ | ⟨g, off, cap, cur, fr, rfl, _⟩
    · exact ⟨none, 0, rfl⟩
    · exact ⟨_, _, rfl⟩
  obtain ⟨ao, cap, rfl⟩ := hv
  clear h1 h2
  go_enter Tryz.func35, Tryz.ntmps35
  go_wp2
  go_ret
  exact ⟨rfl, rfl⟩

/-- What End tells. -/
def endR (l : List UInt8) (e : Int) : Int := if e = 0 then (if l.length = 0 then 0 else 6) else e

set_option maxHeartbeats 400000 in
theorem end_any (p : Nat) (l : List UInt8) (e : Int) (w : World) (h : Rd w p l e) :
    Calls Tryz.prog 32 #[.pointer (some ⟨p, 0, none⟩)] w fun r w' => r = .returned (.int .i64 (endR l e)) ∧ w = w' := by
  obtain ⟨v, h1, h2⟩ := h
  obtain ⟨c0, c1, f0, f1⟩ := two_cells h1
  have hv : ∃ ao cap, v = .slice ao l.length cap := by
    rcases h2 with ⟨rfl, rfl⟩ | ⟨g, off, cap, cur, fr, rfl, _⟩
    · exact ⟨none, 0, rfl⟩
    · exact ⟨_, _, rfl⟩
  obtain ⟨ao, cap, rfl⟩ := hv
  clear h1 h2
  by_cases he : e = 0
  · subst he
    by_cases hz : l.length = 0
    · have hz2 : decide (0 < l.length) = false := by simp [hz]
      have HZ := Lib.hid hz
      clear hz
      go_enter Tryz.func32, Tryz.ntmps32
      go_wp2
      all_goals (go_ret; exact ⟨by simp [endR, HZ.out], rfl⟩)
    · have hz2 : 0 < l.length := by omega
      go_enter Tryz.func32, Tryz.ntmps32
      go_wp2
      all_goals (go_ret; exact ⟨ret_int (by unfold endR; rw [if_pos rfl, if_neg (by omega)]), rfl⟩)
  · have hb : (e != 0) = true := by simp [he]
    go_enter Tryz.func32, Tryz.ntmps32
    go_wp2
    all_goals (go_ret; exact ⟨by simp [endR, he], rfl⟩)
end Go.Proofs.YtihkjgfghjgblaaGreatDoor.R
namespace Go.Proofs.YtihkjgfghjgblaaGreatDoor.R
open Go.RowKit

/-- A text of n bytes taken. -/
def fixR (n : Int) (l : List UInt8) (e : Int) : ByteArray × List UInt8 × Int :=
  if n < 0 then (⟨#[]⟩, l, e)
  else if (l.length : Int) - (pad n.toNat : Nat) < n then (⟨#[]⟩, [], failE e 5)
  else if ((l.drop n.toNat).take (pad n.toNat)).all (· == 0) then (⟨(l.take n.toNat).toArray⟩, l.drop (n.toNat + pad n.toNat), e)
  else (⟨#[]⟩, [], failE e 4)

theorem fixR_nat (m : Nat) (l : List UInt8) (e : Int) : fixR m l e = if (l.length : Int) - (pad m : Nat) < m then (⟨#[]⟩, [], failE e 5)
    else if ((l.drop m).take (pad m)).all (· == 0) then (⟨(l.take m).toArray⟩, l.drop (m + pad m), e) else (⟨#[]⟩, [], failE e 4) := by
  unfold fixR; rw [if_neg (by omega), Int.toNat_natCast]
theorem take_more (x : List UInt8) (k : Nat) (hk : k < x.length) : x.take (k + 1) = x.take k ++ [((x.drop k).take 1).getD 0 0] := by
  rw [List.take_succ_eq_append_getElem hk]
  simp [List.getD_eq_getElem?_getD, List.getElem?_eq_getElem hk]
theorem all_upto {x : List UInt8} {P k : Nat} (hk : k < P) (hx : k < x.length) (h : (x.take P).all (· == 0) = true) : ((x.drop k).take 1).getD 0 0 = 0 := by
  rw [List.all_eq_true] at h
  have hm : ((x.drop k).take 1).getD 0 0 ∈ x.take P := by
    have h1 : ((x.drop k).take 1).getD 0 0 = x[k] := by simp [List.getD_eq_getElem?_getD, List.getElem?_eq_getElem hx]
    rw [h1, List.mem_take_iff_getElem]
    exact ⟨k, by omega, rfl⟩
  simpa using h _ hm

theorem Bytes.string {P : Program} {w : World} {v : Value} {l : List UInt8} (h : Bytes w v l) (src dst : TypeId) (hs : P.underlying src = some (.slice 5)) (he : P.underlying 5 = some (.int .u8)) (hd : P.underlying dst = some .string) :
    (convert src dst v).run P w = .ok (.string ⟨l.toArray⟩) w := by
  rcases h with ⟨rfl, rfl⟩ | ⟨g, off, cap, cur, fr, rfl, _, _, hg, hc⟩
  · exact run_convert_bytes_nil w src 5 hs he 0 0 dst hd
  · refine run_convert_bytes_back w src dst 5 _ cap l hs he hd fun j hj => ?_
    rw [show (⟨g, off, none⟩ : Addr).add j = ⟨g, off + j, none⟩ from by simp [Addr.add], cell_of_row w g (off + j) _ _ _ hg]
    exact hc j hj

theorem noughts_same (n : Nat) (w : World) (h : n ≤ 9223372036854775807) :
    Calls Tryz.prog 50 #[.int .i64 n] w fun e w' => e = .returned (.int .i64 ((pad n : Nat) : Int)) ∧ w' = w :=
  (noughts_any n w h).mono fun _ _ ⟨a, b⟩ => ⟨a, b.symm⟩

theorem Rd.slice {w : World} {p : Nat} {l : List UInt8} {e : Int} (h : Rd w p l e) : ∃ ao cap, w.cell? ⟨p, 0, none⟩ = some (.slice ao l.length cap) := by
  obtain ⟨v, h1, h2⟩ := h
  obtain ⟨c0, c1, f0, f1⟩ := two_cells h1
  rcases h2 with ⟨rfl, rfl⟩ | ⟨g, off, cap, cur, fr, rfl, _⟩
  · exact ⟨none, 0, c0⟩
  · exact ⟨_, _, c0⟩
theorem Rd.drew {w : World} {p : Nat} {l : List UInt8} {e : Int} (h : Rd w p l e) (n : Nat) : Rd (w.drewN n) p l e := h

set_option maxRecDepth 100000 in
set_option maxHeartbeats 1000000 in
theorem rfixed_any (p : Nat) (l : List UInt8) (e : Int) (n : Int) (w : World) (h : Rd w p l e) (hl : l.length ≤ 140737488355328) (hn : n ≤ 9223372036854775807) :
    Calls Tryz.prog 36 #[.pointer (some ⟨p, 0, none⟩), .int .i64 n] w fun r w' => r = .returned (.string (fixR n l e).1) ∧ Rd w' p (fixR n l e).2.1 (fixR n l e).2.2 ∧ Only p w w' := by
  by_cases h0 : n < 0
  · have HF := Lib.hid (show fixR n l e = (⟨#[]⟩, l, e) from if_pos h0)
    have HR := Lib.hid h
    clear h
    go_enter Tryz.func36, Tryz.ntmps36
    go_wp2
    go_ret
    rw [HF.out]
    exact ⟨rfl, HR.out, Only.refl _ _⟩
  · obtain ⟨m, rfl⟩ := Int.eq_ofNat_of_zero_le (show 0 ≤ n by omega)
    obtain ⟨ao, cap, hc⟩ := h.slice
    have hp := pad_lt m
    by_cases h1 : (l.length : Int) - (pad m : Nat) < (m : Int)
    · have HF := Lib.hid (show fixR m l e = (⟨#[]⟩, [], failE e 5) by unfold fixR; rw [if_neg h0]; exact if_pos h1)
      have hw1 : IntKind.i64.wrap ((l.length : Int) - ((pad m : Nat) : Int)) = (l.length : Int) - ((pad m : Nat) : Int) := IntWalk.i64_in _ (by omega)
      have hmb : m ≤ 9223372036854775807 := by omega
      go_enter Tryz.func36, Tryz.ntmps36
      go_wp2_with fail
      go_quiet ((go_at_call 50; exact Calls.quiet_of_same (noughts_same _ _ hmb)))
      clear hw1
      go_wp2_with fail
      refine (fail_any p l e 5 _ (h.drew _)).mono ?_
      rintro r w1 ⟨rfl, hR, hO⟩
      have HR := Lib.hid hR
      have HO := Lib.hid ((Only.refl p w).drew _ |>.trans hO)
      clear hR hO
      go_wp2
      go_ret
      rw [HF.out]
      exact ⟨rfl, HR.out, HO.out⟩
    · have hw1 : IntKind.i64.wrap ((l.length : Int) - ((pad m : Nat) : Int)) = (l.length : Int) - ((pad m : Nat) : Int) := IntWalk.i64_in _ (by omega)
      have hmb : m ≤ 9223372036854775807 := by omega
      have hd1 : decide ((l.length : Int) - ((pad m : Nat) : Int) < (m : Int)) = false := by simp; omega
      go_enter Tryz.func36, Tryz.ntmps36
      go_wp2_with fail
      go_quiet ((go_at_call 50; exact Calls.quiet_of_same (noughts_same _ _ hmb)))
      clear hw1 hd1
      go_wp2_with fail
      refine (take_any p l e m _ (h.drew _) (by omega)).mono ?_
      rintro r w1 ⟨u, rfl, hB, hR, hO⟩
      have hcv := hB.string (P := Tryz.prog) 54 9 Tryz.underlying54 Tryz.underlying5 Tryz.underlying9
      have HR := Lib.hid hR
      have HO := Lib.hid ((Only.refl p w).drew _ |>.trans hO)
      clear hR hO hB
      go_wp2_with (go_at_call 50; refine (noughts_any _ _ hmb).mono ?_; rintro e w' ⟨rfl, rfl⟩)
      clear hcv
      go_loopw [30] (fun i wr => ∃ k : Nat, k ≤ pad m ∧ i = .int .i64 k ∧ Rd wr p (l.drop (m + k)) e ∧ Only p w wr ∧ ((l.drop m).take k).all (· == 0) = true) (fun i _ => pad m - (intOf i).toNat)
      case atStart => exact ⟨0, Nat.zero_le _, rfl, HR.out, HO.out, rfl⟩
      case round =>
        obtain ⟨k, hk, rfl, hR, hO, hz⟩ := hrel
        have HO2 := Lib.hid hO
        have HZ := Lib.hid hz
        clear hO hz
        by_cases hlt : k < pad m
        · go_wp2_with fail
          refine (take_any p (l.drop (m + k)) e 1 wr hR (by simp; omega)).mono ?_
          rintro r w2 ⟨u2, rfl, hB, hR2, hO3⟩
          obtain ⟨g, off, cp, rfl, b2, b3, b4⟩ := hB.cells 1 (by simp; omega) (by omega)
          have hcell : w2.cell? ⟨g, off, none⟩ = some (.int .u8 ((((l.drop (m + k)).take 1).getD 0 0).toNat : Int)) := b4 0 (by omega)
          have HO4 := Lib.hid (HO2.out.trans hO3)
          clear b4 hB hO3 hR
          obtain ⟨b, hbb⟩ : ∃ b : UInt8, b = ((l.drop (m + k)).take 1).getD 0 0 := ⟨_, rfl⟩
          rw [← hbb] at hcell
          have HBB := Lib.hid hbb
          clear hbb
          have hx : k < (l.drop m).length := by simp; omega
          have HD := Lib.hid (show l.drop (m + k) = (l.drop m).drop k by rw [List.drop_drop])
          by_cases hb0 : b = 0
          · have hcell' : w2.cell? ⟨g, off, none⟩ = some (.int .u8 0) := by rw [hb0] at hcell; exact hcell
            have HT := Lib.hid (show ((l.drop m).take (k + 1)).all (· == 0) = true by
              rw [take_more _ k hx, List.all_append, HZ.out]
              have : (((l.drop m).drop k).take 1).getD 0 0 = 0 := by rw [← HD.out, ← HBB.out]; exact hb0
              rw [this]; rfl)
            have HR2 := Lib.hid (show Rd w2 p (l.drop (m + (k + 1))) e by rw [← Nat.add_assoc, ← List.drop_drop (l := l) (i := 1) (j := m + k)]; exact hR2)
            clear hcell hR2 hb0 hx
            go_wp2
            go_roundw
            case rel => exact ⟨k + 1, by omega, by go_num, HR2.out, HO4.out, HT.out⟩
            case measure => simp [intOf]; omega
          · have hbp : (((b.toNat : Int)) != 0) = true := by
              rw [bne_iff_ne]; intro hh; apply hb0; apply UInt8.toNat_inj.1; simpa using hh
            have HF := Lib.hid (show fixR m l e = (⟨#[]⟩, [], failE e 4) by
              rw [fixR_nat, if_neg (by omega), if_neg]
              intro hall
              apply hb0
              rw [HBB.out, HD.out]
              exact all_upto hlt hx hall)
            clear hb0 hx
            go_wp2_with fail
            refine (fail_any p _ e 4 w2 hR2).mono ?_
            rintro r w3 ⟨rfl, hR3, hO5⟩
            have HR3 := Lib.hid hR3
            have HO6 := Lib.hid (HO4.out.trans hO5)
            clear hR3 hO5 hR2
            go_wp2
            go_ret
            rw [HF.out]
            exact ⟨rfl, HR3.out, HO6.out⟩
        · have hk' : k = pad m := by omega
          subst hk'
          have HF := Lib.hid (show fixR m l e = (⟨(l.take m).toArray⟩, l.drop (m + pad m), e) by
              rw [fixR_nat, if_neg (by omega)]
              exact if_pos HZ.out)
          have HR2 := Lib.hid hR
          clear hR
          go_wp2
          go_ret
          rw [HF.out]
          exact ⟨rfl, HR2.out, HO2.out⟩

/-- An Opaque taken. -/
def opqR (most : Int) (l : List UInt8) (e : Int) : ByteArray × List UInt8 × Int :=
  if (if most < 0 then 0 else most) < (numR 4 l e).1 then (⟨#[]⟩, [], failE (numR 4 l e).2.2 2) else fixR (numR 4 l e).1 (numR 4 l e).2.1 (numR 4 l e).2.2

theorem numR_le (size : Nat) (l : List UInt8) (e : Int) : (numR size l e).1 ≤ 9223372036854775807 ∧ (numR size l e).2.1.length ≤ l.length := by
  unfold numR
  split
  · exact ⟨by simp, by simp⟩
  · refine ⟨?_, by simp⟩
    show IntKind.i64.wrap _ ≤ _
    rw [IntKind.wrap_i64]; omega

set_option maxHeartbeats 400000 in
theorem ropaque_any (p : Nat) (l : List UInt8) (e : Int) (most : Int) (w : World) (h : Rd w p l e) (hl : l.length ≤ 140737488355328) :
    Calls Tryz.prog 33 #[.pointer (some ⟨p, 0, none⟩), .int .i64 most] w fun r w' => r = .returned (.string (opqR most l e).1) ∧ Rd w' p (opqR most l e).2.1 (opqR most l e).2.2 ∧ Only p w w' := by
  have hle := numR_le 4 l e
  obtain ⟨N, hN⟩ : ∃ N, N = numR 4 l e := ⟨_, rfl⟩
  rw [← hN] at hle
  have HN := Lib.hid hN
  clear hN
  go_enter Tryz.func33, Tryz.ntmps33
  go_wp2_with fail
  refine (ruint_any p l e w h hl).mono ?_
  rintro r w1 ⟨rfl, hR, hO⟩
  rw [← HN.out] at hR ⊢
  have HO := Lib.hid hO
  clear hO
  obtain ⟨n, l1, e1⟩ := N
  obtain ⟨hn, hl1⟩ := hle
  simp only at hn hl1 hR
  have key : ∀ M : Int, (if most < 0 then 0 else most) = M → (M < n → opqR most l e = (⟨#[]⟩, [], failE e1 2)) ∧ (¬ M < n → opqR most l e = fixR n l1 e1) := by
    intro M hM
    unfold opqR
    rw [← HN.out, hM]
    exact ⟨fun h => if_pos h, fun h => if_neg h⟩
  have HK := Lib.hid key
  clear key
  by_cases hm : most < 0
  · by_cases h1 : 0 < n
    · have HF := Lib.hid ((HK.out 0 (if_pos hm)).1 h1)
      clear HK
      go_wp2_with fail
      refine (fail_any p l1 e1 2 w1 hR).mono ?_
      rintro r w2 ⟨rfl, hR2, hO2⟩
      have HR2 := Lib.hid hR2
      have HO2 := Lib.hid (HO.out.trans hO2)
      clear hR2 hO2 hR
      go_wp2
      go_ret
      rw [HF.out]
      exact ⟨rfl, HR2.out, HO2.out⟩
    · have HF := Lib.hid ((HK.out 0 (if_pos hm)).2 h1)
      clear HK
      go_wp2_with fail
      refine (rfixed_any p l1 e1 n w1 hR (by omega) hn).mono ?_
      rintro r w2 ⟨rfl, hR2, hO2⟩
      have HR2 := Lib.hid hR2
      have HO2 := Lib.hid (HO.out.trans hO2)
      clear hR2 hO2 hR
      go_wp2
      go_ret
      rw [HF.out]
      exact ⟨rfl, HR2.out, HO2.out⟩
  · by_cases h1 : most < n
    · have HF := Lib.hid ((HK.out most (if_neg hm)).1 h1)
      clear HK
      go_wp2_with fail
      refine (fail_any p l1 e1 2 w1 hR).mono ?_
      rintro r w2 ⟨rfl, hR2, hO2⟩
      have HR2 := Lib.hid hR2
      have HO2 := Lib.hid (HO.out.trans hO2)
      clear hR2 hO2 hR
      go_wp2
      go_ret
      rw [HF.out]
      exact ⟨rfl, HR2.out, HO2.out⟩
    · have HF := Lib.hid ((HK.out most (if_neg hm)).2 h1)
      clear HK
      go_wp2_with fail
      refine (rfixed_any p l1 e1 n w1 hR (by omega) hn).mono ?_
      rintro r w2 ⟨rfl, hR2, hO2⟩
      have HR2 := Lib.hid hR2
      have HO2 := Lib.hid (HO.out.trans hO2)
      clear hR2 hO2 hR
      go_wp2
      go_ret
      rw [HF.out]
      exact ⟨rfl, HR2.out, HO2.out⟩
end Go.Proofs.YtihkjgfghjgblaaGreatDoor.R
namespace Go.Proofs.YtihkjgfghjgblaaGreatDoor.R
open Go.RowKit
theorem opened (s : ByteArray) (w : World) (C : Array Value) (fr : Nat × Nat) (cap : Nat) (h1 : s.size ≤ cap) (h2 : cap ≤ maxLen) (hC : ∀ j (_ : j < s.data.toList.length), C[0 + j]? = some (.int .u8 ((s.data.toList[j]).toNat : Int))) :
    Rd ((w.alloc (.cells C 5 fr)).alloc (.cells #[.slice (some ⟨w.heap.size, 0, none⟩) s.size cap, .int .i64 0] 70)).drew (w.heap.size + 1) s.data.toList 0 := by
  refine ⟨.slice (some ⟨w.heap.size, 0, none⟩) s.size cap, ?_, .inr ⟨w.heap.size, 0, cap, C, fr, ?_, ?_, h2, ?_, hC⟩⟩
  · have := heap_alloc_new (w.alloc (.cells C 5 fr)) (.cells #[.slice (some ⟨w.heap.size, 0, none⟩) s.size cap, .int .i64 0] 70)
    rw [show (w.alloc (.cells C 5 fr)).heap.size = w.heap.size + 1 from by simp] at this
    exact this
  · rw [Array.length_toList]; rfl
  · rw [Array.length_toList]; exact h1
  · show ((w.alloc (.cells C 5 fr)).alloc _).heap[w.heap.size]? = _
    rw [(World.grownBy_alloc (w.alloc (.cells C 5 fr)) _ none).block w.heap.size (by simp) (by simp)]
    exact heap_alloc_new w _

set_option maxHeartbeats 400000 in
theorem open_any (s : ByteArray) (w : World) (hs : s.size ≤ maxLen) :
    Calls Tryz.prog 9 #[.string s] w fun r w' => r = .returned (.pointer (some ⟨w.heap.size + 1, 0, none⟩)) ∧ Rd w' (w.heap.size + 1) s.data.toList 0 ∧ Below w.heap.size w w' ∧ w'.heap.size = w.heap.size + 2 := by
  have hcv := run_bytes_of_string (P := Tryz.prog) w 9 54 5 s Tryz.underlying9 Tryz.underlying54 Tryz.underlying5
  go_enter Tryz.func9, Tryz.ntmps9
  go_wp2
  go_ret
  refine ⟨rfl, opened s w _ _ _ (grownCap_ge w s.size 0 5) (grownCap_le_maxLen w s.size 0 5 hs) ?_, ?_, by simp⟩
  · intro j hj
    have hj' : j < s.data.size := by simpa using hj
    rw [Nat.zero_add, bytesRow_at s _ j hj']
    simp
  · exact (((Below.refl w.heap.size w).alloc (Nat.le_refl _) _).alloc (by simp) _).drew
end Go.Proofs.YtihkjgfghjgblaaGreatDoor.R
namespace Go.Proofs.YtihkjgfghjgblaaGreatDoor.R
open Go.RowKit

/-- The numbers L lie at ao. -/
def IntsAt (w : World) (ao : Option Addr) (L : List Int) : Prop := ∀ i (_ : i < L.length), ∃ g off, ao = some ⟨g, off, none⟩ ∧ g < w.heap.size ∧ w.cell? ⟨g, off + i, none⟩ = some (.int .i64 L[i])
def isU (n : Int) : Bool := decide (0 ≤ n ∧ n ≤ 4294967295)
def areU (L : List Int) : Bool := L.all isU
def putU (L : List Int) : List UInt8 := L.flatMap fun n => numBytes n 4
theorem putU_length : ∀ L : List Int, (putU L).length = 4 * L.length
  | [] => rfl
  | x :: r => by
    have := putU_length r
    unfold putU at this ⊢
    simp [List.flatMap_cons, numBytes_length, this]; omega
theorem putU_snoc (L : List Int) (n : Int) : putU (L ++ [n]) = putU L ++ numBytes n 4 := by simp [putU]

set_option maxHeartbeats 400000 in
theorem areU_any (L : List Int) (ao : Option Addr) (cap : Nat) (w : World) (hI : IntsAt w ao L) (hl : L.length ≤ 9223372036854775807) :
    Calls Tryz.prog 41 #[.slice ao L.length cap] w fun e w' => e = .returned (.bool (areU L)) ∧ w = w' := by
  have HI := Lib.hid hI
  clear hI
  go_enter Tryz.func41, Tryz.ntmps41
  go_wp2
  go_loop [7] (fun i => ∃ k : Nat, k ≤ L.length ∧ i = .int .i64 k ∧ areU (L.take k) = true) (fun i => L.length - (intOf i).toNat)
  case atStart => exact ⟨0, Nat.zero_le _, rfl, rfl⟩
  case round =>
    obtain ⟨k, hk, rfl, hA⟩ := hrel
    have HA := Lib.hid hA
    clear hA
    by_cases hlt : k < L.length
    · obtain ⟨g, off, rfl, hg, hc⟩ := HI.out k hlt
      have HT : Hid (L.take (k + 1) = L.take k ++ [L[k]]) := Lib.hid (by rw [List.take_succ_eq_append_getElem hlt])
      have HM : Hid (L[k] ∈ L) := Lib.hid (List.getElem_mem hlt)
      generalize L[k] = n at *
      by_cases h0 : n < 0
      · go_wp2
        go_ret
        refine ⟨?_, rfl⟩
        have : areU L = false := by
          unfold areU
          rw [List.all_eq_false]
          exact ⟨n, HM.out, by simp [isU]; omega⟩
        rw [this]; rfl
      · by_cases h1 : 4294967295 < n
        · go_wp2
          go_ret
          refine ⟨?_, rfl⟩
          have : areU L = false := by
            unfold areU
            rw [List.all_eq_false]
            exact ⟨n, HM.out, by simp [isU]; omega⟩
          rw [this]; rfl
        · go_wp2
          go_round
          case rel =>
            refine ⟨k + 1, by omega, by go_num, ?_⟩
            have h := HA.out
            unfold areU at h ⊢
            rw [HT.out, List.all_append, h]
            simp [isU]; omega
          case measure => simp [intOf]; omega
    · obtain rfl : k = L.length := by omega
      rw [List.take_length] at HA
      go_wp2
      go_ret
      exact ⟨by rw [HA.out]; rfl, rfl⟩

theorem IntsAt.kept {w w' : World} {ao : Option Addr} {L : List Int} {p : Nat} {v v' : Value} (h : IntsAt w ao L) (hC : Chg p v v' w w') (hg : ∀ g off, ao = some ⟨g, off, none⟩ → g ≠ p ∧ some g ≠ v.ownBlock) : IntsAt w' ao L := by
  intro i hi
  obtain ⟨g, off, e1, e2, e3⟩ := h i hi
  obtain ⟨n1, n2⟩ := hg g off e1
  refine ⟨g, off, e1, Nat.lt_of_lt_of_le e2 hC.size, ?_⟩
  rw [World.cell?_of_block (a := ⟨g, off + i, none⟩) (hC.block g e2 n1 n2)]; exact e3

set_option maxRecDepth 100000 in
set_option maxHeartbeats 1000000 in
theorem putU_any (p : Nat) (v : Value) (l : List UInt8) (L : List Int) (ao : Option Addr) (cap : Nat) (w : World) (hW : Wr w p v l) (hI : IntsAt w ao L) (hg : ∀ g off, ao = some ⟨g, off, none⟩ → g ≠ p ∧ some g ≠ v.ownBlock) (hb : l.length + 4 * L.length ≤ 140737488355328) :
    Calls Tryz.prog 19 #[.pointer (some ⟨p, 0, none⟩), .slice ao L.length cap] w fun e w' => e = .returned (.tuple #[]) ∧ WrTo w p v (l ++ putU L) w' := by
  have HI := Lib.hid hI
  have HW := Lib.hid hW
  have HG := Lib.hid hg
  clear hI hW hg
  go_enter Tryz.func19, Tryz.ntmps19
  go_wp2
  go_loopw [8] (fun i wr => ∃ k : Nat, k ≤ L.length ∧ i = .int .i64 k ∧ WrTo w p v (l ++ putU (L.take k)) wr) (fun i _ => L.length - (intOf i).toNat)
  case atStart => exact ⟨0, Nat.zero_le _, rfl, v, by simpa [putU] using HW.out, Chg.refl _ _ _⟩
  case round =>
    obtain ⟨k, hk, rfl, v1, hW1, hC1⟩ := hrel
    have HW1 := Lib.hid hW1
    have HC1 := Lib.hid hC1
    clear hW1 hC1
    by_cases hlt : k < L.length
    · obtain ⟨g, off, rfl, hg, hc⟩ := (HI.out.kept HC1.out HG.out) k hlt
      have HT : Hid (putU (L.take (k + 1)) = putU (L.take k) ++ numBytes L[k] 4) := Lib.hid (by rw [List.take_succ_eq_append_getElem hlt, putU_snoc])
      have hpl : (putU (L.take k)).length = 4 * k := by rw [putU_length, List.length_take]; omega
      have HPL := Lib.hid hpl
      clear hpl
      generalize L[k] = n at *
      go_wp2_with fail
      refine (uint_any p v1 _ n wr HW1.out (by rw [List.length_append, HPL.out]; omega)).mono ?_
      rintro e w2 ⟨rfl, v2, hW2, hC2⟩
      have HW2 := Lib.hid hW2
      have HC2 := Lib.hid (HC1.out.trans hC2)
      clear hW2 hC2 hc hg
      go_wp2
      go_roundw
      case rel => exact ⟨k + 1, by omega, by go_num, v2, by rw [HT.out, ← List.append_assoc]; exact HW2.out, HC2.out⟩
      case measure => simp [intOf]; omega
    · obtain rfl : k = L.length := by omega
      rw [List.take_length] at HW1
      go_wp2
      go_end0
      exact ⟨rfl, v1, HW1.out, HC1.out⟩

/-- What was put, and the rest behind it. -/
def restC (l : List UInt8) (s : ByteArray) : Int := if s.size % 4 ≠ 0 ∨ 65536 < l.length + s.size then 2 else 0
def restS (l : List UInt8) (s : ByteArray) : ByteArray := if s.size % 4 ≠ 0 ∨ 65536 < l.length + s.size then ⟨#[]⟩ else ⟨(l ++ s.data.toList).toArray⟩
set_option maxHeartbeats 1000000 in
theorem rest_any (p : Nat) (v : Value) (l : List UInt8) (s : ByteArray) (w : World) (hW : Wr w p v l) (hb : l.length ≤ 65536) (hs : s.size ≤ 9223372036854700000) :
    Calls Tryz.prog 23 #[.pointer (some ⟨p, 0, none⟩), .string s] w fun e w' => e = .returned (.tuple #[.string (restS l s), .int .i64 (restC l s)]) ∧ w = w' := by
  have HW := Lib.hid hW
  clear hW
  obtain ⟨h, hh⟩ : ∃ h : ByteArray, h = ⟨l.toArray⟩ := ⟨_, rfl⟩
  have hsz : h.size = l.length := by rw [hh]; rfl
  have HH := Lib.hid hh
  have HSZ := Lib.hid hsz
  have hz : h.size ≤ 65536 := by omega
  clear hsz hh
  by_cases h1 : s.size % 4 ≠ 0
  · have hc : restC l s = 2 := if_pos (.inl h1)
    have hS : restS l s = ⟨#[]⟩ := if_pos (.inl h1)
    rw [hc, hS]
    have hm : ((s.size : Int) % 4 != 0) = true := by rw [bne_iff_ne]; omega
    clear hc hS h1
    go_enter Tryz.func23, Tryz.ntmps23
    go_wp2_with fail
    refine (bytes_any p v l w HW.out).mono ?_
    rintro e w' ⟨rfl, rfl⟩
    rw [← HH.out]
    go_wp2
    go_ret2
    exact ⟨rfl, rfl⟩
  · have hm : ((s.size : Int) % 4 != 0) = false := by rw [bne_eq_false_iff_eq]; omega
    by_cases h2 : 65536 < l.length + s.size
    · have hc : restC l s = 2 := if_pos (.inr h2)
      have hS : restS l s = ⟨#[]⟩ := if_pos (.inr h2)
      rw [hc, hS]
      have h3 : 65536 < (h.size : Int) + (s.size : Int) := by have := HSZ.out; omega
      clear hc hS h1
      go_enter Tryz.func23, Tryz.ntmps23
      go_wp2_with fail
      refine (bytes_any p v l w HW.out).mono ?_
      rintro e w' ⟨rfl, rfl⟩
      rw [← HH.out]
      go_wp2
      go_ret2
      exact ⟨rfl, rfl⟩
    · have hno : ¬ (s.size % 4 ≠ 0 ∨ 65536 < l.length + s.size) := by omega
      have hc : restC l s = 0 := if_neg hno
      have hS : restS l s = h ++ s := by
        unfold restS
        rw [if_neg hno, HH.out]
        apply ByteArray.ext
        rw [ByteArray.data_append]
        apply Array.ext'
        simp
      rw [hc, hS]
      have h3 : ¬ 65536 < (h.size : Int) + (s.size : Int) := by have := HSZ.out; omega
      clear hc hS h1 hno
      go_enter Tryz.func23, Tryz.ntmps23
      go_wp2_with fail
      refine (bytes_any p v l w HW.out).mono ?_
      rintro e w' ⟨rfl, rfl⟩
      rw [← HH.out]
      go_wp2
      go_ret2
      exact ⟨rfl, rfl⟩
end Go.Proofs.YtihkjgfghjgblaaGreatDoor.R
namespace Go.Proofs.YtihkjgfghjgblaaGreatDoor.R
open Go.RowKit

/-- A call as plain data. -/
structure Cl where
  xid : Int
  prog : Int
  vers : Int
  proc : Int
  unix : Bool
  stamp : Int
  mach : ByteArray
  uid : Int
  gid : Int
  groups : List Int
  args : ByteArray

def Cl.zero (c : Cl) : Bool := c.stamp == 0 && c.mach.toList.isEmpty && c.uid == 0 && c.gid == 0 && c.groups.isEmpty
def Cl.ok (c : Cl) : Bool := areU [c.xid, c.prog, c.vers, c.proc] && (if c.unix then areU [c.stamp, c.uid, c.gid] && decide (c.mach.size ≤ 255) && decide (c.groups.length ≤ 16) && areU c.groups else c.zero)
def Cl.cred (c : Cl) : List UInt8 := numBytes c.stamp 4 ++ opaqueOf c.mach ++ putU [c.uid, c.gid, (c.groups.length : Int)] ++ putU c.groups
def Cl.head (c : Cl) : List UInt8 := putU [c.xid, 0, 2, c.prog, c.vers, c.proc] ++ (if c.unix then numBytes 1 4 ++ opaqueOf ⟨c.cred.toArray⟩ else numBytes 0 4 ++ opaqueOf ⟨#[]⟩) ++ numBytes 0 4 ++ opaqueOf ⟨#[]⟩

theorem built (w : World) (L : List Int) : IntsAt (w.alloc (.cells (L.map fun n => Value.int .i64 n).toArray 3)) (some ⟨w.heap.size, 0, none⟩) L := by
  intro i hi
  refine ⟨w.heap.size, 0, rfl, by simp, ?_⟩
  rw [cell_of_row _ _ _ _ _ _ (heap_alloc_new w _)]
  simp [hi]
theorem built3 (w : World) (n : Nat) (hn : n = w.heap.size) (a b c : Int) : IntsAt (w.alloc (.cells #[.int .i64 a, .int .i64 b, .int .i64 c] 3)) (some ⟨n, 0, none⟩) [a, b, c] := by
  subst hn; exact built w [a, b, c]
theorem built4 (w : World) (n : Nat) (hn : n = w.heap.size) (a b c d : Int) : IntsAt (w.alloc (.cells #[.int .i64 a, .int .i64 b, .int .i64 c, .int .i64 d] 3)) (some ⟨n, 0, none⟩) [a, b, c, d] := by
  subst hn; exact built w [a, b, c, d]
theorem built6 (w : World) (n : Nat) (hn : n = w.heap.size) (a b c d e f : Int) : IntsAt (w.alloc (.cells #[.int .i64 a, .int .i64 b, .int .i64 c, .int .i64 d, .int .i64 e, .int .i64 f] 3)) (some ⟨n, 0, none⟩) [a, b, c, d, e, f] := by
  subst hn; exact built w [a, b, c, d, e, f]
theorem areU_n (L : List Int) (n : Nat) (hn : L.length = n) (ao : Option Addr) (cap : Nat) (w : World) (hI : IntsAt w ao L) (hl : n ≤ 9223372036854775807) (b : Bool) (hb : areU L = b) :
    Calls Tryz.prog 41 #[.slice ao n cap] w fun e w' => e = .returned (.bool b) ∧ w = w' := by
  subst hn hb; exact areU_any L ao cap w hI hl
theorem putU_n (p : Nat) (v : Value) (l : List UInt8) (L : List Int) (n : Nat) (hn : L.length = n) (ao : Option Addr) (cap : Nat) (w : World) (hW : Wr w p v l) (hI : IntsAt w ao L) (hg : ∀ g off, ao = some ⟨g, off, none⟩ → g ≠ p ∧ some g ≠ v.ownBlock) (hb : l.length + 4 * n ≤ 140737488355328) :
    Calls Tryz.prog 19 #[.pointer (some ⟨p, 0, none⟩), .slice ao n cap] w fun e w' => e = .returned (.tuple #[]) ∧ WrTo w p v (l ++ putU L) w' := by
  subst hn; exact putU_any p v l L ao cap w hW hI hg hb
theorem len_empty (G : List Int) : (((G.length : Nat) : Int) == 0) = G.isEmpty := by
  cases G with
  | nil => rfl
  | cons x r => simp; omega
theorem IntsAt.below {w w' : World} {ao : Option Addr} {L : List Int} (h : IntsAt w ao L) (hb : Below w.heap.size w w') : IntsAt w' ao L := by
  intro i hi
  obtain ⟨g, off, e1, e2, e3⟩ := h i hi
  exact ⟨g, off, e1, Nat.lt_of_lt_of_le e2 hb.size, (hb.cell (p := ⟨g, off + i, none⟩) e2).trans e3⟩

set_option maxRecDepth 100000 in
set_option maxHeartbeats 1000000 in
theorem isCall_plain (xid prog vers proc stamp uid gid : Int) (mach args : ByteArray) (G : List Int) (ao : Option Addr) (cap : Nat) (w : World) :
    Calls Tryz.prog 18 #[.agg #[.int .i64 xid, .int .i64 prog, .int .i64 vers, .int .i64 proc, .bool false, .int .i64 stamp, .string mach, .int .i64 uid, .int .i64 gid, .slice ao G.length cap, .string args]] w
      fun e w' => e = .returned (.bool (Cl.ok ⟨xid, prog, vers, proc, false, stamp, mach, uid, gid, G, args⟩)) ∧ Below w.heap.size w w' := by
  have HB := Lib.hid (((Below.refl w.heap.size w).alloc (Nat.le_refl _) (.cells #[.int .i64 xid, .int .i64 prog, .int .i64 vers, .int .i64 proc, .bool false, .int .i64 stamp, .string mach, .int .i64 uid, .int .i64 gid, .slice ao G.length cap, .string args] 26)).alloc (by simp) (.cells #[.int .i64 xid, .int .i64 prog, .int .i64 vers, .int .i64 proc] 3))
  obtain ⟨b, hb⟩ : ∃ b, areU [xid, prog, vers, proc] = b := ⟨_, rfl⟩
  have HA := Lib.hid hb
  clear hb
  go_enter Tryz.func18, Tryz.ntmps18
  go_wp2_with fail
  refine (areU_n [xid, prog, vers, proc] 4 rfl (some ⟨w.heap.size + 1, 0, none⟩) 4 _ (built4 _ _ (by simp) _ _ _ _) (by decide) b HA.out).mono ?_
  rintro e w' ⟨rfl, rfl⟩
  cases b
  · go_wp2
    go_ret
    exact ⟨by simp [Cl.ok, HA.out], HB.out⟩
  · go_wp2
    all_goals
      go_ret
      refine ⟨congrArg (fun z => Ending.returned (.bool z)) ?_, ((Below.refl _ w).alloc (Nat.le_refl _) _).alloc (by simp) _⟩
      have hA := HA.out
      unfold Cl.ok Cl.zero
      simp only [hA]
      simp [*]
    exact len_empty G

theorem Wr.new (w : World) : Wr (w.alloc (.cells #[.slice none 0 0] 56)) w.heap.size (.slice none 0 0) [] :=
  ⟨heap_alloc_new w _, World.ownsRow_nil _ _ _ _⟩
theorem Wr.below {w w' : World} {p : Nat} {v : Value} {l : List UInt8} (h : Wr w p v l) (hb : Below w.heap.size w w') : Wr w' p v l := by
  refine ⟨(hb.block p h.lt).trans h.1, h.2.1, ?_⟩
  rcases h.2.2 with e | ⟨g, cap, cur, e, b1, hg, r⟩
  · exact .inl e
  · exact .inr ⟨g, cap, cur, e, b1, (hb.block g (Array.getElem?_eq_some_iff.1 hg).1).trans hg, r⟩

theorem Wr.far {w w' : World} {p B : Nat} {v v' : Value} {l : List UInt8} {cs : Array Value} {t : TypeId} (h : Wr w p v l) (hC : Chg p v v' w w') (hq : w.heap[B]? = some (.cells cs t (0, 0))) (ht : t ≠ 56 ∧ t ≠ 5) : w'.heap[B]? = some (.cells cs t (0, 0)) := by
  have hl : B < w.heap.size := (Array.getElem?_eq_some_iff.1 hq).1
  refine (hC.block B hl ?_ ?_).trans hq
  · intro e; have := h.1; rw [← e, hq] at this; simp at this; exact ht.1 this.2
  · intro e
    obtain ⟨cur, hc⟩ := h.row e.symm
    rw [hq] at hc; simp at hc; exact ht.2 hc.2
def Cl.headP (c : Cl) : List UInt8 := putU [c.xid, 0, 2, c.prog, c.vers, c.proc] ++ numBytes 0 4 ++ opaqueOf ⟨#[]⟩ ++ numBytes 0 4 ++ opaqueOf ⟨#[]⟩
theorem opaque_nil : opaqueOf ⟨#[]⟩ = [0, 0, 0, 0] := by decide +kernel
theorem headP_length (c : Cl) : c.headP.length = 40 := by simp [Cl.headP, putU_length, numBytes_length, opaque_nil]

set_option maxRecDepth 100000 in
set_option maxHeartbeats 1000000 in
theorem putCall_plain (c : Cl) (ao : Option Addr) (cap : Nat) (w : World) (hu : c.unix = false) (hs : c.args.size ≤ 9223372036854700000) :
    Calls Tryz.prog 6 #[.agg #[.int .i64 c.xid, .int .i64 c.prog, .int .i64 c.vers, .int .i64 c.proc, .bool false, .int .i64 c.stamp, .string c.mach, .int .i64 c.uid, .int .i64 c.gid, .slice ao c.groups.length cap, .string c.args]] w
      fun e w' => e = .returned (.tuple #[.string (if c.ok then restS c.headP c.args else ⟨#[]⟩), .int .i64 (if c.ok then restC c.headP c.args else 4)]) ∧ Below w.heap.size w w' := by
  obtain ⟨xid, prog, vers, proc, unix, stamp, mach, uid, gid, G, args⟩ := c
  simp only at hu hs ⊢
  subst hu
  obtain ⟨C, hC⟩ : ∃ C : Cl, C = ⟨xid, prog, vers, proc, false, stamp, mach, uid, gid, G, args⟩ := ⟨_, rfl⟩
  rw [← hC]
  have HC := Lib.hid hC
  clear hC
  obtain ⟨b, hb⟩ : ∃ b, C.ok = b := ⟨_, rfl⟩
  have HO := Lib.hid hb
  rw [hb]
  clear hb
  obtain ⟨R1, hR1⟩ : ∃ R1, R1 = (if b then restS C.headP args else ⟨#[]⟩) := ⟨_, rfl⟩
  obtain ⟨R2, hR2⟩ : ∃ R2, R2 = (if b then restC C.headP args else 4) := ⟨_, rfl⟩
  rw [← hR1, ← hR2]
  have HR1 := Lib.hid hR1
  have HR2 := Lib.hid hR2
  clear hR1 hR2
  go_enter Tryz.func6, Tryz.ntmps6
  go_wp2_with fail
  refine (isCall_plain xid prog vers proc stamp uid gid mach args G ao cap _).mono ?_
  rintro e w1 ⟨rfl, hB1⟩
  rw [← HC.out, HO.out]
  have hsz1 : w.heap.size + 1 ≤ w1.heap.size := by have := hB1.size; simpa using this
  have hq : w1.heap[w.heap.size]? = some (.cells #[.int .i64 xid, .int .i64 prog, .int .i64 vers, .int .i64 proc, .bool false, .int .i64 stamp, .string mach, .int .i64 uid, .int .i64 gid, .slice ao G.length cap, .string args] 26 (0, 0)) :=
    (hB1.block w.heap.size (by simp)).trans (heap_alloc_new w _)
  have HB1 := Lib.hid (((Below.refl w.heap.size w).alloc (Nat.le_refl _) (.cells #[.int .i64 xid, .int .i64 prog, .int .i64 vers, .int .i64 proc, .bool false, .int .i64 stamp, .string mach, .int .i64 uid, .int .i64 gid, .slice ao G.length cap, .string args] 26)).trans (hB1.mono (by simp)))
  clear hB1
  cases b
  · clear hq
    go_wp2
    go_ret2
    refine ⟨?_, HB1.out⟩
    rw [HR1.out, HR2.out]; rfl
  · obtain ⟨B, hBq⟩ : ∃ B, B = w.heap.size := ⟨_, rfl⟩
    rw [← hBq] at hq
    have HBq := Lib.hid hBq
    have hBl : B < w1.heap.size := by omega
    clear hBq
    have f0 : w1.cell? ⟨B, 0, none⟩ = some (.int .i64 xid) := by rw [cell_of_row w1 B _ _ _ _ hq]; rfl
    have f1 : w1.cell? ⟨B, 1, none⟩ = some (.int .i64 prog) := by rw [cell_of_row w1 B _ _ _ _ hq]; rfl
    have f2 : w1.cell? ⟨B, 2, none⟩ = some (.int .i64 vers) := by rw [cell_of_row w1 B _ _ _ _ hq]; rfl
    have f3 : w1.cell? ⟨B, 3, none⟩ = some (.int .i64 proc) := by rw [cell_of_row w1 B _ _ _ _ hq]; rfl
    have HQ := Lib.hid hq
    clear hq
    obtain ⟨p, hp⟩ : ∃ p, p = w1.heap.size := ⟨_, rfl⟩
    have HP := Lib.hid hp
    clear hp
    rw [← HBq.out]
    have hW2 := (Wr.new w1).alloc (.cells #[.int .i64 xid, .int .i64 0, .int .i64 2, .int .i64 prog, .int .i64 vers, .int .i64 proc] 3)
    have hq2 : ((w1.alloc (.cells #[.slice none 0 0] 56)).alloc (.cells #[.int .i64 xid, .int .i64 0, .int .i64 2, .int .i64 prog, .int .i64 vers, .int .i64 proc] 3)).heap[B]? = _ :=
      (((World.grownBy_alloc _ _ none).block B (by simp; omega) (by simp)).trans ((World.grownBy_alloc w1 _ none).block B hBl (by simp))).trans HQ.out
    have HB2 := Lib.hid ((HB1.out.alloc (by omega) (.cells #[.slice none 0 0] 56)).alloc (by simp; omega) (.cells #[.int .i64 xid, .int .i64 0, .int .i64 2, .int .i64 prog, .int .i64 vers, .int .i64 proc] 3))
    have HI2 := Lib.hid (built6 (w1.alloc (.cells #[.slice none 0 0] 56)) (w1.heap.size + 1) (by simp) xid 0 2 prog vers proc)
    have HW2 := Lib.hid hW2
    have HQ2 := Lib.hid hq2
    clear hW2 hq2
    go_wp2_with fail
    refine (putU_n w1.heap.size (.slice none 0 0) [] [xid, 0, 2, prog, vers, proc] 6 rfl (some ⟨w1.heap.size + 1, 0, none⟩) 6 _ HW2.out HI2.out (by intro g off e; simp only [Option.some.injEq, Addr.mk.injEq, and_true] at e; obtain ⟨e1, _⟩ := e; exact ⟨by omega, by simp [Value.ownBlock]⟩) (by decide)).mono ?_
    rintro e w3 ⟨rfl, v3, hW3, hC3⟩
    have HQ3 := Lib.hid (HW2.out.far hC3 HQ2.out (by decide))
    have HW3 := Lib.hid hW3
    have HB3 := Lib.hid (HB2.out.trans (hC3.below (B := w.heap.size) (by simp; omega) (by omega) (by intro k hk; simp [Value.ownBlock] at hk)))
    have HV3 : Hid (∀ k, v3.ownBlock = some k → w.heap.size ≤ k) := Lib.hid (by
      intro k hk
      rcases hC3.own with e | ⟨g, e, hg⟩
      · rw [e] at hk; simp [Value.ownBlock] at hk
      · rw [e] at hk
        have : g = k := by simpa using hk
        simp at hg; omega)
    have hs3 := hC3.size
    have f4 : w3.cell? ⟨B, 4, none⟩ = some (.bool false) := by rw [cell_of_row w3 B _ _ _ _ HQ3.out]; rfl
    clear hW3 hC3 f0 f1 f2 f3
    rw [← HP.out] at HW3 ⊢
    have hpw : w.heap.size ≤ p := by rw [HP.out]; omega
    go_wp2_with fail
    refine (uint_any p v3 _ 0 w3 HW3.out (by simp [putU_length])).mono ?_
    rintro e w4 ⟨rfl, v4, hW4, hC4⟩
    have HW4 := Lib.hid hW4
    have HC4 := Lib.hid hC4
    clear hW4 hC4 f4
    go_wp2_with fail
    refine (opaque_any p v4 _ ⟨#[]⟩ w4 HW4.out (by simp [putU_length, numBytes_length, ByteArray.size])).mono ?_
    rintro e w5 ⟨rfl, v5, hW5, hC5⟩
    have HW5 := Lib.hid hW5
    have HC5 := Lib.hid (HC4.out.trans hC5)
    clear hW5 hC5
    go_wp2_with fail
    refine (uint_any p v5 _ 0 w5 HW5.out (by simp [putU_length, numBytes_length, opaque_nil])).mono ?_
    rintro e w6 ⟨rfl, v6, hW6, hC6⟩
    have HW6 := Lib.hid hW6
    have HC6 := Lib.hid (HC5.out.trans hC6)
    clear hW6 hC6
    go_wp2_with fail
    refine (opaque_any p v6 _ ⟨#[]⟩ w6 HW6.out (by simp [putU_length, numBytes_length, opaque_nil, ByteArray.size])).mono ?_
    rintro e w7 ⟨rfl, v7, hW7, hC7⟩
    have HC7 := Lib.hid (HC6.out.trans hC7)
    have hhead : ([] ++ putU [xid, 0, 2, prog, vers, proc] ++ numBytes 0 4 ++ opaqueOf ⟨#[]⟩ ++ numBytes 0 4 ++ opaqueOf ⟨#[]⟩) = C.headP := by rw [HC.out]; rfl
    rw [hhead] at hW7
    have HW7 := Lib.hid hW7
    have HQ7 := HW3.out.far HC7.out HQ3.out (by decide)
    have f8 : w7.cell? ⟨B, 10, none⟩ = some (.string args) := by rw [cell_of_row w7 B _ _ _ _ HQ7]; rfl
    have HB7 := Lib.hid (HB3.out.trans (HC7.out.below (B := w.heap.size) HB3.out.size hpw HV3.out))
    clear hW7 hC7 hhead HQ7
    go_wp2_with fail
    refine (rest_any p v7 C.headP args w7 HW7.out (by rw [headP_length]; decide) hs).mono ?_
    rintro e w8 ⟨rfl, rfl⟩
    go_wp2
    go_ret2
    refine ⟨?_, HB7.out⟩
    rw [HR1.out, HR2.out]
    simp
end Go.Proofs.YtihkjgfghjgblaaGreatDoor.R
namespace Go.Proofs.YtihkjgfghjgblaaGreatDoor.R
open Go.RowKit

def hiB (v : Int) : Bool := v == 2 || v == 6
def loB (v : Int) : Bool := hiB v || v == 7
def boB (v : Int) : Bool := v == 0

set_option maxHeartbeats 400000 in
theorem hasHigh_any (v : Int) (w : World) (b : Bool) (hb : hiB v = b) : Calls Tryz.prog 38 #[.int .i64 v] w fun e w' => e = .returned (.bool b) ∧ w = w' := by
  subst hb
  go_enter Tryz.func38, Tryz.ntmps38
  go_wp2
  all_goals
    go_ret
    refine ⟨congrArg (fun z => Ending.returned (.bool z)) ?_, rfl⟩
    simp [hiB, *]
set_option maxHeartbeats 400000 in
theorem hasLow_any (v : Int) (w : World) (b : Bool) (hb : loB v = b) : Calls Tryz.prog 37 #[.int .i64 v] w fun e w' => e = .returned (.bool b) ∧ w = w' := by
  obtain ⟨c, hc⟩ : ∃ c, hiB v = c := ⟨_, rfl⟩
  have HC := Lib.hid hc
  have HB := Lib.hid hb
  clear hc hb
  go_enter Tryz.func37, Tryz.ntmps37
  go_wp2_with fail
  refine (hasHigh_any v w c HC.out).mono ?_
  rintro e w' ⟨rfl, rfl⟩
  cases c
  · go_wp2
    all_goals
      go_ret
      refine ⟨congrArg (fun z => Ending.returned (.bool z)) ?_, rfl⟩
      rw [← HB.out]
      have := HC.out
      simp [loB, *]
  · go_wp2
    all_goals
      go_ret
      refine ⟨congrArg (fun z => Ending.returned (.bool z)) ?_, rfl⟩
      rw [← HB.out]
      have := HC.out
      simp [loB, *]
set_option maxHeartbeats 400000 in
theorem hasBody_any (v : Int) (w : World) (b : Bool) (hb : boB v = b) : Calls Tryz.prog 39 #[.int .i64 v] w fun e w' => e = .returned (.bool b) ∧ w = w' := by
  subst hb
  go_enter Tryz.func39, Tryz.ntmps39
  go_wp2
  go_ret
  exact ⟨rfl, rfl⟩

structure Rp where
  xid : Int
  v : Int
  low : Int
  high : Int
  body : ByteArray
def Rp.ok (r : Rp) : Bool := decide (0 ≤ r.v) && decide (r.v ≤ 7) && areU [r.xid, r.low, r.high] && (loB r.v || r.low == 0) && (hiB r.v || r.high == 0) && (boB r.v || r.body.toList.isEmpty)
def Rp.mid (r : Rp) : List UInt8 := if r.v = 6 then putU [1, 0] else if r.v = 7 then putU [1, 1] else putU [0, 0] ++ opaqueOf ⟨#[]⟩ ++ numBytes r.v 4
def Rp.head (r : Rp) : List UInt8 := putU [r.xid, 1] ++ r.mid ++ (if loB r.v then numBytes r.low 4 else []) ++ (if hiB r.v then numBytes r.high 4 else [])
theorem mid_le (r : Rp) : r.mid.length ≤ 16 := by
  unfold Rp.mid
  split
  · simp [putU_length]
  · split
    · simp [putU_length]
    · simp [putU_length, numBytes_length, opaque_nil]
theorem head_le (r : Rp) : r.head.length ≤ 32 := by
  have h := mid_le r
  have h1 : (if loB r.v then numBytes r.low 4 else []).length ≤ 4 := by split <;> simp [numBytes_length]
  have h2 : (if hiB r.v then numBytes r.high 4 else []).length ≤ 4 := by split <;> simp [numBytes_length]
  unfold Rp.head
  simp only [List.length_append, putU_length, List.length_cons, List.length_nil]
  omega

set_option maxRecDepth 100000 in
set_option maxHeartbeats 1000000 in
theorem isReply_any (xid v low high : Int) (body : ByteArray) (w : World) (b : Bool) (hb : Rp.ok ⟨xid, v, low, high, body⟩ = b) :
    Calls Tryz.prog 40 #[.agg #[.int .i64 xid, .int .i64 v, .int .i64 low, .int .i64 high, .string body]] w fun e w' => e = .returned (.bool b) ∧ Below w.heap.size w w' := by
  have HB := Lib.hid hb
  clear hb
  obtain ⟨u, hu⟩ : ∃ u, areU [xid, low, high] = u := ⟨_, rfl⟩
  obtain ⟨bl, hl⟩ : ∃ u, loB v = u := ⟨_, rfl⟩
  obtain ⟨bh, hh⟩ : ∃ u, hiB v = u := ⟨_, rfl⟩
  obtain ⟨bo, ho⟩ : ∃ u, boB v = u := ⟨_, rfl⟩
  have HU := Lib.hid hu
  have HL := Lib.hid hl
  have HH := Lib.hid hh
  have HO := Lib.hid ho
  clear hu hl hh ho
  by_cases h0 : 0 ≤ v
  · by_cases h7 : v ≤ 7
    · go_enter Tryz.func40, Tryz.ntmps40
      go_wp2_with fail
      refine (areU_n [xid, low, high] 3 rfl (some ⟨w.heap.size + 1, 0, none⟩) 3 _ (built3 _ _ (by simp) _ _ _) (by decide) u HU.out).mono ?_
      rintro e w' ⟨rfl, rfl⟩
      go_wp2_with (first
        | (go_at_call 37; refine (hasLow_any v _ bl HL.out).mono ?_; rintro e w' ⟨rfl, rfl⟩)
        | (go_at_call 38; refine (hasHigh_any v _ bh HH.out).mono ?_; rintro e w' ⟨rfl, rfl⟩)
        | (go_at_call 39; refine (hasBody_any v _ bo HO.out).mono ?_; rintro e w' ⟨rfl, rfl⟩))
      all_goals
        go_ret
        refine ⟨congrArg (fun z => Ending.returned (.bool z)) ?_, ((Below.refl _ w).alloc (Nat.le_refl _) _).alloc (by simp) _⟩
        have e0 := HB.out
        have e1 := HU.out
        have e2 := HL.out
        have e3 := HH.out
        have e4 := HO.out
        rw [← e0]
        unfold Rp.ok
        simp only [e1, e2, e3, e4, h0, h7, decide_true, Bool.true_and]
        simp_all
    · have hd : decide (v ≤ 7) = false := decide_eq_false h7
      go_enter Tryz.func40, Tryz.ntmps40
      go_wp2
      go_ret
      exact ⟨by rw [← HB.out]; unfold Rp.ok; simp only [hd]; simp, (Below.refl _ w).alloc (Nat.le_refl _) _⟩
  · have hd : decide (0 ≤ v) = false := decide_eq_false h0
    go_enter Tryz.func40, Tryz.ntmps40
    go_wp2
    go_ret
    exact ⟨by rw [← HB.out]; unfold Rp.ok; simp only [hd]; simp, (Below.refl _ w).alloc (Nat.le_refl _) _⟩
theorem Wr.own_lt {w : World} {p g : Nat} {v : Value} {l : List UInt8} (h : Wr w p v l) (hg : v.ownBlock = some g) : g < w.heap.size := by
  obtain ⟨cur, hc⟩ := h.row hg
  exact (Array.getElem?_eq_some_iff.1 hc).1
theorem Chg.alloc (p : Nat) (v : Value) (w : World) (o : Obj) : Chg p v v w (w.alloc o) := by
  have hb := World.grownBy_alloc w o none
  exact ⟨hb.os, hb.tape, hb.output, hb.size, fun k hk _ _ => hb.block k hk (by simp), .inl rfl⟩
theorem lu2 (a b : Int) : (putU [a, b]).length = 8 := by rw [putU_length]; rfl
theorem lo0 : (opaqueOf ⟨#[]⟩).length = 4 := by rw [opaque_nil]; rfl
theorem built2 (w : World) (n : Nat) (hn : n = w.heap.size) (a b : Int) : IntsAt (w.alloc (.cells #[.int .i64 a, .int .i64 b] 3)) (some ⟨n, 0, none⟩) [a, b] := by
  subst hn; exact built w [a, b]

set_option maxRecDepth 100000 in
set_option maxHeartbeats 2000000 in
theorem putReply_any (r : Rp) (w : World) (hs : r.body.size ≤ 9223372036854700000) :
    Calls Tryz.prog 17 #[.agg #[.int .i64 r.xid, .int .i64 r.v, .int .i64 r.low, .int .i64 r.high, .string r.body]] w
      fun e w' => e = .returned (.tuple #[.string (if r.ok then restS r.head r.body else ⟨#[]⟩), .int .i64 (if r.ok then restC r.head r.body else 4)]) ∧ Below w.heap.size w w' := by
  obtain ⟨xid, v, low, high, body⟩ := r
  simp only at hs ⊢
  obtain ⟨R, hR⟩ : ∃ R : Rp, R = ⟨xid, v, low, high, body⟩ := ⟨_, rfl⟩
  rw [← hR]
  have HR := Lib.hid hR
  clear hR
  obtain ⟨b, hb⟩ : ∃ b, R.ok = b := ⟨_, rfl⟩
  have HO := Lib.hid hb
  rw [hb]
  clear hb
  obtain ⟨R1, hR1⟩ : ∃ R1, R1 = (if b then restS R.head body else ⟨#[]⟩) := ⟨_, rfl⟩
  obtain ⟨R2, hR2⟩ : ∃ R2, R2 = (if b then restC R.head body else 4) := ⟨_, rfl⟩
  rw [← hR1, ← hR2]
  have HR1 := Lib.hid hR1
  have HR2 := Lib.hid hR2
  clear hR1 hR2
  go_enter Tryz.func17, Tryz.ntmps17
  go_wp2_with fail
  refine (isReply_any xid v low high body _ b (by rw [← HR.out]; exact HO.out)).mono ?_
  rintro e w1 ⟨rfl, hB1⟩
  have hsz1 : w.heap.size + 1 ≤ w1.heap.size := by have := hB1.size; simpa using this
  have hq : w1.heap[w.heap.size]? = some (.cells #[.int .i64 xid, .int .i64 v, .int .i64 low, .int .i64 high, .string body] 31 (0, 0)) :=
    (hB1.block w.heap.size (by simp)).trans (heap_alloc_new w _)
  have HB1 := Lib.hid (((Below.refl w.heap.size w).alloc (Nat.le_refl _) (.cells #[.int .i64 xid, .int .i64 v, .int .i64 low, .int .i64 high, .string body] 31)).trans (hB1.mono (by simp)))
  clear hB1
  cases b
  · clear hq
    go_wp2
    go_ret2
    refine ⟨?_, HB1.out⟩
    rw [HR1.out, HR2.out]; rfl
  · obtain ⟨B, hBq⟩ : ∃ B, B = w.heap.size := ⟨_, rfl⟩
    rw [← hBq] at hq
    have HBq := Lib.hid hBq
    have hBl : B < w1.heap.size := by omega
    clear hBq
    have f0 : w1.cell? ⟨B, 0, none⟩ = some (.int .i64 xid) := by rw [cell_of_row w1 B _ _ _ _ hq]; rfl
    have HQ := Lib.hid hq
    clear hq
    obtain ⟨p, hp⟩ : ∃ p, p = w1.heap.size := ⟨_, rfl⟩
    have HP := Lib.hid hp
    clear hp
    rw [← HBq.out]
    have hW2 := (Wr.new w1).alloc (.cells #[.int .i64 xid, .int .i64 1] 3)
    have hq2 : ((w1.alloc (.cells #[.slice none 0 0] 56)).alloc (.cells #[.int .i64 xid, .int .i64 1] 3)).heap[B]? = _ :=
      (((World.grownBy_alloc _ _ none).block B (by simp; omega) (by simp)).trans ((World.grownBy_alloc w1 _ none).block B hBl (by simp))).trans HQ.out
    have HB2 := Lib.hid ((HB1.out.alloc (by omega) (.cells #[.slice none 0 0] 56)).alloc (by simp; omega) (.cells #[.int .i64 xid, .int .i64 1] 3))
    have HI2 := Lib.hid (built2 (w1.alloc (.cells #[.slice none 0 0] 56)) (w1.heap.size + 1) (by simp) xid 1)
    have HW2 := Lib.hid hW2
    have HQ2 := Lib.hid hq2
    clear hW2 hq2
    go_wp2_with fail
    refine (putU_n w1.heap.size (.slice none 0 0) [] [xid, 1] 2 rfl (some ⟨w1.heap.size + 1, 0, none⟩) 2 _ HW2.out HI2.out (by intro g off e; simp only [Option.some.injEq, Addr.mk.injEq, and_true] at e; obtain ⟨e1, _⟩ := e; exact ⟨by omega, by simp [Value.ownBlock]⟩) (by decide)).mono ?_
    rintro e w3 ⟨rfl, v3, hW3, hC3⟩
    have HQ3 := Lib.hid (HW2.out.far hC3 HQ2.out (by decide))
    have HW3 := Lib.hid hW3
    have HB3 := Lib.hid (HB2.out.trans (hC3.below (B := w.heap.size) (by simp; omega) (by omega) (by intro k hk; simp [Value.ownBlock] at hk)))
    have HV3 : Hid (∀ k, v3.ownBlock = some k → w.heap.size ≤ k) := Lib.hid (by
      intro k hk
      rcases hC3.own with e | ⟨g, e, hg⟩
      · rw [e] at hk; simp [Value.ownBlock] at hk
      · rw [e] at hk
        have : g = k := by simpa using hk
        simp at hg; omega)
    clear hW3 hC3 f0
    rw [← HP.out] at HW3 ⊢
    have hpw : w.heap.size ≤ p := by rw [HP.out]; omega
    have HC3 := Lib.hid (Chg.refl p v3 w3)
    by_cases h6 : v = 6
    · subst h6
      have HL : Hid (loB 6 = true) := Lib.hid rfl
      have HH : Hid (hiB 6 = true) := Lib.hid rfl
      have HHD : Hid ([] ++ putU [xid, 1] ++ putU [1, 0] ++ numBytes low 4 ++ numBytes high 4 = R.head) := Lib.hid (by rw [HR.out]; rfl)
      have f1 : w3.cell? ⟨B, 1, none⟩ = some (.int .i64 6) := by rw [cell_of_row w3 B _ _ _ _ HQ3.out]; rfl
      have f2 : w3.cell? ⟨B, 2, none⟩ = some (.int .i64 low) := by rw [cell_of_row w3 B _ _ _ _ HQ3.out]; rfl
      have f3 : w3.cell? ⟨B, 3, none⟩ = some (.int .i64 high) := by rw [cell_of_row w3 B _ _ _ _ HQ3.out]; rfl
      have f4 : w3.cell? ⟨B, 4, none⟩ = some (.string body) := by rw [cell_of_row w3 B _ _ _ _ HQ3.out]; rfl
      have HI3x := Lib.hid (built2 w3 w3.heap.size rfl 1 0)
      go_wp2_with fail
      refine (putU_n p v3 _ [1, 0] 2 rfl (some ⟨w3.heap.size, 0, none⟩) 2 _ (HW3.out.alloc (.cells #[.int .i64 1, .int .i64 0] 3)) HI3x.out (by intro g off e; simp only [Option.some.injEq, Addr.mk.injEq, and_true] at e; obtain ⟨e1, _⟩ := e; exact ⟨by have := HW3.out.lt; omega, fun e2 => by have := HW3.out.own_lt e2.symm; omega⟩) (by simp [putU_length])).mono ?_
      rintro e w4 ⟨rfl, v4, hW4, hC4⟩
      have HW4 := Lib.hid hW4
      have HC4 := Lib.hid (HC3.out.trans ((Chg.alloc p v3 w3 (.cells #[.int .i64 1, .int .i64 0] 3)).trans hC4))
      have HQ4 := Lib.hid (HW3.out.far HC4.out HQ3.out (by decide))
      clear hW4 hC4
      clear f1 f2 f3 f4
      have f1 : w4.cell? ⟨B, 1, none⟩ = some (.int .i64 6) := by rw [cell_of_row w4 B _ _ _ _ HQ4.out]; rfl
      have f2 : w4.cell? ⟨B, 2, none⟩ = some (.int .i64 low) := by rw [cell_of_row w4 B _ _ _ _ HQ4.out]; rfl
      have f3 : w4.cell? ⟨B, 3, none⟩ = some (.int .i64 high) := by rw [cell_of_row w4 B _ _ _ _ HQ4.out]; rfl
      have f4 : w4.cell? ⟨B, 4, none⟩ = some (.string body) := by rw [cell_of_row w4 B _ _ _ _ HQ4.out]; rfl
      go_wp2_with fail
      refine (hasLow_any 6 _ true HL.out).mono ?_
      rintro e w' ⟨rfl, rfl⟩
      go_wp2_with fail
      refine (uint_any p v4 _ low w4 HW4.out (by have e1 := lu2 xid 1; have e2 := lu2 1 0; have e3 := lu2 1 1; have e4 := lu2 0 0; have e5 := lo0; have e6 := numBytes_length 6 4; have e7 := numBytes_length low 4; have e8 := numBytes_length high 4; have e9 : ByteArray.size ⟨#[]⟩ = 0 := rfl; simp only [List.length_append, List.length_nil]; omega)).mono ?_
      rintro e w5 ⟨rfl, v5, hW5, hC5⟩
      have HW5 := Lib.hid hW5
      have HC5 := Lib.hid (HC4.out.trans hC5)
      have HQ5 := Lib.hid (HW3.out.far HC5.out HQ3.out (by decide))
      clear hW5 hC5 f1 f2 f3 f4
      have f1 : w5.cell? ⟨B, 1, none⟩ = some (.int .i64 6) := by rw [cell_of_row w5 B _ _ _ _ HQ5.out]; rfl
      have f2 : w5.cell? ⟨B, 2, none⟩ = some (.int .i64 low) := by rw [cell_of_row w5 B _ _ _ _ HQ5.out]; rfl
      have f3 : w5.cell? ⟨B, 3, none⟩ = some (.int .i64 high) := by rw [cell_of_row w5 B _ _ _ _ HQ5.out]; rfl
      have f4 : w5.cell? ⟨B, 4, none⟩ = some (.string body) := by rw [cell_of_row w5 B _ _ _ _ HQ5.out]; rfl
      go_wp2_with fail
      refine (hasHigh_any 6 _ true HH.out).mono ?_
      rintro e w' ⟨rfl, rfl⟩
      go_wp2_with fail
      refine (uint_any p v5 _ high w5 HW5.out (by have e1 := lu2 xid 1; have e2 := lu2 1 0; have e3 := lu2 1 1; have e4 := lu2 0 0; have e5 := lo0; have e6 := numBytes_length 6 4; have e7 := numBytes_length low 4; have e8 := numBytes_length high 4; have e9 : ByteArray.size ⟨#[]⟩ = 0 := rfl; simp only [List.length_append, List.length_nil]; omega)).mono ?_
      rintro e w6 ⟨rfl, v6, hW6, hC6⟩
      have HW6 := Lib.hid hW6
      have HC6 := Lib.hid (HC5.out.trans hC6)
      have HQ6 := Lib.hid (HW3.out.far HC6.out HQ3.out (by decide))
      clear hW6 hC6 f1 f2 f3 f4
      have f1 : w6.cell? ⟨B, 1, none⟩ = some (.int .i64 6) := by rw [cell_of_row w6 B _ _ _ _ HQ6.out]; rfl
      have f2 : w6.cell? ⟨B, 2, none⟩ = some (.int .i64 low) := by rw [cell_of_row w6 B _ _ _ _ HQ6.out]; rfl
      have f3 : w6.cell? ⟨B, 3, none⟩ = some (.int .i64 high) := by rw [cell_of_row w6 B _ _ _ _ HQ6.out]; rfl
      have f4 : w6.cell? ⟨B, 4, none⟩ = some (.string body) := by rw [cell_of_row w6 B _ _ _ _ HQ6.out]; rfl
      have HWk := HW6
      rw [HHD.out] at HWk
      go_wp2_with fail
      refine (rest_any p v6 R.head body w6 HWk.out (by have := head_le R; omega) hs).mono ?_
      rintro e w' ⟨rfl, rfl⟩
      have HBk := Lib.hid (HB3.out.trans (HC6.out.below (B := w.heap.size) HB3.out.size hpw HV3.out))
      go_wp2
      go_ret2
      refine ⟨?_, HBk.out⟩
      rw [HR1.out, HR2.out]
      simp

    by_cases h7 : v = 7
    · subst h7
      have HL : Hid (loB 7 = true) := Lib.hid rfl
      have HH : Hid (hiB 7 = false) := Lib.hid rfl
      have HHD : Hid ([] ++ putU [xid, 1] ++ putU [1, 1] ++ numBytes low 4 = R.head) := Lib.hid (by rw [HR.out]; simp [Rp.head, Rp.mid, loB, hiB])
      have f1 : w3.cell? ⟨B, 1, none⟩ = some (.int .i64 7) := by rw [cell_of_row w3 B _ _ _ _ HQ3.out]; rfl
      have f2 : w3.cell? ⟨B, 2, none⟩ = some (.int .i64 low) := by rw [cell_of_row w3 B _ _ _ _ HQ3.out]; rfl
      have f3 : w3.cell? ⟨B, 3, none⟩ = some (.int .i64 high) := by rw [cell_of_row w3 B _ _ _ _ HQ3.out]; rfl
      have f4 : w3.cell? ⟨B, 4, none⟩ = some (.string body) := by rw [cell_of_row w3 B _ _ _ _ HQ3.out]; rfl
      have HI3x := Lib.hid (built2 w3 w3.heap.size rfl 1 1)
      go_wp2_with fail
      refine (putU_n p v3 _ [1, 1] 2 rfl (some ⟨w3.heap.size, 0, none⟩) 2 _ (HW3.out.alloc (.cells #[.int .i64 1, .int .i64 1] 3)) HI3x.out (by intro g off e; simp only [Option.some.injEq, Addr.mk.injEq, and_true] at e; obtain ⟨e1, _⟩ := e; exact ⟨by have := HW3.out.lt; omega, fun e2 => by have := HW3.out.own_lt e2.symm; omega⟩) (by simp [putU_length])).mono ?_
      rintro e w4 ⟨rfl, v4, hW4, hC4⟩
      have HW4 := Lib.hid hW4
      have HC4 := Lib.hid (HC3.out.trans ((Chg.alloc p v3 w3 (.cells #[.int .i64 1, .int .i64 1] 3)).trans hC4))
      have HQ4 := Lib.hid (HW3.out.far HC4.out HQ3.out (by decide))
      clear hW4 hC4
      clear f1 f2 f3 f4
      have f1 : w4.cell? ⟨B, 1, none⟩ = some (.int .i64 7) := by rw [cell_of_row w4 B _ _ _ _ HQ4.out]; rfl
      have f2 : w4.cell? ⟨B, 2, none⟩ = some (.int .i64 low) := by rw [cell_of_row w4 B _ _ _ _ HQ4.out]; rfl
      have f3 : w4.cell? ⟨B, 3, none⟩ = some (.int .i64 high) := by rw [cell_of_row w4 B _ _ _ _ HQ4.out]; rfl
      have f4 : w4.cell? ⟨B, 4, none⟩ = some (.string body) := by rw [cell_of_row w4 B _ _ _ _ HQ4.out]; rfl
      go_wp2_with fail
      refine (hasLow_any 7 _ true HL.out).mono ?_
      rintro e w' ⟨rfl, rfl⟩
      go_wp2_with fail
      refine (uint_any p v4 _ low w4 HW4.out (by have e1 := lu2 xid 1; have e2 := lu2 1 0; have e3 := lu2 1 1; have e4 := lu2 0 0; have e5 := lo0; have e6 := numBytes_length 7 4; have e7 := numBytes_length low 4; have e8 := numBytes_length high 4; have e9 : ByteArray.size ⟨#[]⟩ = 0 := rfl; simp only [List.length_append, List.length_nil]; omega)).mono ?_
      rintro e w5 ⟨rfl, v5, hW5, hC5⟩
      have HW5 := Lib.hid hW5
      have HC5 := Lib.hid (HC4.out.trans hC5)
      have HQ5 := Lib.hid (HW3.out.far HC5.out HQ3.out (by decide))
      clear hW5 hC5 f1 f2 f3 f4
      have f1 : w5.cell? ⟨B, 1, none⟩ = some (.int .i64 7) := by rw [cell_of_row w5 B _ _ _ _ HQ5.out]; rfl
      have f2 : w5.cell? ⟨B, 2, none⟩ = some (.int .i64 low) := by rw [cell_of_row w5 B _ _ _ _ HQ5.out]; rfl
      have f3 : w5.cell? ⟨B, 3, none⟩ = some (.int .i64 high) := by rw [cell_of_row w5 B _ _ _ _ HQ5.out]; rfl
      have f4 : w5.cell? ⟨B, 4, none⟩ = some (.string body) := by rw [cell_of_row w5 B _ _ _ _ HQ5.out]; rfl
      go_wp2_with fail
      refine (hasHigh_any 7 _ false HH.out).mono ?_
      rintro e w' ⟨rfl, rfl⟩
      have HWk := HW5
      rw [HHD.out] at HWk
      go_wp2_with fail
      refine (rest_any p v5 R.head body w5 HWk.out (by have := head_le R; omega) hs).mono ?_
      rintro e w' ⟨rfl, rfl⟩
      have HBk := Lib.hid (HB3.out.trans (HC5.out.below (B := w.heap.size) HB3.out.size hpw HV3.out))
      go_wp2
      go_ret2
      refine ⟨?_, HBk.out⟩
      rw [HR1.out, HR2.out]
      simp

    have b6 : (v == 6) = false := by simpa using h6
    have b7 : (v == 7) = false := by simpa using h7
    have H67 := Lib.hid (And.intro h6 h7)
    clear h6 h7
    by_cases h2 : v = 2
    · subst h2
      clear b6 b7
      have HL : Hid (loB 2 = true) := Lib.hid rfl
      have HH : Hid (hiB 2 = true) := Lib.hid rfl
      have HHD : Hid ([] ++ putU [xid, 1] ++ putU [0, 0] ++ opaqueOf ⟨#[]⟩ ++ numBytes 2 4 ++ numBytes low 4 ++ numBytes high 4 = R.head) := Lib.hid (by rw [HR.out]; simp [Rp.head, Rp.mid, loB, hiB])
      have f1 : w3.cell? ⟨B, 1, none⟩ = some (.int .i64 2) := by rw [cell_of_row w3 B _ _ _ _ HQ3.out]; rfl
      have f2 : w3.cell? ⟨B, 2, none⟩ = some (.int .i64 low) := by rw [cell_of_row w3 B _ _ _ _ HQ3.out]; rfl
      have f3 : w3.cell? ⟨B, 3, none⟩ = some (.int .i64 high) := by rw [cell_of_row w3 B _ _ _ _ HQ3.out]; rfl
      have f4 : w3.cell? ⟨B, 4, none⟩ = some (.string body) := by rw [cell_of_row w3 B _ _ _ _ HQ3.out]; rfl
      have HI3x := Lib.hid (built2 w3 w3.heap.size rfl 0 0)
      go_wp2_with fail
      refine (putU_n p v3 _ [0, 0] 2 rfl (some ⟨w3.heap.size, 0, none⟩) 2 _ (HW3.out.alloc (.cells #[.int .i64 0, .int .i64 0] 3)) HI3x.out (by intro g off e; simp only [Option.some.injEq, Addr.mk.injEq, and_true] at e; obtain ⟨e1, _⟩ := e; exact ⟨by have := HW3.out.lt; omega, fun e2 => by have := HW3.out.own_lt e2.symm; omega⟩) (by simp [putU_length])).mono ?_
      rintro e w4 ⟨rfl, v4, hW4, hC4⟩
      have HW4 := Lib.hid hW4
      have HC4 := Lib.hid (HC3.out.trans ((Chg.alloc p v3 w3 (.cells #[.int .i64 0, .int .i64 0] 3)).trans hC4))
      have HQ4 := Lib.hid (HW3.out.far HC4.out HQ3.out (by decide))
      clear hW4 hC4
      clear f1 f2 f3 f4
      have f1 : w4.cell? ⟨B, 1, none⟩ = some (.int .i64 2) := by rw [cell_of_row w4 B _ _ _ _ HQ4.out]; rfl
      have f2 : w4.cell? ⟨B, 2, none⟩ = some (.int .i64 low) := by rw [cell_of_row w4 B _ _ _ _ HQ4.out]; rfl
      have f3 : w4.cell? ⟨B, 3, none⟩ = some (.int .i64 high) := by rw [cell_of_row w4 B _ _ _ _ HQ4.out]; rfl
      have f4 : w4.cell? ⟨B, 4, none⟩ = some (.string body) := by rw [cell_of_row w4 B _ _ _ _ HQ4.out]; rfl
      go_wp2_with fail
      refine (opaque_any p v4 _ ⟨#[]⟩ w4 HW4.out (by have e1 := lu2 xid 1; have e2 := lu2 1 0; have e3 := lu2 1 1; have e4 := lu2 0 0; have e5 := lo0; have e6 := numBytes_length 2 4; have e7 := numBytes_length low 4; have e8 := numBytes_length high 4; have e9 : ByteArray.size ⟨#[]⟩ = 0 := rfl; simp only [List.length_append, List.length_nil]; omega)).mono ?_
      rintro e w5 ⟨rfl, v5, hW5, hC5⟩
      have HW5 := Lib.hid hW5
      have HC5 := Lib.hid (HC4.out.trans hC5)
      have HQ5 := Lib.hid (HW3.out.far HC5.out HQ3.out (by decide))
      clear hW5 hC5 f1 f2 f3 f4
      have f1 : w5.cell? ⟨B, 1, none⟩ = some (.int .i64 2) := by rw [cell_of_row w5 B _ _ _ _ HQ5.out]; rfl
      have f2 : w5.cell? ⟨B, 2, none⟩ = some (.int .i64 low) := by rw [cell_of_row w5 B _ _ _ _ HQ5.out]; rfl
      have f3 : w5.cell? ⟨B, 3, none⟩ = some (.int .i64 high) := by rw [cell_of_row w5 B _ _ _ _ HQ5.out]; rfl
      have f4 : w5.cell? ⟨B, 4, none⟩ = some (.string body) := by rw [cell_of_row w5 B _ _ _ _ HQ5.out]; rfl
      go_wp2_with fail
      refine (uint_any p v5 _ 2 w5 HW5.out (by have e1 := lu2 xid 1; have e2 := lu2 1 0; have e3 := lu2 1 1; have e4 := lu2 0 0; have e5 := lo0; have e6 := numBytes_length 2 4; have e7 := numBytes_length low 4; have e8 := numBytes_length high 4; have e9 : ByteArray.size ⟨#[]⟩ = 0 := rfl; simp only [List.length_append, List.length_nil]; omega)).mono ?_
      rintro e w6 ⟨rfl, v6, hW6, hC6⟩
      have HW6 := Lib.hid hW6
      have HC6 := Lib.hid (HC5.out.trans hC6)
      have HQ6 := Lib.hid (HW3.out.far HC6.out HQ3.out (by decide))
      clear hW6 hC6 f1 f2 f3 f4
      have f1 : w6.cell? ⟨B, 1, none⟩ = some (.int .i64 2) := by rw [cell_of_row w6 B _ _ _ _ HQ6.out]; rfl
      have f2 : w6.cell? ⟨B, 2, none⟩ = some (.int .i64 low) := by rw [cell_of_row w6 B _ _ _ _ HQ6.out]; rfl
      have f3 : w6.cell? ⟨B, 3, none⟩ = some (.int .i64 high) := by rw [cell_of_row w6 B _ _ _ _ HQ6.out]; rfl
      have f4 : w6.cell? ⟨B, 4, none⟩ = some (.string body) := by rw [cell_of_row w6 B _ _ _ _ HQ6.out]; rfl
      go_wp2_with fail
      refine (hasLow_any 2 _ true HL.out).mono ?_
      rintro e w' ⟨rfl, rfl⟩
      go_wp2_with fail
      refine (uint_any p v6 _ low w6 HW6.out (by have e1 := lu2 xid 1; have e2 := lu2 1 0; have e3 := lu2 1 1; have e4 := lu2 0 0; have e5 := lo0; have e6 := numBytes_length 2 4; have e7 := numBytes_length low 4; have e8 := numBytes_length high 4; have e9 : ByteArray.size ⟨#[]⟩ = 0 := rfl; simp only [List.length_append, List.length_nil]; omega)).mono ?_
      rintro e w7 ⟨rfl, v7, hW7, hC7⟩
      have HW7 := Lib.hid hW7
      have HC7 := Lib.hid (HC6.out.trans hC7)
      have HQ7 := Lib.hid (HW3.out.far HC7.out HQ3.out (by decide))
      clear hW7 hC7 f1 f2 f3 f4
      have f1 : w7.cell? ⟨B, 1, none⟩ = some (.int .i64 2) := by rw [cell_of_row w7 B _ _ _ _ HQ7.out]; rfl
      have f2 : w7.cell? ⟨B, 2, none⟩ = some (.int .i64 low) := by rw [cell_of_row w7 B _ _ _ _ HQ7.out]; rfl
      have f3 : w7.cell? ⟨B, 3, none⟩ = some (.int .i64 high) := by rw [cell_of_row w7 B _ _ _ _ HQ7.out]; rfl
      have f4 : w7.cell? ⟨B, 4, none⟩ = some (.string body) := by rw [cell_of_row w7 B _ _ _ _ HQ7.out]; rfl
      go_wp2_with fail
      refine (hasHigh_any 2 _ true HH.out).mono ?_
      rintro e w' ⟨rfl, rfl⟩
      go_wp2_with fail
      refine (uint_any p v7 _ high w7 HW7.out (by have e1 := lu2 xid 1; have e2 := lu2 1 0; have e3 := lu2 1 1; have e4 := lu2 0 0; have e5 := lo0; have e6 := numBytes_length 2 4; have e7 := numBytes_length low 4; have e8 := numBytes_length high 4; have e9 : ByteArray.size ⟨#[]⟩ = 0 := rfl; simp only [List.length_append, List.length_nil]; omega)).mono ?_
      rintro e w8 ⟨rfl, v8, hW8, hC8⟩
      have HW8 := Lib.hid hW8
      have HC8 := Lib.hid (HC7.out.trans hC8)
      have HQ8 := Lib.hid (HW3.out.far HC8.out HQ3.out (by decide))
      clear hW8 hC8 f1 f2 f3 f4
      have f1 : w8.cell? ⟨B, 1, none⟩ = some (.int .i64 2) := by rw [cell_of_row w8 B _ _ _ _ HQ8.out]; rfl
      have f2 : w8.cell? ⟨B, 2, none⟩ = some (.int .i64 low) := by rw [cell_of_row w8 B _ _ _ _ HQ8.out]; rfl
      have f3 : w8.cell? ⟨B, 3, none⟩ = some (.int .i64 high) := by rw [cell_of_row w8 B _ _ _ _ HQ8.out]; rfl
      have f4 : w8.cell? ⟨B, 4, none⟩ = some (.string body) := by rw [cell_of_row w8 B _ _ _ _ HQ8.out]; rfl
      have HWk := HW8
      rw [HHD.out] at HWk
      go_wp2_with fail
      refine (rest_any p v8 R.head body w8 HWk.out (by have := head_le R; omega) hs).mono ?_
      rintro e w' ⟨rfl, rfl⟩
      have HBk := Lib.hid (HB3.out.trans (HC8.out.below (B := w.heap.size) HB3.out.size hpw HV3.out))
      go_wp2
      go_ret2
      refine ⟨?_, HBk.out⟩
      rw [HR1.out, HR2.out]
      simp

    · have HH : Hid (hiB v = false) := Lib.hid (by simp [hiB, h2, H67.out.1])
      have HL : Hid (loB v = false) := Lib.hid (by have := HH.out; simp [loB, this, H67.out.2])
      have HHD : Hid ([] ++ putU [xid, 1] ++ putU [0, 0] ++ opaqueOf ⟨#[]⟩ ++ numBytes v 4 = R.head) := Lib.hid (by rw [HR.out]; have e1 := HL.out; have e2 := HH.out; simp [Rp.head, Rp.mid, e1, e2, H67.out.1, H67.out.2])
      clear h2
      have f1 : w3.cell? ⟨B, 1, none⟩ = some (.int .i64 v) := by rw [cell_of_row w3 B _ _ _ _ HQ3.out]; rfl
      have f2 : w3.cell? ⟨B, 2, none⟩ = some (.int .i64 low) := by rw [cell_of_row w3 B _ _ _ _ HQ3.out]; rfl
      have f3 : w3.cell? ⟨B, 3, none⟩ = some (.int .i64 high) := by rw [cell_of_row w3 B _ _ _ _ HQ3.out]; rfl
      have f4 : w3.cell? ⟨B, 4, none⟩ = some (.string body) := by rw [cell_of_row w3 B _ _ _ _ HQ3.out]; rfl
      have HI3x := Lib.hid (built2 w3 w3.heap.size rfl 0 0)
      go_wp2_with fail
      refine (putU_n p v3 _ [0, 0] 2 rfl (some ⟨w3.heap.size, 0, none⟩) 2 _ (HW3.out.alloc (.cells #[.int .i64 0, .int .i64 0] 3)) HI3x.out (by intro g off e; simp only [Option.some.injEq, Addr.mk.injEq, and_true] at e; obtain ⟨e1, _⟩ := e; exact ⟨by have := HW3.out.lt; omega, fun e2 => by have := HW3.out.own_lt e2.symm; omega⟩) (by simp [putU_length])).mono ?_
      rintro e w4 ⟨rfl, v4, hW4, hC4⟩
      have HW4 := Lib.hid hW4
      have HC4 := Lib.hid (HC3.out.trans ((Chg.alloc p v3 w3 (.cells #[.int .i64 0, .int .i64 0] 3)).trans hC4))
      have HQ4 := Lib.hid (HW3.out.far HC4.out HQ3.out (by decide))
      clear hW4 hC4
      clear f1 f2 f3 f4
      have f1 : w4.cell? ⟨B, 1, none⟩ = some (.int .i64 v) := by rw [cell_of_row w4 B _ _ _ _ HQ4.out]; rfl
      have f2 : w4.cell? ⟨B, 2, none⟩ = some (.int .i64 low) := by rw [cell_of_row w4 B _ _ _ _ HQ4.out]; rfl
      have f3 : w4.cell? ⟨B, 3, none⟩ = some (.int .i64 high) := by rw [cell_of_row w4 B _ _ _ _ HQ4.out]; rfl
      have f4 : w4.cell? ⟨B, 4, none⟩ = some (.string body) := by rw [cell_of_row w4 B _ _ _ _ HQ4.out]; rfl
      go_wp2_with fail
      refine (opaque_any p v4 _ ⟨#[]⟩ w4 HW4.out (by have e1 := lu2 xid 1; have e2 := lu2 1 0; have e3 := lu2 1 1; have e4 := lu2 0 0; have e5 := lo0; have e6 := numBytes_length v 4; have e7 := numBytes_length low 4; have e8 := numBytes_length high 4; have e9 : ByteArray.size ⟨#[]⟩ = 0 := rfl; simp only [List.length_append, List.length_nil]; omega)).mono ?_
      rintro e w5 ⟨rfl, v5, hW5, hC5⟩
      have HW5 := Lib.hid hW5
      have HC5 := Lib.hid (HC4.out.trans hC5)
      have HQ5 := Lib.hid (HW3.out.far HC5.out HQ3.out (by decide))
      clear hW5 hC5 f1 f2 f3 f4
      have f1 : w5.cell? ⟨B, 1, none⟩ = some (.int .i64 v) := by rw [cell_of_row w5 B _ _ _ _ HQ5.out]; rfl
      have f2 : w5.cell? ⟨B, 2, none⟩ = some (.int .i64 low) := by rw [cell_of_row w5 B _ _ _ _ HQ5.out]; rfl
      have f3 : w5.cell? ⟨B, 3, none⟩ = some (.int .i64 high) := by rw [cell_of_row w5 B _ _ _ _ HQ5.out]; rfl
      have f4 : w5.cell? ⟨B, 4, none⟩ = some (.string body) := by rw [cell_of_row w5 B _ _ _ _ HQ5.out]; rfl
      go_wp2_with fail
      refine (uint_any p v5 _ v w5 HW5.out (by have e1 := lu2 xid 1; have e2 := lu2 1 0; have e3 := lu2 1 1; have e4 := lu2 0 0; have e5 := lo0; have e6 := numBytes_length v 4; have e7 := numBytes_length low 4; have e8 := numBytes_length high 4; have e9 : ByteArray.size ⟨#[]⟩ = 0 := rfl; simp only [List.length_append, List.length_nil]; omega)).mono ?_
      rintro e w6 ⟨rfl, v6, hW6, hC6⟩
      have HW6 := Lib.hid hW6
      have HC6 := Lib.hid (HC5.out.trans hC6)
      have HQ6 := Lib.hid (HW3.out.far HC6.out HQ3.out (by decide))
      clear hW6 hC6 f1 f2 f3 f4
      have f1 : w6.cell? ⟨B, 1, none⟩ = some (.int .i64 v) := by rw [cell_of_row w6 B _ _ _ _ HQ6.out]; rfl
      have f2 : w6.cell? ⟨B, 2, none⟩ = some (.int .i64 low) := by rw [cell_of_row w6 B _ _ _ _ HQ6.out]; rfl
      have f3 : w6.cell? ⟨B, 3, none⟩ = some (.int .i64 high) := by rw [cell_of_row w6 B _ _ _ _ HQ6.out]; rfl
      have f4 : w6.cell? ⟨B, 4, none⟩ = some (.string body) := by rw [cell_of_row w6 B _ _ _ _ HQ6.out]; rfl
      go_wp2_with fail
      refine (hasLow_any v _ false HL.out).mono ?_
      rintro e w' ⟨rfl, rfl⟩
      go_wp2_with fail
      refine (hasHigh_any v _ false HH.out).mono ?_
      rintro e w' ⟨rfl, rfl⟩
      have HWk := HW6
      rw [HHD.out] at HWk
      go_wp2_with fail
      refine (rest_any p v6 R.head body w6 HWk.out (by have := head_le R; omega) hs).mono ?_
      rintro e w' ⟨rfl, rfl⟩
      have HBk := Lib.hid (HB3.out.trans (HC6.out.below (B := w.heap.size) HB3.out.size hpw HV3.out))
      go_wp2
      go_ret2
      refine ⟨?_, HBk.out⟩
      rw [HR1.out, HR2.out]
      simp

end Go.Proofs.YtihkjgfghjgblaaGreatDoor.R
namespace Go.Proofs.YtihkjgfghjgblaaGreatDoor.R
open Go.RowKit

theorem Rd.lt {w : World} {p : Nat} {l : List UInt8} {e : Int} (h : Rd w p l e) : p < w.heap.size := by
  obtain ⟨v, h1, _⟩ := h
  exact (Array.getElem?_eq_some_iff.1 h1).1
theorem Rd.below {w w' : World} {p : Nat} {l : List UInt8} {e : Int} (h : Rd w p l e) (hb : Below w.heap.size w w') : Rd w' p l e := by
  have hp := h.lt
  obtain ⟨v, h1, h2⟩ := h
  refine ⟨v, (hb.block p hp).trans h1, ?_⟩
  rcases h2 with h2 | ⟨g, off, cap, cur, fr, e1, e2, e3, e4, e5⟩
  · exact .inl h2
  · exact .inr ⟨g, off, cap, cur, fr, e1, e2, e3, (hb.block g (Array.getElem?_eq_some_iff.1 e4).1).trans e4, e5⟩
theorem Rd.alloc {w : World} {p : Nat} {l : List UInt8} {e : Int} (h : Rd w p l e) (o : Obj) : Rd (w.alloc o) p l e := h.below ((Below.refl _ _).alloc (Nat.le_refl _) o)
/-- A change of blocks of other types leaves a reader alone. -/
theorem Rd.keep {w w' : World} {p : Nat} {l : List UInt8} {e : Int} (h : Rd w p l e) (hk : ∀ (k : Nat) (cs : Array Value) (t : TypeId) (fr : Nat × Nat), w.heap[k]? = some (.cells cs t fr) → (t = 70 ∨ t = 5) → w'.heap[k]? = w.heap[k]?) : Rd w' p l e := by
  obtain ⟨v, h1, h2⟩ := h
  refine ⟨v, (hk _ _ _ _ h1 (.inl rfl)).trans h1, ?_⟩
  rcases h2 with h2 | ⟨g, off, cap, cur, fr, e1, e2, e3, e4, e5⟩
  · exact .inl h2
  · exact .inr ⟨g, off, cap, cur, fr, e1, e2, e3, (hk _ _ _ _ e4 (.inr rfl)).trans e4, e5⟩

theorem ruint_n (p : Nat) (l : List UInt8) (e : Int) (w : World) (h : Rd w p l e) (hl : l.length ≤ 140737488355328) (n : Int) (l' : List UInt8) (e' : Int) (hn : numR 4 l e = (n, l', e')) :
    Calls Tryz.prog 10 #[.pointer (some ⟨p, 0, none⟩)] w fun r w' => r = .returned (.int .i64 n) ∧ Rd w' p l' e' ∧ Only p w w' := by
  have := ruint_any p l e w h hl
  rw [hn] at this
  exact this
theorem ropaque_n (p : Nat) (l : List UInt8) (e : Int) (most : Int) (w : World) (h : Rd w p l e) (hl : l.length ≤ 140737488355328) (s : ByteArray) (l' : List UInt8) (e' : Int) (hn : opqR most l e = (s, l', e')) :
    Calls Tryz.prog 33 #[.pointer (some ⟨p, 0, none⟩), .int .i64 most] w fun r w' => r = .returned (.string s) ∧ Rd w' p l' e' ∧ Only p w w' := by
  have := ropaque_any p l e most w h hl
  rw [hn] at this
  exact this
theorem numR_len {size : Nat} {l : List UInt8} {e n : Int} {l' : List UInt8} {e' : Int} (h : numR size l e = (n, l', e')) : l'.length ≤ l.length := by
  have := (numR_le size l e).2; rw [h] at this; exact this
theorem fixR_len (n : Int) (l : List UInt8) (e : Int) : (fixR n l e).2.1.length ≤ l.length := by
  unfold fixR
  split
  · exact Nat.le_refl _
  · split
    · simp
    · split
      · simp
      · simp
theorem opqR_len {most : Int} {l : List UInt8} {e : Int} {s : ByteArray} {l' : List UInt8} {e' : Int} (h : opqR most l e = (s, l', e')) : l'.length ≤ l.length := by
  have h1 : (opqR most l e).2.1.length ≤ l.length := by
    unfold opqR
    by_cases hc : (if most < 0 then 0 else most) < (numR 4 l e).1
    · rw [if_pos hc]; exact Nat.zero_le _
    · rw [if_neg hc]; exact Nat.le_trans (fixR_len _ _ _) (numR_le 4 l e).2
  rw [h] at h1; exact h1

set_option maxHeartbeats 400000 in
theorem well_any (p : Nat) (l : List UInt8) (e : Int) (w : World) (h : Rd w p l e) (b : Bool) (hb : (endR l e == 0 || endR l e == 6) = b) :
    Calls Tryz.prog 11 #[.pointer (some ⟨p, 0, none⟩)] w fun r w' => r = .returned (.bool b) ∧ w = w' := by
  have HB := Lib.hid hb
  clear hb
  obtain ⟨x, hx⟩ : ∃ x, endR l e = x := ⟨_, rfl⟩
  have HX := Lib.hid hx
  clear hx
  go_enter Tryz.func11, Tryz.ntmps11
  go_wp2_with fail
  refine (end_any p l e w h).mono ?_
  rintro r w' ⟨rfl, rfl⟩
  rw [HX.out]
  by_cases h0 : x = 0
  · subst h0
    go_wp2
    go_ret
    refine ⟨congrArg (fun z => Ending.returned (.bool z)) ?_, rfl⟩
    rw [← HB.out, HX.out]; rfl
  · have hz : (x == 0) = false := by simpa using h0
    clear h0
    go_wp2
    go_ret
    refine ⟨congrArg (fun z => Ending.returned (.bool z)) ?_, rfl⟩
    rw [← HB.out, HX.out, hz]; rfl
end Go.Proofs.YtihkjgfghjgblaaGreatDoor.R
namespace Go.Proofs.YtihkjgfghjgblaaGreatDoor.R
open Go.RowKit

def ints (L : List Int) : List Value := L.map fun n => Value.int .i64 n
/-- So many numbers. -/
def grpR (l : List UInt8) (e : Int) : Nat → List Int × List UInt8 × Int
  | 0 => ([], l, e)
  | k + 1 => ((grpR l e k).1 ++ [(numR 4 (grpR l e k).2.1 (grpR l e k).2.2).1], (numR 4 (grpR l e k).2.1 (grpR l e k).2.2).2.1, (numR 4 (grpR l e k).2.1 (grpR l e k).2.2).2.2)
theorem grpR_len (l : List UInt8) (e : Int) : ∀ k, (grpR l e k).1.length = k ∧ (grpR l e k).2.1.length ≤ l.length
  | 0 => ⟨rfl, Nat.le_refl _⟩
  | k + 1 => by
    obtain ⟨a, b⟩ := grpR_len l e k
    exact ⟨by simp [grpR, a], Nat.le_trans (numR_le 4 _ _).2 b⟩

/-- What may have changed: the block q, and new blocks. -/
structure Fq (q : Nat) (w w' : World) : Prop where
  os : w'.os = w.os
  tape : w'.tape = w.tape
  output : w'.output = w.output
  size : w.heap.size ≤ w'.heap.size
  block : ∀ k, k < w.heap.size → k ≠ q → w'.heap[k]? = w.heap[k]?
theorem Fq.ofBelow {q : Nat} {w w' : World} (h : Below w.heap.size w w') : Fq q w w' := ⟨h.os, h.tape, h.output, h.size, fun k hk _ => h.block k hk⟩
theorem Fq.only {q p : Nat} {w a b : World} (h : Fq q w a) (ho : Only p a b) (hp : w.heap.size ≤ p) : Fq q w b :=
  ⟨ho.os.trans h.os, ho.tape.trans h.tape, ho.output.trans h.output, by rw [ho.size]; exact h.size, fun k hk hq => (ho.block k (by omega)).trans (h.block k hk hq)⟩
theorem Fq.set {q : Nat} {w a : World} (h : Fq q w a) (o : Nat) (x : Value) : Fq q w (a.setCell ⟨q, o, none⟩ x) :=
  ⟨h.os, h.tape, h.output, by simpa [World.setCell] using h.size, fun k hk hq => (Below.heap_setCell _ _ _ _ hq).trans (h.block k hk hq)⟩

theorem heap_set {w : World} {g o : Nat} {cur : Array Value} {t : TypeId} (x : Value) (h : w.heap[g]? = some (.cells cur t (0, 0))) : (w.setCell ⟨g, o, none⟩ x).heap[g]? = some (.cells (cur.setIfInBounds o x) t (0, 0)) := by
  rw [setCell_eq_setRow w g o cur t (0, 0) x h]
  exact setRow_heap w g cur _ t _ h
theorem Rd.set {w : World} {p q o : Nat} {l : List UInt8} {e : Int} {cs : Array Value} (h : Rd w p l e) (hq : w.heap[q]? = some (.cells cs 26 (0, 0))) (x : Value) : Rd (w.setCell ⟨q, o, none⟩ x) p l e := by
  refine h.keep fun k cs' t fr hk ht => Below.heap_setCell _ _ _ _ ?_
  intro e1
  rw [show k = q from e1, hq] at hk
  injection (Option.some.inj hk) with _ e2 _
  rw [← e2] at ht
  revert ht
  decide

/-- A call's block, its fields. -/
def CAt (w : World) (q : Nat) (a b c d : Int) (u : Bool) (st : Int) (m : ByteArray) (uid gid : Int) (vg : Value) (args : ByteArray) : Prop :=
  w.heap[q]? = some (.cells #[.int .i64 a, .int .i64 b, .int .i64 c, .int .i64 d, .bool u, .int .i64 st, .string m, .int .i64 uid, .int .i64 gid, vg, .string args] 26 (0, 0))
theorem CAt.free {w : World} {q : Nat} {a b c d : Int} {u : Bool} {st : Int} {m : ByteArray} {uid gid : Int} {vg : Value} {args : ByteArray} (h : CAt w q a b c d u st m uid gid vg args) (o : Nat) : w.frozen? ⟨q, o, none⟩ = false := Lib.frozen_of_heap h _
theorem CAt.cells {w : World} {q : Nat} {a b c d : Int} {u : Bool} {st : Int} {m : ByteArray} {uid gid : Int} {vg : Value} {args : ByteArray} (h : CAt w q a b c d u st m uid gid vg args) :
    w.cell? ⟨q, 4, none⟩ = some (.bool u) ∧ w.cell? ⟨q, 5, none⟩ = some (.int .i64 st) ∧ w.cell? ⟨q, 6, none⟩ = some (.string m) ∧ w.cell? ⟨q, 7, none⟩ = some (.int .i64 uid) ∧ w.cell? ⟨q, 8, none⟩ = some (.int .i64 gid) ∧ w.cell? ⟨q, 9, none⟩ = some vg ∧ w.cell? ⟨q, 10, none⟩ = some (.string args) := by
  have hh : w.heap[q]? = _ := h
  refine ⟨?_, ?_, ?_, ?_, ?_, ?_, ?_⟩ <;> (rw [cell_of_row w q _ _ _ _ hh]; rfl)
theorem CAt.only {w w' : World} {q p : Nat} {a b c d : Int} {u : Bool} {st : Int} {m : ByteArray} {uid gid : Int} {vg : Value} {args : ByteArray} (h : CAt w q a b c d u st m uid gid vg args) (ho : Only p w w') (hqp : q ≠ p) : CAt w' q a b c d u st m uid gid vg args := (ho.block q hqp).trans h
theorem Only.undrew {p : Nat} {w w' : World} (h : Only p w.drew w') : Only p w w' := ⟨h.os, h.tape, h.output, h.size, h.block⟩

theorem owned_type {w : World} {B e size n g : Nat} {v : Value} {xs : List Value} (h : w.ownsRow B e size v n xs) (hg : v.ownBlock = some g) : ∃ cur, w.heap[g]? = some (.cells cur e (0, 0)) := by
  rcases h.2 with ⟨rfl, _⟩ | ⟨g', cap, cur, rfl, _, hh, _⟩
  · cases hg
  · have : g' = g := by simpa [Value.ownBlock] using hg
    subst this
    exact ⟨cur, hh⟩
theorem info3 : (Tryz.prog.info? 3).map (fun i => (i.zero, i.size, i.bytes)) = some (some (.int .i64 0), 1, 8) := by kernel_rfl
theorem ownsRow_of {w w' : World} {B e size n : Nat} {v : Value} {xs : List Value} (h : w.ownsRow B e size v n xs) (hk : ∀ g, v.ownBlock = some g → w'.heap[g]? = w.heap[g]?) : w'.ownsRow B e size v n xs := by
  refine ⟨h.1, ?_⟩
  rcases h.2 with e | ⟨g, cap, cur, e, hB, hg, r⟩
  · exact .inl e
  · exact .inr ⟨g, cap, cur, e, hB, (hk g (by rw [e]; rfl)).trans hg, r⟩

set_option maxRecDepth 100000 in
set_option maxHeartbeats 1000000 in
theorem unix_read (q : Nat) (a b c d : Int) (s : ByteArray) (w : World) (hq : CAt w q a b c d false 0 ⟨#[]⟩ 0 0 (.slice none 0 0) ⟨#[]⟩) (hs : s.size ≤ 400)
    (st : Int) (l1 : List UInt8) (e1 : Int) (h1 : numR 4 s.data.toList 0 = (st, l1, e1)) (m : ByteArray) (l2 : List UInt8) (e2 : Int) (h2 : opqR 255 l1 e1 = (m, l2, e2))
    (uid : Int) (l3 : List UInt8) (e3 : Int) (h3 : numR 4 l2 e2 = (uid, l3, e3)) (gid : Int) (l4 : List UInt8) (e4 : Int) (h4 : numR 4 l3 e3 = (gid, l4, e4))
    (k : Nat) (l5 : List UInt8) (e5 : Int) (h5 : numR 4 l4 e4 = ((k : Int), l5, e5)) (B : Bool) (hB : (decide (k ≤ 16) && (endR (grpR l5 e5 k).2.1 (grpR l5 e5 k).2.2 == 0)) = B) :
    Calls Tryz.prog 34 #[.pointer (some ⟨q, 0, none⟩), .string s] w fun r w' => r = .returned (.bool B) ∧ Fq q w w' ∧ (B = true → ∃ vg, CAt w' q a b c d true st m uid gid vg ⟨#[]⟩ ∧ w'.ownsRow 0 3 1 vg k (ints (grpR l5 e5 k).1) ∧ ∀ g, vg.ownBlock = some g → w.heap.size ≤ g) := by
  have n0 : s.data.toList.length ≤ 400 := by rw [Array.length_toList]; exact hs
  have n1 := numR_len h1
  have n2 := opqR_len h2
  have n3 := numR_len h3
  have n4 := numR_len h4
  have n5 := numR_len h5
  have H1 := Lib.hid h1
  have H2 := Lib.hid h2
  have H3 := Lib.hid h3
  have H4 := Lib.hid h4
  have H5 := Lib.hid h5
  have HBB := Lib.hid hB
  have hql : q < w.heap.size := (Array.getElem?_eq_some_iff.1 hq).1
  have HQ := Lib.hid hq
  clear h1 h2 h3 h4 h5 hB hq
  obtain ⟨p, hp⟩ : ∃ p, p = w.heap.size + 1 := ⟨_, rfl⟩
  have HP := Lib.hid hp
  have hqp : q ≠ p := by omega
  have hpw : w.heap.size ≤ p := by omega
  clear hp
  go_enter Tryz.func34, Tryz.ntmps34
  go_wp2_with fail
  refine (open_any s w (by unfold maxLen; omega)).mono ?_
  rintro r w1 ⟨rfl, hR1, hB1, _⟩
  rw [← HP.out] at hR1 ⊢
  have hC1 : CAt w1 q a b c d false 0 ⟨#[]⟩ 0 0 (.slice none 0 0) ⟨#[]⟩ := (hB1.block q hql).trans HQ.out
  have hC2 : CAt (w1.setCell ⟨q, 4, none⟩ (.bool true)) q a b c d true 0 ⟨#[]⟩ 0 0 (.slice none 0 0) ⟨#[]⟩ := by unfold CAt; rw [heap_set _ hC1]; rfl
  have HR2 := Lib.hid (hR1.set (o := 4) hC1 (.bool true))
  have HF2 := Lib.hid ((Fq.ofBelow (q := q) hB1).set 4 (.bool true))
  have HC2 := Lib.hid hC2
  have f4 := hC1.cells.1
  have ff := hC1.free 4
  clear hR1 hB1 hC1 hC2
  go_wp2_with fail
  clear f4 ff
  generalize w1.setCell ⟨q, 4, none⟩ (.bool true) = W2 at *
  refine (ruint_n p _ 0 W2 HR2.out (by omega) st l1 e1 H1.out).mono ?_
  rintro r w3 ⟨rfl, hR3, hO3⟩
  have HR3 := Lib.hid hR3
  have HC3 := Lib.hid (HC2.out.only hO3 hqp)
  have HF3 := Lib.hid (HF2.out.only hO3 hpw)
  clear hR3 hO3 HR2 HC2 HF2
  go_wp2_with fail
  refine (ropaque_n p l1 e1 255 w3 HR3.out (by omega) m l2 e2 H2.out).mono ?_
  rintro r w4 ⟨rfl, hR4, hO4⟩
  have hC4 := HC3.out.only hO4 hqp
  have hC5 : CAt (w4.setCell ⟨q, 5, none⟩ (.int .i64 st)) q a b c d true st ⟨#[]⟩ 0 0 (.slice none 0 0) ⟨#[]⟩ := by unfold CAt; rw [heap_set _ hC4]; rfl
  have hC6 : CAt ((w4.setCell ⟨q, 5, none⟩ (.int .i64 st)).setCell ⟨q, 6, none⟩ (.string m)) q a b c d true st m 0 0 (.slice none 0 0) ⟨#[]⟩ := by unfold CAt; rw [heap_set _ hC5]; rfl
  have HR6 := Lib.hid ((hR4.set (o := 5) hC4 (.int .i64 st)).set (o := 6) hC5 (.string m))
  have HF6 := Lib.hid (((HF3.out.only hO4 hpw).set 5 (.int .i64 st)).set 6 (.string m))
  have HC6 := Lib.hid hC6
  obtain ⟨_, f5, f6, _⟩ := hC4.cells
  have ff := hC4.free
  clear hR4 hO4 hC4 hC5 hC6 HR3 HC3 HF3
  go_wp2_with fail
  clear f5 f6 ff
  generalize (w4.setCell ⟨q, 5, none⟩ (.int .i64 st)).setCell ⟨q, 6, none⟩ (.string m) = W6 at *
  refine (ruint_n p l2 e2 W6 HR6.out (by omega) uid l3 e3 H3.out).mono ?_
  rintro r w7 ⟨rfl, hR7, hO7⟩
  have HR7 := Lib.hid hR7
  have HC7 := Lib.hid (HC6.out.only hO7 hqp)
  have HF7 := Lib.hid (HF6.out.only hO7 hpw)
  clear hR7 hO7 HR6 HC6 HF6
  go_wp2_with fail
  refine (ruint_n p l3 e3 w7 HR7.out (by omega) gid l4 e4 H4.out).mono ?_
  rintro r w8 ⟨rfl, hR8, hO8⟩
  have hC8 := HC7.out.only hO8 hqp
  have hC9 : CAt (w8.setCell ⟨q, 7, none⟩ (.int .i64 uid)) q a b c d true st m uid 0 (.slice none 0 0) ⟨#[]⟩ := by unfold CAt; rw [heap_set _ hC8]; rfl
  have hC10 : CAt ((w8.setCell ⟨q, 7, none⟩ (.int .i64 uid)).setCell ⟨q, 8, none⟩ (.int .i64 gid)) q a b c d true st m uid gid (.slice none 0 0) ⟨#[]⟩ := by unfold CAt; rw [heap_set _ hC9]; rfl
  have HR10 := Lib.hid ((hR8.set (o := 7) hC8 (.int .i64 uid)).set (o := 8) hC9 (.int .i64 gid))
  have HF10 := Lib.hid (((HF7.out.only hO8 hpw).set 7 (.int .i64 uid)).set 8 (.int .i64 gid))
  have HC10 := Lib.hid hC10
  obtain ⟨_, _, _, f7, f8, _⟩ := hC8.cells
  have ff := hC8.free
  clear hR8 hO8 hC8 hC9 hC10 HR7 HC7 HF7
  go_wp2_with fail
  clear f7 f8 ff
  generalize (w8.setCell ⟨q, 7, none⟩ (.int .i64 uid)).setCell ⟨q, 8, none⟩ (.int .i64 gid) = W10 at *
  refine (ruint_n p l4 e4 W10 HR10.out (by omega) (k : Int) l5 e5 H5.out).mono ?_
  rintro r w11 ⟨rfl, hR11, hO11⟩
  have HR11 := Lib.hid hR11
  have HC11 := Lib.hid (HC10.out.only hO11 hqp)
  have HF11 := Lib.hid (HF10.out.only hO11 hpw)
  clear hR11 hO11 HR10 HC10 HF10
  by_cases hk : 16 < k
  · go_wp2
    go_ret
    have hBf : B = false := by rw [← HBB.out]; simp; omega
    rw [hBf]
    exact ⟨rfl, HF11.out, fun e => by cases e⟩
  · obtain ⟨i3, hi3, hz30, hz31, hz32⟩ := info_parts info3
    go_wp2
    go_loopw [39] (fun x wr => ∃ (i : Nat) (vg : Value), i ≤ k ∧ x = .int .i64 i ∧ Rd wr p (grpR l5 e5 i).2.1 (grpR l5 e5 i).2.2 ∧ CAt wr q a b c d true st m uid gid vg ⟨#[]⟩ ∧ wr.ownsRow 0 3 1 vg i (ints (grpR l5 e5 i).1) ∧ Fq q w wr ∧ ∀ g, vg.ownBlock = some g → w.heap.size ≤ g ∧ g ≠ p) (fun x _ => k - (intOf x).toNat)
    case atStart => exact ⟨0, .slice none 0 0, Nat.zero_le _, rfl, HR11.out, HC11.out, World.ownsRow_nil _ _ _ _, HF11.out, by intro g hg; simp [Value.ownBlock] at hg⟩
    case round =>
      obtain ⟨i, vg, hik, rfl, hR, hC, hown, hF, hv⟩ := hrel
      have HR := Lib.hid hR
      have HC := Lib.hid hC
      have HO := Lib.hid hown
      have HF := Lib.hid hF
      have HV := Lib.hid hv
      have g9 := hC.cells.2.2.2.2.2.1
      have gf := hC.free 9
      have hqw : q < wr.heap.size := (Array.getElem?_eq_some_iff.1 hC).1
      have hqv : some q ≠ vg.ownBlock := by
        intro e
        have := (hv q e.symm).1
        omega
      have hpr := hR.lt
      clear hR hC hown hF hv HR11 HC11 HF11
      by_cases hlt : i < k
      · obtain ⟨n, l', e', hn⟩ : ∃ n l' e', numR 4 (grpR l5 e5 i).2.1 (grpR l5 e5 i).2.2 = (n, l', e') := ⟨_, _, _, rfl⟩
        have hlen := (grpR_len l5 e5 i).2
        have HG : Hid (grpR l5 e5 (i + 1) = ((grpR l5 e5 i).1 ++ [n], l', e')) := Lib.hid (by show (_, _, _) = _; rw [hn])
        have HN := Lib.hid hn
        clear hn
        obtain ⟨M, hM⟩ : ∃ M, M = (grpR l5 e5 i).1 := ⟨_, rfl⟩
        obtain ⟨la, hla⟩ : ∃ la, la = (grpR l5 e5 i).2.1 := ⟨_, rfl⟩
        obtain ⟨ea, hea⟩ : ∃ ea, ea = (grpR l5 e5 i).2.2 := ⟨_, rfl⟩
        rw [← hM] at HO HG
        rw [← hla] at hlen
        rw [← hla, ← hea] at HR HN
        clear hM hla hea
        have hla4 : la.length ≤ 140737488355328 := by omega
        go_wp2
        go_region_law (first
          | (refine step_append_lies _ (by rfl) _ _ _ (by rfl) 0 3 i3 _ 1 8 Tryz.underlying22 hi3 hz30 hz31 hz32 rfl (by omega) vg _ _ (by rfl) ((ownsRow_of HO.out (fun g hg => hO3.block g (HV.out g hg).2)).alloc _)
              ⟨w3.heap.size, 0, none⟩ 1 1 [.int .i64 n] (by rfl) (by rfl) (World.news_of_block (cs := #[.int .i64 n]) (t := 3) (fr := (0, 0)) (heap_alloc_new w3 _)) (by simp [Value.oneCell'])
              (by omega) (by unfold maxLen; omega) (by omega) (by simp) (w3.heap.size + 1) (by simp) ?_; intro g cap w6 hown1 hgrow hat hglt; have hfw : w6.frozen? ⟨q, 9, none⟩ = false := (hgrow.frozen_far _ (by simp; omega) hqv).trans ((World.frozen?_alloc_past _ _ _ kl3).trans kf3); have hcw : w6.cell? ⟨q, 9, none⟩ = some vg := (hgrow.cell_far _ (by simp; omega) hqv).trans ((World.cell?_alloc_past _ _ _ kl3).trans kc3))
          | (go_simp; go_at_call 10; refine (ruint_n p la ea _ (by exact HR.out) hla4 n l' e' HN.out).mono ?_; rintro r w3 ⟨rfl, hR3, hO3d⟩; have hO3 : Only p wr w3 := Only.undrew hO3d; clear hO3d; have kc3 : w3.cell? ⟨q, 9, none⟩ = some vg := (World.cell?_of_block (a := ⟨q, 9, none⟩) (hO3.block q hqp)).trans g9; have kf3 : w3.frozen? ⟨q, 9, none⟩ = false := (World.frozen?_of_block (a := ⟨q, 9, none⟩) (hO3.block q hqp)).trans gf; have kl3 : q < w3.heap.size := by (rw [hO3.size]; exact hqw)))
        all_goals
          have hs3 : w3.heap.size = wr.heap.size := hO3.size
          have hblk : ∀ k, k < wr.heap.size → k ≠ p → some k ≠ vg.ownBlock → w6.heap[k]? = wr.heap[k]? := fun k hk hkp hkv =>
            (hgrow.block k (by simp; omega) hkv).trans (((World.grownBy_alloc w3 _ none).block k (by omega) (by simp)).trans (hO3.block k hkp))
          have hC6 : CAt w6 q a b c d true st m uid gid vg ⟨#[]⟩ := (hblk q hqw hqp hqv).trans HC.out
          have hR6 : Rd w6 p l' e' := by
            refine (hR3.alloc (.cells #[.int .i64 n] 3)).keep fun x cs t fr hx ht => hgrow.block x (Array.getElem?_eq_some_iff.1 hx).1 ?_
            intro ex
            obtain ⟨cur, hc⟩ := owned_type ((ownsRow_of HO.out (fun g hg => hO3.block g (HV.out g hg).2)).alloc (.cells #[.int .i64 n] 3)) ex.symm
            rw [hx] at hc
            injection (Option.some.inj hc) with _ e2 _
            rw [e2] at ht
            revert ht
            decide
          have hgq : g ≠ q := by
            rcases hat with e | e
            · intro e2; exact hqv (by rw [e, e2])
            · omega
          have HR7 := Lib.hid (hR6.set (o := 9) hC6 (.slice (some ⟨g, 0, none⟩) (i + 1) cap))
          have HC7 : Hid (CAt (w6.setCell ⟨q, 9, none⟩ (.slice (some ⟨g, 0, none⟩) (i + 1) cap)) q a b c d true st m uid gid (.slice (some ⟨g, 0, none⟩) (i + 1) cap) ⟨#[]⟩) := Lib.hid (by unfold CAt; rw [heap_set _ hC6]; rfl)
          have HO7 : Hid ((w6.setCell ⟨q, 9, none⟩ (.slice (some ⟨g, 0, none⟩) (i + 1) cap)).ownsRow 0 3 1 (.slice (some ⟨g, 0, none⟩) (i + 1) cap) (i + 1) (ints (M ++ [n]))) := Lib.hid (by
            rw [show ints (M ++ [n]) = ints M ++ [.int .i64 n] from by simp [ints]]
            refine ownsRow_of hown1 fun x hx => Below.heap_setCell _ _ _ _ ?_
            have : g = x := by simpa [Value.ownBlock] using hx
            rw [← this]; exact hgq)
          have HF7 : Hid (Fq q w (w6.setCell ⟨q, 9, none⟩ (.slice (some ⟨g, 0, none⟩) (i + 1) cap))) := Lib.hid (by
            have hf := HF.out
            refine Fq.set ⟨hgrow.os.trans (hO3.os.trans hf.os), hgrow.tape.trans (hO3.tape.trans hf.tape), hgrow.output.trans (hO3.output.trans hf.output), ?_, fun x hx hxq => ?_⟩ 9 _
            · have h1 := hgrow.size
              have h2 := hf.size
              simp at h1
              omega
            · refine (hblk x (by have := hf.size; omega) (by omega) ?_).trans (hf.block x hx hxq)
              intro ex
              have := (HV.out x ex.symm).1
              omega)
          have HV7 : Hid (∀ x, Value.ownBlock (.slice (some ⟨g, 0, none⟩) (i + 1) cap) = some x → w.heap.size ≤ x ∧ x ≠ p) := Lib.hid (by
            intro x hx
            have ex : g = x := by simpa [Value.ownBlock] using hx
            rw [← ex]
            rcases hat with e | e
            · exact HV.out g e
            · have := HF.out.size
              exact ⟨by omega, by omega⟩)
          clear hown1 hgrow hat hglt hfw hcw hR3 hO3 kc3 kf3 kl3 hblk hC6 hR6 hgq g9 gf hs3
          go_wp2
          go_roundw
          case rel => exact ⟨i + 1, _, by omega, by go_num, by rw [HG.out]; exact HR7.out, HC7.out, by rw [HG.out]; exact HO7.out, HF7.out, HV7.out⟩
          case measure => simp [intOf]; omega
      · obtain rfl : i = k := by omega
        go_wp2_with fail
        refine (end_any p _ _ wr HR.out).mono ?_
        rintro r w' ⟨rfl, rfl⟩
        go_wp2
        go_ret
        refine ⟨congrArg (fun z => Ending.returned (.bool z)) ?_, HF.out, fun _ => ⟨vg, HC.out, HO.out, fun g hg => (HV.out g hg).1⟩⟩
        rw [← HBB.out]
        have : decide (i ≤ 16) = true := decide_eq_true (by omega)
        rw [this]; rfl
end Go.Proofs.YtihkjgfghjgblaaGreatDoor.R
namespace Go.Proofs.YtihkjgfghjgblaaGreatDoor.R
open Go.RowKit

/-- What is thrown where a call is refused. -/
abbrev Thrown (xid v lo hi : Int) : Ending := .panicked [{ v := .iface 47 (.agg #[.int .i64 xid, .int .i64 v, .int .i64 lo, .int .i64 hi, .string ⟨#[]⟩]), recovered := false }]
set_option maxHeartbeats 400000 in
theorem refuse32 (x : Nat) (xid v lo hi : Int) (w : World) (hc : w.cell? ⟨x, 0, none⟩ = some (.int .i64 xid)) :
    Calls Tryz.prog 12 #[.int .i64 v, .int .i64 lo, .int .i64 hi, .pointer (some ⟨x, 0, none⟩)] w fun r w' => r = Thrown xid v lo hi ∧ w = w' := by
  go_enter Tryz.func12, Tryz.ntmps12
  go_wp2
  exact ⟨rfl, rfl, rfl⟩

def wellR (l : List UInt8) (e : Int) : Bool := endR l e == 0 || endR l e == 6

/-- The reader's block and new blocks alone. -/
theorem Fq.trans {q : Nat} {a b c : World} (h : Fq q a b) (k : Fq q b c) : Fq q a c :=
  ⟨k.os.trans h.os, k.tape.trans h.tape, k.output.trans h.output, Nat.le_trans h.size k.size, fun i hi hq => (k.block i (Nat.lt_of_lt_of_le hi h.size) hq).trans (h.block i hi hq)⟩
theorem Fq.refl (q : Nat) (w : World) : Fq q w w := ⟨rfl, rfl, rfl, Nat.le_refl _, fun _ _ _ => rfl⟩
theorem Fq.ofOnly {p : Nat} {w w' : World} (h : Only p w w') : Fq p w w' := ⟨h.os, h.tape, h.output, by rw [h.size]; exact Nat.le_refl _, fun k _ hk => h.block k hk⟩
theorem Fq.alloc {q : Nat} {w a : World} (h : Fq q w a) (o : Obj) : Fq q w (a.alloc o) := h.trans (Fq.ofBelow ((Below.refl _ _).alloc (Nat.le_refl _) o))
theorem Fq.cell {q x : Nat} {w a : World} {v : Value} (h : Fq q w a) (hx : x < w.heap.size) (hq : x ≠ q) (hc : w.cell? ⟨x, 0, none⟩ = some v) : a.cell? ⟨x, 0, none⟩ = some v :=
  (World.cell?_of_block (a := ⟨x, 0, none⟩) (h.block x hx hq)).trans hc

set_option maxRecDepth 100000 in
set_option maxHeartbeats 1000000 in
/-- The version isn't 2. -/
theorem take_version (p x : Nat) (xid : Int) (l : List UInt8) (w : World) (hR : Rd w p l 0) (hl : l.length ≤ 65536) (hc : w.cell? ⟨x, 0, none⟩ = some (.int .i64 xid)) (hx : x < w.heap.size) (hxp : x ≠ p)
    (v : Int) (l1 : List UInt8) (e1 : Int) (h1 : numR 4 l 0 = (v, l1, e1)) (hv : v ≠ 2) :
    Calls Tryz.prog 15 #[.pointer (some ⟨p, 0, none⟩), .func (.func 12) #[] #[.pointer (some ⟨x, 0, none⟩)]] w fun r w' => r = Thrown xid 6 2 2 ∧ Fq p w w' := by
  have H1 := Lib.hid h1
  have HR := Lib.hid hR
  have HC := Lib.hid hc
  have hb : (v != 2) = true := by simpa using hv
  clear h1 hR hc hv
  go_enter Tryz.func15, Tryz.ntmps15
  go_wp2_with fail
  refine (ruint_n p l 0 _ (HR.out.alloc _) (by omega) v l1 e1 H1.out).mono ?_
  rintro r w1 ⟨rfl, hR1, hO1⟩
  have HF := Lib.hid (((Fq.refl p w).alloc (.cells #[.int .i64 0, .int .i64 0, .int .i64 0, .int .i64 0, .bool false, .int .i64 0, .string ⟨#[]⟩, .int .i64 0, .int .i64 0, .slice none 0 0, .string ⟨#[]⟩] 26)).trans (Fq.ofOnly hO1))
  have hc1 := HF.out.cell hx hxp HC.out
  clear hR1 hO1
  go_wp2_with fail
  refine (refuse32 x xid 6 2 2 w1 hc1).mono ?_
  rintro r w2 ⟨rfl, rfl⟩
  go_wp2
  exact ⟨rfl, rfl, HF.out⟩
/-- What came of a call's bytes behind its version. -/
inductive Out where
  | bad (v lo hi : Int)
  | ok (unix : Bool) (st : Int) (m : ByteArray) (uid gid : Int) (G : List Int)
/-- The credential: what it tells, or how it is refused. -/
def credO (w6 : Bool) (fl : Int) (ux : Option (Int × ByteArray × Int × Int × List Int)) (empty : Bool) : Out :=
  if w6 = false then .bad 7 1 0 else if 1 < fl then .bad 7 5 0 else if fl = 1 then (match ux with | none => .bad 7 1 0 | some (st, m, uid, gid, G) => .ok true st m uid gid G) else if empty then .ok false 0 ⟨#[]⟩ 0 0 [] else .bad 7 1 0

/-- Behind a credential that isn't refused: the verifier and the arguments. -/
def TkTo (p : Nat) (prog vers proc : Int) (unix : Bool) (st : Int) (m : ByteArray) (uid gid : Int) (G : List Int) (args : ByteArray) (w : World) (r : Ending) (w' : World) : Prop :=
  ∃ vg, r = .returned (.agg #[.int .i64 0, .int .i64 prog, .int .i64 vers, .int .i64 proc, .bool unix, .int .i64 st, .string m, .int .i64 uid, .int .i64 gid, vg, .string args]) ∧ w'.ownsRow 0 3 1 vg G.length (ints G) ∧ (∀ g, vg.ownBlock = some g → w.heap.size ≤ g) ∧ Fq p w w'

theorem left_same' (p : Nat) (l : List UInt8) (e : Int) (w : World) (h : Rd w p l e) : Calls Tryz.prog 35 #[.pointer (some ⟨p, 0, none⟩)] w fun r w' => r = .returned (.int .i64 (l.length : Int)) ∧ w = w' := left_any p l e w h
theorem rfixed_n (p : Nat) (l : List UInt8) (e : Int) (n : Int) (w : World) (h : Rd w p l e) (hl : l.length ≤ 140737488355328) (hn : n ≤ 9223372036854775807) (s : ByteArray) (l' : List UInt8) (e' : Int) (hf : fixR n l e = (s, l', e')) :
    Calls Tryz.prog 36 #[.pointer (some ⟨p, 0, none⟩), .int .i64 n] w fun r w' => r = .returned (.string s) ∧ Rd w' p l' e' ∧ Only p w w' := by
  have := rfixed_any p l e n w h hl hn
  rw [hf] at this
  exact this

set_option maxRecDepth 100000 in
set_option maxHeartbeats 1000000 in
/-- The head of a call is cut short. -/
theorem take_head (p x : Nat) (xid : Int) (l : List UInt8) (w : World) (hR : Rd w p l 0) (hl : l.length ≤ 65536) (hc : w.cell? ⟨x, 0, none⟩ = some (.int .i64 xid)) (hx : x < w.heap.size) (hxp : x ≠ p)
    (l1 : List UInt8) (e1 : Int) (h1 : numR 4 l 0 = (2, l1, e1)) (prog : Int) (l2 : List UInt8) (e2 : Int) (h2 : numR 4 l1 e1 = (prog, l2, e2)) (vers : Int) (l3 : List UInt8) (e3 : Int) (h3 : numR 4 l2 e2 = (vers, l3, e3)) (proc : Int) (l4 : List UInt8) (e4 : Int) (h4 : numR 4 l3 e3 = (proc, l4, e4))
    (hw : wellR l4 e4 = false) :
    Calls Tryz.prog 15 #[.pointer (some ⟨p, 0, none⟩), .func (.func 12) #[] #[.pointer (some ⟨x, 0, none⟩)]] w fun r w' => r = Thrown xid 4 0 0 ∧ Fq p w w' := by
  have n1 := numR_len h1
  have n2 := numR_len h2
  have n3 := numR_len h3
  have H1 := Lib.hid h1
  have H2 := Lib.hid h2
  have H3 := Lib.hid h3
  have H4 := Lib.hid h4
  have HW := Lib.hid hw
  have HR := Lib.hid hR
  have HC := Lib.hid hc
  clear h1 h2 h3 h4 hR hc hw
  go_enter Tryz.func15, Tryz.ntmps15
  go_wp2_with fail
  refine (ruint_n p l 0 _ (HR.out.alloc _) (by omega) 2 l1 e1 H1.out).mono ?_
  rintro r w1 ⟨rfl, hR1, hO1⟩
  have HF1 := Lib.hid (((Fq.refl p w).alloc (.cells #[.int .i64 0, .int .i64 0, .int .i64 0, .int .i64 0, .bool false, .int .i64 0, .string ⟨#[]⟩, .int .i64 0, .int .i64 0, .slice none 0 0, .string ⟨#[]⟩] 26)).trans (Fq.ofOnly hO1))
  have HR1 := Lib.hid hR1
  clear hR1 hO1
  go_wp2_with fail
  refine (ruint_n p l1 e1 w1 HR1.out (by omega) prog l2 e2 H2.out).mono ?_
  rintro r w2 ⟨rfl, hR2, hO2⟩
  have HF2 := Lib.hid (HF1.out.trans (Fq.ofOnly hO2))
  have HR2 := Lib.hid hR2
  clear hR2 hO2
  go_wp2_with fail
  refine (ruint_n p l2 e2 w2 HR2.out (by omega) vers l3 e3 H3.out).mono ?_
  rintro r w3 ⟨rfl, hR3, hO3⟩
  have HF3 := Lib.hid (HF2.out.trans (Fq.ofOnly hO3))
  have HR3 := Lib.hid hR3
  clear hR3 hO3
  go_wp2_with fail
  refine (ruint_n p l3 e3 w3 HR3.out (by omega) proc l4 e4 H4.out).mono ?_
  rintro r w4 ⟨rfl, hR4, hO4⟩
  have HF4 := Lib.hid (HF3.out.trans (Fq.ofOnly hO4))
  have HR4 := Lib.hid hR4
  clear hR4 hO4
  go_wp2_with fail
  refine (well_any p l4 e4 _ (HR4.out.alloc _) false HW.out).mono ?_
  rintro r w' ⟨rfl, rfl⟩
  have HF5 := Lib.hid (HF4.out.alloc (.cells #[.int .i64 0, .int .i64 prog, .int .i64 vers, .int .i64 proc, .bool false, .int .i64 0, .string ⟨#[]⟩, .int .i64 0, .int .i64 0, .slice none 0 0, .string ⟨#[]⟩] 26))
  have hc5 := HF5.out.cell hx hxp HC.out
  go_wp2_with fail
  refine (refuse32 x xid 4 0 0 _ hc5).mono ?_
  rintro r w' ⟨rfl, rfl⟩
  go_wp2
  exact ⟨rfl, rfl, HF5.out⟩
end Go.Proofs.YtihkjgfghjgblaaGreatDoor.R
namespace Go.Proofs.YtihkjgfghjgblaaGreatDoor.R
open Go.RowKit

set_option maxRecDepth 100000 in
set_option maxHeartbeats 1000000 in
/-- The credential can't be taken. -/
theorem take_short (p x : Nat) (xid : Int) (l : List UInt8) (w : World) (hR : Rd w p l 0) (hl : l.length ≤ 65536) (hc : w.cell? ⟨x, 0, none⟩ = some (.int .i64 xid)) (hx : x < w.heap.size) (hxp : x ≠ p)
    (l1 : List UInt8) (e1 : Int) (h1 : numR 4 l 0 = (2, l1, e1)) (prog : Int) (l2 : List UInt8) (e2 : Int) (h2 : numR 4 l1 e1 = (prog, l2, e2)) (vers : Int) (l3 : List UInt8) (e3 : Int) (h3 : numR 4 l2 e2 = (vers, l3, e3)) (proc : Int) (l4 : List UInt8) (e4 : Int) (h4 : numR 4 l3 e3 = (proc, l4, e4))
    (hw : wellR l4 e4 = true) (fl : Int) (l5 : List UInt8) (e5 : Int) (h5 : numR 4 l4 e4 = (fl, l5, e5)) (body : ByteArray) (l6 : List UInt8) (e6 : Int) (h6 : opqR 400 l5 e5 = (body, l6, e6))
    (hw6 : wellR l6 e6 = false) :
    Calls Tryz.prog 15 #[.pointer (some ⟨p, 0, none⟩), .func (.func 12) #[] #[.pointer (some ⟨x, 0, none⟩)]] w fun r w' => r = Thrown xid 7 1 0 ∧ Fq p w w' := by
  have HW6 := Lib.hid hw6
  clear hw6
  have n1 := numR_len h1
  have n2 := numR_len h2
  have n3 := numR_len h3
  have n4 := numR_len h4
  have n5 := numR_len h5
  have n6 := opqR_len h6
  have H1 := Lib.hid h1
  have H2 := Lib.hid h2
  have H3 := Lib.hid h3
  have H4 := Lib.hid h4
  have H5 := Lib.hid h5
  have H6 := Lib.hid h6
  have HW := Lib.hid hw
  have HR := Lib.hid hR
  have HC := Lib.hid hc
  clear h1 h2 h3 h4 h5 h6 hR hc hw
  go_enter Tryz.func15, Tryz.ntmps15
  go_wp2_with fail
  refine (ruint_n p l 0 _ (HR.out.alloc _) (by omega) 2 l1 e1 H1.out).mono ?_
  rintro r w1 ⟨rfl, hR1, hO1⟩
  have HF1 := Lib.hid (((Fq.refl p w).alloc (.cells #[.int .i64 0, .int .i64 0, .int .i64 0, .int .i64 0, .bool false, .int .i64 0, .string ⟨#[]⟩, .int .i64 0, .int .i64 0, .slice none 0 0, .string ⟨#[]⟩] 26)).trans (Fq.ofOnly hO1))
  have HR1 := Lib.hid hR1
  clear hR1 hO1
  go_wp2_with fail
  refine (ruint_n p l1 e1 w1 HR1.out (by omega) prog l2 e2 H2.out).mono ?_
  rintro r w2 ⟨rfl, hR2, hO2⟩
  have HF2 := Lib.hid (HF1.out.trans (Fq.ofOnly hO2))
  have HR2 := Lib.hid hR2
  clear hR2 hO2
  go_wp2_with fail
  refine (ruint_n p l2 e2 w2 HR2.out (by omega) vers l3 e3 H3.out).mono ?_
  rintro r w3 ⟨rfl, hR3, hO3⟩
  have HF3 := Lib.hid (HF2.out.trans (Fq.ofOnly hO3))
  have HR3 := Lib.hid hR3
  clear hR3 hO3
  go_wp2_with fail
  refine (ruint_n p l3 e3 w3 HR3.out (by omega) proc l4 e4 H4.out).mono ?_
  rintro r w4 ⟨rfl, hR4, hO4⟩
  have HF4 := Lib.hid (HF3.out.trans (Fq.ofOnly hO4))
  have HR4 := Lib.hid hR4
  clear hR4 hO4
  go_wp2_with fail
  refine (well_any p l4 e4 _ (HR4.out.alloc _) true HW.out).mono ?_
  rintro r w' ⟨rfl, rfl⟩
  have HF5 := Lib.hid (HF4.out.alloc (.cells #[.int .i64 0, .int .i64 prog, .int .i64 vers, .int .i64 proc, .bool false, .int .i64 0, .string ⟨#[]⟩, .int .i64 0, .int .i64 0, .slice none 0 0, .string ⟨#[]⟩] 26))
  have hC5 : CAt (w4.alloc (.cells #[.int .i64 0, .int .i64 prog, .int .i64 vers, .int .i64 proc, .bool false, .int .i64 0, .string ⟨#[]⟩, .int .i64 0, .int .i64 0, .slice none 0 0, .string ⟨#[]⟩] 26)) w4.heap.size 0 prog vers proc false 0 ⟨#[]⟩ 0 0 (.slice none 0 0) ⟨#[]⟩ := heap_alloc_new w4 _
  have HR5 := Lib.hid (HR4.out.alloc (.cells #[.int .i64 0, .int .i64 prog, .int .i64 vers, .int .i64 proc, .bool false, .int .i64 0, .string ⟨#[]⟩, .int .i64 0, .int .i64 0, .slice none 0 0, .string ⟨#[]⟩] 26))
  obtain ⟨B, hB⟩ : ∃ B, B = w4.heap.size := ⟨_, rfl⟩
  rw [← hB] at hC5 ⊢
  have hBp : B ≠ p := by have := HR4.out.lt; omega
  have hBw : w.heap.size ≤ B := by have := HF4.out.size; omega
  have HC5 := Lib.hid hC5
  clear hC5 hB HR4 HF4
  generalize w4.alloc (.cells #[.int .i64 0, .int .i64 prog, .int .i64 vers, .int .i64 proc, .bool false, .int .i64 0, .string ⟨#[]⟩, .int .i64 0, .int .i64 0, .slice none 0 0, .string ⟨#[]⟩] 26) = W5 at *
  go_wp2_with fail
  refine (ruint_n p l4 e4 W5 HR5.out (by omega) fl l5 e5 H5.out).mono ?_
  rintro r w6 ⟨rfl, hR6, hO6⟩
  have HR6 := Lib.hid hR6
  have HC6 := Lib.hid (HC5.out.only hO6 hBp)
  have HF6 := Lib.hid (HF5.out.trans (Fq.ofOnly hO6))
  clear hR6 hO6 HR5 HC5 HF5
  go_wp2_with fail
  refine (ropaque_n p l5 e5 400 w6 HR6.out (by omega) body l6 e6 H6.out).mono ?_
  rintro r w7 ⟨rfl, hR7, hO7⟩
  have HR7 := Lib.hid hR7
  have HC7 := Lib.hid (HC6.out.only hO7 hBp)
  have HF7 := Lib.hid (HF6.out.trans (Fq.ofOnly hO7))
  have hc7 := HF7.out.cell hx hxp HC.out
  clear hR7 hO7 HR6 HC6 HF6
  go_wp2_with fail
  refine (well_any p l6 e6 w7 HR7.out false HW6.out).mono ?_
  rintro r w' ⟨rfl, rfl⟩
  go_wp2_with fail
  refine (refuse32 x xid 7 1 0 w7 hc7).mono ?_
  rintro r w' ⟨rfl, rfl⟩
  go_wp2
  exact ⟨rfl, rfl, HF7.out⟩

set_option maxRecDepth 100000 in
set_option maxHeartbeats 1000000 in
/-- A credential of another kind. -/
theorem take_weak (p x : Nat) (xid : Int) (l : List UInt8) (w : World) (hR : Rd w p l 0) (hl : l.length ≤ 65536) (hc : w.cell? ⟨x, 0, none⟩ = some (.int .i64 xid)) (hx : x < w.heap.size) (hxp : x ≠ p)
    (l1 : List UInt8) (e1 : Int) (h1 : numR 4 l 0 = (2, l1, e1)) (prog : Int) (l2 : List UInt8) (e2 : Int) (h2 : numR 4 l1 e1 = (prog, l2, e2)) (vers : Int) (l3 : List UInt8) (e3 : Int) (h3 : numR 4 l2 e2 = (vers, l3, e3)) (proc : Int) (l4 : List UInt8) (e4 : Int) (h4 : numR 4 l3 e3 = (proc, l4, e4))
    (hw : wellR l4 e4 = true) (fl : Int) (l5 : List UInt8) (e5 : Int) (h5 : numR 4 l4 e4 = (fl, l5, e5)) (body : ByteArray) (l6 : List UInt8) (e6 : Int) (h6 : opqR 400 l5 e5 = (body, l6, e6))
    (hw6 : wellR l6 e6 = true) (hf : 1 < fl) :
    Calls Tryz.prog 15 #[.pointer (some ⟨p, 0, none⟩), .func (.func 12) #[] #[.pointer (some ⟨x, 0, none⟩)]] w fun r w' => r = Thrown xid 7 5 0 ∧ Fq p w w' := by
  have HW6 := Lib.hid hw6
  clear hw6
  have n1 := numR_len h1
  have n2 := numR_len h2
  have n3 := numR_len h3
  have n4 := numR_len h4
  have n5 := numR_len h5
  have n6 := opqR_len h6
  have H1 := Lib.hid h1
  have H2 := Lib.hid h2
  have H3 := Lib.hid h3
  have H4 := Lib.hid h4
  have H5 := Lib.hid h5
  have H6 := Lib.hid h6
  have HW := Lib.hid hw
  have HR := Lib.hid hR
  have HC := Lib.hid hc
  clear h1 h2 h3 h4 h5 h6 hR hc hw
  go_enter Tryz.func15, Tryz.ntmps15
  go_wp2_with fail
  refine (ruint_n p l 0 _ (HR.out.alloc _) (by omega) 2 l1 e1 H1.out).mono ?_
  rintro r w1 ⟨rfl, hR1, hO1⟩
  have HF1 := Lib.hid (((Fq.refl p w).alloc (.cells #[.int .i64 0, .int .i64 0, .int .i64 0, .int .i64 0, .bool false, .int .i64 0, .string ⟨#[]⟩, .int .i64 0, .int .i64 0, .slice none 0 0, .string ⟨#[]⟩] 26)).trans (Fq.ofOnly hO1))
  have HR1 := Lib.hid hR1
  clear hR1 hO1
  go_wp2_with fail
  refine (ruint_n p l1 e1 w1 HR1.out (by omega) prog l2 e2 H2.out).mono ?_
  rintro r w2 ⟨rfl, hR2, hO2⟩
  have HF2 := Lib.hid (HF1.out.trans (Fq.ofOnly hO2))
  have HR2 := Lib.hid hR2
  clear hR2 hO2
  go_wp2_with fail
  refine (ruint_n p l2 e2 w2 HR2.out (by omega) vers l3 e3 H3.out).mono ?_
  rintro r w3 ⟨rfl, hR3, hO3⟩
  have HF3 := Lib.hid (HF2.out.trans (Fq.ofOnly hO3))
  have HR3 := Lib.hid hR3
  clear hR3 hO3
  go_wp2_with fail
  refine (ruint_n p l3 e3 w3 HR3.out (by omega) proc l4 e4 H4.out).mono ?_
  rintro r w4 ⟨rfl, hR4, hO4⟩
  have HF4 := Lib.hid (HF3.out.trans (Fq.ofOnly hO4))
  have HR4 := Lib.hid hR4
  clear hR4 hO4
  go_wp2_with fail
  refine (well_any p l4 e4 _ (HR4.out.alloc _) true HW.out).mono ?_
  rintro r w' ⟨rfl, rfl⟩
  have HF5 := Lib.hid (HF4.out.alloc (.cells #[.int .i64 0, .int .i64 prog, .int .i64 vers, .int .i64 proc, .bool false, .int .i64 0, .string ⟨#[]⟩, .int .i64 0, .int .i64 0, .slice none 0 0, .string ⟨#[]⟩] 26))
  have hC5 : CAt (w4.alloc (.cells #[.int .i64 0, .int .i64 prog, .int .i64 vers, .int .i64 proc, .bool false, .int .i64 0, .string ⟨#[]⟩, .int .i64 0, .int .i64 0, .slice none 0 0, .string ⟨#[]⟩] 26)) w4.heap.size 0 prog vers proc false 0 ⟨#[]⟩ 0 0 (.slice none 0 0) ⟨#[]⟩ := heap_alloc_new w4 _
  have HR5 := Lib.hid (HR4.out.alloc (.cells #[.int .i64 0, .int .i64 prog, .int .i64 vers, .int .i64 proc, .bool false, .int .i64 0, .string ⟨#[]⟩, .int .i64 0, .int .i64 0, .slice none 0 0, .string ⟨#[]⟩] 26))
  obtain ⟨B, hB⟩ : ∃ B, B = w4.heap.size := ⟨_, rfl⟩
  rw [← hB] at hC5 ⊢
  have hBp : B ≠ p := by have := HR4.out.lt; omega
  have hBw : w.heap.size ≤ B := by have := HF4.out.size; omega
  have HC5 := Lib.hid hC5
  clear hC5 hB HR4 HF4
  generalize w4.alloc (.cells #[.int .i64 0, .int .i64 prog, .int .i64 vers, .int .i64 proc, .bool false, .int .i64 0, .string ⟨#[]⟩, .int .i64 0, .int .i64 0, .slice none 0 0, .string ⟨#[]⟩] 26) = W5 at *
  go_wp2_with fail
  refine (ruint_n p l4 e4 W5 HR5.out (by omega) fl l5 e5 H5.out).mono ?_
  rintro r w6 ⟨rfl, hR6, hO6⟩
  have HR6 := Lib.hid hR6
  have HC6 := Lib.hid (HC5.out.only hO6 hBp)
  have HF6 := Lib.hid (HF5.out.trans (Fq.ofOnly hO6))
  clear hR6 hO6 HR5 HC5 HF5
  go_wp2_with fail
  refine (ropaque_n p l5 e5 400 w6 HR6.out (by omega) body l6 e6 H6.out).mono ?_
  rintro r w7 ⟨rfl, hR7, hO7⟩
  have HR7 := Lib.hid hR7
  have HC7 := Lib.hid (HC6.out.only hO7 hBp)
  have HF7 := Lib.hid (HF6.out.trans (Fq.ofOnly hO7))
  have hc7 := HF7.out.cell hx hxp HC.out
  clear hR7 hO7 HR6 HC6 HF6
  go_wp2_with fail
  refine (well_any p l6 e6 w7 HR7.out true HW6.out).mono ?_
  rintro r w' ⟨rfl, rfl⟩
  go_wp2_with fail
  refine (refuse32 x xid 7 5 0 w7 hc7).mono ?_
  rintro r w' ⟨rfl, rfl⟩
  go_wp2
  exact ⟨rfl, rfl, HF7.out⟩

set_option maxRecDepth 100000 in
set_option maxHeartbeats 1000000 in
/-- AUTH_NONE with bytes. -/
theorem take_full (p x : Nat) (xid : Int) (l : List UInt8) (w : World) (hR : Rd w p l 0) (hl : l.length ≤ 65536) (hc : w.cell? ⟨x, 0, none⟩ = some (.int .i64 xid)) (hx : x < w.heap.size) (hxp : x ≠ p)
    (l1 : List UInt8) (e1 : Int) (h1 : numR 4 l 0 = (2, l1, e1)) (prog : Int) (l2 : List UInt8) (e2 : Int) (h2 : numR 4 l1 e1 = (prog, l2, e2)) (vers : Int) (l3 : List UInt8) (e3 : Int) (h3 : numR 4 l2 e2 = (vers, l3, e3)) (proc : Int) (l4 : List UInt8) (e4 : Int) (h4 : numR 4 l3 e3 = (proc, l4, e4))
    (hw : wellR l4 e4 = true) (fl : Int) (l5 : List UInt8) (e5 : Int) (h5 : numR 4 l4 e4 = (fl, l5, e5)) (body : ByteArray) (l6 : List UInt8) (e6 : Int) (h6 : opqR 400 l5 e5 = (body, l6, e6))
    (hw6 : wellR l6 e6 = true) (hf : fl = 0) (hb : (body.toList.isEmpty) = false) :
    Calls Tryz.prog 15 #[.pointer (some ⟨p, 0, none⟩), .func (.func 12) #[] #[.pointer (some ⟨x, 0, none⟩)]] w fun r w' => r = Thrown xid 7 1 0 ∧ Fq p w w' := by
  have HW6 := Lib.hid hw6
  have f0 : (fl == 0) = true := by simp [hf]
  have f1 : (fl == 1) = false := by simp [hf]
  have f2 : ¬ 1 < fl := by omega
  have hb2 : (!body.toList.isEmpty) = true := by rw [hb]; rfl
  clear hw6 hf
  have n1 := numR_len h1
  have n2 := numR_len h2
  have n3 := numR_len h3
  have n4 := numR_len h4
  have n5 := numR_len h5
  have n6 := opqR_len h6
  have H1 := Lib.hid h1
  have H2 := Lib.hid h2
  have H3 := Lib.hid h3
  have H4 := Lib.hid h4
  have H5 := Lib.hid h5
  have H6 := Lib.hid h6
  have HW := Lib.hid hw
  have HR := Lib.hid hR
  have HC := Lib.hid hc
  clear h1 h2 h3 h4 h5 h6 hR hc hw
  go_enter Tryz.func15, Tryz.ntmps15
  go_wp2_with fail
  refine (ruint_n p l 0 _ (HR.out.alloc _) (by omega) 2 l1 e1 H1.out).mono ?_
  rintro r w1 ⟨rfl, hR1, hO1⟩
  have HF1 := Lib.hid (((Fq.refl p w).alloc (.cells #[.int .i64 0, .int .i64 0, .int .i64 0, .int .i64 0, .bool false, .int .i64 0, .string ⟨#[]⟩, .int .i64 0, .int .i64 0, .slice none 0 0, .string ⟨#[]⟩] 26)).trans (Fq.ofOnly hO1))
  have HR1 := Lib.hid hR1
  clear hR1 hO1
  go_wp2_with fail
  refine (ruint_n p l1 e1 w1 HR1.out (by omega) prog l2 e2 H2.out).mono ?_
  rintro r w2 ⟨rfl, hR2, hO2⟩
  have HF2 := Lib.hid (HF1.out.trans (Fq.ofOnly hO2))
  have HR2 := Lib.hid hR2
  clear hR2 hO2
  go_wp2_with fail
  refine (ruint_n p l2 e2 w2 HR2.out (by omega) vers l3 e3 H3.out).mono ?_
  rintro r w3 ⟨rfl, hR3, hO3⟩
  have HF3 := Lib.hid (HF2.out.trans (Fq.ofOnly hO3))
  have HR3 := Lib.hid hR3
  clear hR3 hO3
  go_wp2_with fail
  refine (ruint_n p l3 e3 w3 HR3.out (by omega) proc l4 e4 H4.out).mono ?_
  rintro r w4 ⟨rfl, hR4, hO4⟩
  have HF4 := Lib.hid (HF3.out.trans (Fq.ofOnly hO4))
  have HR4 := Lib.hid hR4
  clear hR4 hO4
  go_wp2_with fail
  refine (well_any p l4 e4 _ (HR4.out.alloc _) true HW.out).mono ?_
  rintro r w' ⟨rfl, rfl⟩
  have HF5 := Lib.hid (HF4.out.alloc (.cells #[.int .i64 0, .int .i64 prog, .int .i64 vers, .int .i64 proc, .bool false, .int .i64 0, .string ⟨#[]⟩, .int .i64 0, .int .i64 0, .slice none 0 0, .string ⟨#[]⟩] 26))
  have hC5 : CAt (w4.alloc (.cells #[.int .i64 0, .int .i64 prog, .int .i64 vers, .int .i64 proc, .bool false, .int .i64 0, .string ⟨#[]⟩, .int .i64 0, .int .i64 0, .slice none 0 0, .string ⟨#[]⟩] 26)) w4.heap.size 0 prog vers proc false 0 ⟨#[]⟩ 0 0 (.slice none 0 0) ⟨#[]⟩ := heap_alloc_new w4 _
  have HR5 := Lib.hid (HR4.out.alloc (.cells #[.int .i64 0, .int .i64 prog, .int .i64 vers, .int .i64 proc, .bool false, .int .i64 0, .string ⟨#[]⟩, .int .i64 0, .int .i64 0, .slice none 0 0, .string ⟨#[]⟩] 26))
  obtain ⟨B, hB⟩ : ∃ B, B = w4.heap.size := ⟨_, rfl⟩
  rw [← hB] at hC5 ⊢
  have hBp : B ≠ p := by have := HR4.out.lt; omega
  have hBw : w.heap.size ≤ B := by have := HF4.out.size; omega
  have HC5 := Lib.hid hC5
  clear hC5 hB HR4 HF4
  generalize w4.alloc (.cells #[.int .i64 0, .int .i64 prog, .int .i64 vers, .int .i64 proc, .bool false, .int .i64 0, .string ⟨#[]⟩, .int .i64 0, .int .i64 0, .slice none 0 0, .string ⟨#[]⟩] 26) = W5 at *
  go_wp2_with fail
  refine (ruint_n p l4 e4 W5 HR5.out (by omega) fl l5 e5 H5.out).mono ?_
  rintro r w6 ⟨rfl, hR6, hO6⟩
  have HR6 := Lib.hid hR6
  have HC6 := Lib.hid (HC5.out.only hO6 hBp)
  have HF6 := Lib.hid (HF5.out.trans (Fq.ofOnly hO6))
  clear hR6 hO6 HR5 HC5 HF5
  go_wp2_with fail
  refine (ropaque_n p l5 e5 400 w6 HR6.out (by omega) body l6 e6 H6.out).mono ?_
  rintro r w7 ⟨rfl, hR7, hO7⟩
  have HR7 := Lib.hid hR7
  have HC7 := Lib.hid (HC6.out.only hO7 hBp)
  have HF7 := Lib.hid (HF6.out.trans (Fq.ofOnly hO7))
  have hc7 := HF7.out.cell hx hxp HC.out
  clear hR7 hO7 HR6 HC6 HF6
  go_wp2_with fail
  refine (well_any p l6 e6 w7 HR7.out true HW6.out).mono ?_
  rintro r w' ⟨rfl, rfl⟩
  go_wp2_with fail
  refine (refuse32 x xid 7 1 0 w7 hc7).mono ?_
  rintro r w' ⟨rfl, rfl⟩
  go_wp2
  exact ⟨rfl, rfl, HF7.out⟩

end Go.Proofs.YtihkjgfghjgblaaGreatDoor.R
