/-
  The document's layer in memory, and its small calls: put, number, text. Their conditions: there is room; what is laid out lies in memory.
-/
import Derived.Test.YtjogcdkebplcpaaGreatDoorEn
import Derived.Test.YtjogcdkebplcpaaGreatDoorXRs
import Derived.Deep.DeepCutAuto
namespace Go.Proofs.YtjogcdkebplcpaaGreatDoor
open Go.RowKit Sch

/-- The layer in block q: where it stands in the numbers and the texts, the bytes, how many in all, whether something didn't fit. -/
structure LB (B0 q : Nat) (vN vT : Value) (i j : Nat) (b : List UInt8) (vO : Value) (sz : Nat) (bad : Bool) (w : World) : Prop where
  box : w.heap[q]? = some (.cells #[vN, vT, .int .i64 i, .int .i64 j, vO, .int .i64 sz, .bool bad] 56 (0, 0))
  out : w.ownsRow 0 5 1 vO b.length (X.cellsOf b)
  own : ∀ k, vO.ownBlock = some k → B0 ≤ k
  hq : B0 ≤ q
  len : b.length ≤ sz
section
variable {B0 q : Nat} {vN vT : Value} {i j : Nat} {b : List UInt8} {vO : Value} {sz : Nat} {bad : Bool} {w w' : World}
theorem LB.cells (h : LB B0 q vN vT i j b vO sz bad w) : w.cell? ⟨q, 0, none⟩ = some vN ∧ w.cell? ⟨q, 1, none⟩ = some vT ∧ w.cell? ⟨q, 2, none⟩ = some (.int .i64 i) ∧ w.cell? ⟨q, 3, none⟩ = some (.int .i64 j) ∧ w.cell? ⟨q, 4, none⟩ = some vO ∧ w.cell? ⟨q, 5, none⟩ = some (.int .i64 sz) ∧ w.cell? ⟨q, 6, none⟩ = some (.bool bad) := by
  refine ⟨?_, ?_, ?_, ?_, ?_, ?_, ?_⟩ <;> (rw [cell_of_row w q _ _ _ _ h.box]; rfl)
theorem LB.free (h : LB B0 q vN vT i j b vO sz bad w) (k : Nat) : w.frozen? ⟨q, k, none⟩ = false := Lib.frozen_of_heap h.box _
theorem LB.lt (h : LB B0 q vN vT i j b vO sz bad w) : q < w.heap.size := (Array.getElem?_eq_some_iff.1 h.box).1
theorem LB.ne (h : LB B0 q vN vT i j b vO sz bad w) : some q ≠ vO.ownBlock := by
  intro e
  obtain ⟨_, cur, hc⟩ := ownsB_type h.out e.symm
  exact absurd (blk_type h.box hc) (by decide)
/-- A cell of the layer turned. -/
theorem LB.set (h : LB B0 q vN vT i j b vO sz bad w) (k : Nat) (u : Value) {i' j' sz' : Nat} {bad' : Bool} (hc : (#[vN, vT, .int .i64 i, .int .i64 j, vO, .int .i64 sz, .bool bad] : Array Value).setIfInBounds k u = #[vN, vT, .int .i64 i', .int .i64 j', vO, .int .i64 sz', .bool bad']) (hs : b.length ≤ sz') :
    LB B0 q vN vT i' j' b vO sz' bad' (w.setCell ⟨q, k, none⟩ u) ∧ Below B0 w (w.setCell ⟨q, k, none⟩ u) := by
  refine ⟨⟨?_, ?_, h.own, h.hq, hs⟩, (Below.refl B0 w).setCell (p := ⟨q, k, none⟩) h.hq u⟩
  · simp only [World.setCell, Array.getElem?_modify, h.box, if_true, Option.map_some]
    rw [hc]
    rfl
  · refine ownsB_kept h.out fun k' e => Below.heap_setCell _ _ _ _ fun e' => ?_
    exact h.ne (by rw [e]; exact congrArg some e'.symm)
theorem LB.heap (h : LB B0 q vN vT i j b vO sz bad w) (hh : w'.heap = w.heap) : LB B0 q vN vT i j b vO sz bad w' := ⟨by rw [hh]; exact h.box, ownsB_kept h.out fun k _ => by rw [hh], h.own, h.hq, h.len⟩
theorem LB.news (h : LB B0 q vN vT i j b vO sz bad w) (hb : Below w.heap.size w w') : LB B0 q vN vT i j b vO sz bad w' :=
  ⟨(hb.block q h.lt).trans h.box, ownsB_kept h.out fun k e => by obtain ⟨_, cur, hc⟩ := ownsB_type h.out e; exact hb.block k (Array.getElem?_eq_some_iff.1 hc).1, h.own, h.hq, h.len⟩
end
theorem info5' : (Tryz.prog.info? 5).map (fun i => (i.zero, i.size, i.bytes)) = some (some (.int .u8 0), 1, 1) := by kernel_rfl
set_option maxRecDepth 100000 in
set_option maxHeartbeats 2000000 in
theorem lput_any (B0 q : Nat) (vN vT : Value) (i j : Nat) (b : List UInt8) (vO : Value) (sz : Nat) (bad : Bool) (s : ByteArray) (w : World) (h : LB B0 q vN vT i j b vO sz bad w) (hs : sz + s.size ≤ 1000000000000000) :
    Calls Tryz.prog 38 #[.pointer (some ⟨q, 0, none⟩), .string s] w fun e w' => e = .returned (.tuple #[]) ∧ Below B0 w w' ∧ ∃ vO', LB B0 q vN vT i j (if sz + s.size ≤ 65536 then b ++ s.data.toList else b) vO' (sz + s.size) bad w' := by
  obtain ⟨i0, hi, hz0, hz1, hz2⟩ := info_parts info5'
  obtain ⟨c0, c1, c2, c3, c4, c5, c6⟩ := h.cells
  have f5 := h.free 5
  have hlen := h.len
  have hset := h.set 5 (.int .i64 ((sz : Int) + s.size)) (i' := i) (j' := j) (sz' := sz + s.size) (bad' := bad) (by simp) (by omega)
  have f4 := h.free 4
  have hpl := h.lt
  by_cases hle : sz + s.size ≤ 65536
  · rw [if_pos hle]
    have HS := Lib.hid hset
    have hne := h.ne
    have hcs : (w.setCell ⟨q, 5, none⟩ (.int .i64 ((sz : Int) + s.size))).cell? ⟨q, 4, none⟩ = some vO := hset.1.cells.2.2.2.2.1
    have hfs : (w.setCell ⟨q, 5, none⟩ (.int .i64 ((sz : Int) + s.size))).frozen? ⟨q, 4, none⟩ = false := hset.1.free 4
    have hls : q < (w.setCell ⟨q, 5, none⟩ (.int .i64 ((sz : Int) + s.size))).heap.size := hset.1.lt
    clear hset c0 c1 c2 c3 c6 h
    go_enter Tryz.func38, Tryz.ntmps38
    go_wp2_with (at_builtin; refine X.wpList_append_str_at _ rfl (.tmp 22) (.tmp 23) 54 9 rfl 5 i0 Tryz.underlying54 Tryz.underlying9 hi hz0 hz1 hz2 vO b.length _ rfl HS.out.1.out s rfl (by omega) ?_; intro ao cap w2 hown2 hgrow hat; have hc2 : w2.cell? ⟨q, 4, none⟩ = some vO := (hgrow.cell_far _ hls hne).trans hcs; have hf2 : w2.frozen? ⟨q, 4, none⟩ = false := (hgrow.frozen_far _ hls hne).trans hfs)
    go_end0
    have hbx : w2.heap[q]? = some (.cells #[vN, vT, .int .i64 i, .int .i64 j, vO, .int .i64 (sz + s.size : Nat), .bool bad] 56 (0, 0)) := (hgrow.block q hls hne).trans HS.out.1.box
    have hown := HS.out.1.own
    have hq := HS.out.1.hq
    have hab : ∀ k, Value.ownBlock (.slice ao (b.length + s.size) cap) = some k → B0 ≤ k := by
      intro k hk
      rcases hat with e | ⟨g, e, hg⟩
      · exact hown k (e ▸ hk)
      · rw [e] at hk
        have : g = k := by simpa using hk
        omega
    have hqn : ∀ k, Value.ownBlock (.slice ao (b.length + s.size) cap) = some k → k ≠ q := by
      intro k hk e
      subst e
      obtain ⟨_, cur, hc⟩ := ownsB_type hown2 hk
      exact absurd (blk_type hbx hc) (by decide)
    refine ⟨rfl, ?_, .slice ao (b.length + s.size) cap, ?_, ?_, hab, hq, ?_⟩
    · exact HS.out.2.trans (Below.setCell ⟨hgrow.os, hgrow.tape, hgrow.output, hgrow.size, fun k hk => hgrow.block k (by omega) (fun e => by have := hown k e.symm; omega)⟩ (p := ⟨q, 4, none⟩) hq _)
    · simp only [World.setCell, Array.getElem?_modify, hbx, if_true, Option.map_some]
      rfl
    · have hl : (b ++ s.data.toList).length = b.length + s.size := by rw [List.length_append, X.dat_len]
      rw [hl, X.cellsOf_append]
      exact ownsB_kept hown2 fun k e => Below.heap_setCell _ _ _ _ (hqn k e)
    · rw [List.length_append, X.dat_len]; omega
  · rw [if_neg hle]
    have HS := Lib.hid hset
    clear hset c0 c1 c2 c3 c4 c6 h f4
    go_enter Tryz.func38, Tryz.ntmps38
    go_wp2
    go_end0
    exact ⟨rfl, HS.out.2, vO, HS.out.1⟩
end Go.Proofs.YtjogcdkebplcpaaGreatDoor
