/-
  What the calls of a Writer put. Their conditions: a writer, room.
-/
import Derived.Test.YtjogcdkebplcpaaGreatDoorYNum
namespace Go.Proofs.YtjogcdkebplcpaaGreatDoor.Y
open Go.RowKit
variable {T : Nat} {R : List Value}
theorem ret_int {k : IntKind} {a b : Int} (h : a = b) : Ending.returned (.int k a) = .returned (.int k b) := by rw [h]
set_option maxHeartbeats 400000 in
theorem noughts_any (n : Nat) (w : World) (h : n ≤ 9223372036854775807) :
    Calls Tryz.prog 82 #[.int .i64 n] w fun e w' => e = .returned (.int .i64 ((pad n : Nat) : Int)) ∧ w = w' := by
  go_enter Tryz.func82, Tryz.ntmps82
  go_wp2
  go_ret
  exact ⟨ret_int (and_three n h), rfl⟩
set_option maxHeartbeats 400000 in
theorem bytes_any (p : Nat) (v : Value) (l : List UInt8) (w : World) (hW : Wr T R w p v l) :
    Calls Tryz.prog 37 #[.pointer (some ⟨p, 0, none⟩)] w fun e w' => e = .returned (.string ⟨l.toArray⟩) ∧ w = w' := by
  have hc := hW.cell
  have hr := hW.string (P := Tryz.prog) 54 9 Tryz.underlying54 Tryz.underlying5 Tryz.underlying9
  go_enter Tryz.func37, Tryz.ntmps37
  go_wp2
  go_ret
  exact ⟨rfl, rfl⟩

/-- The bytes of a text, with their noughts. -/
def fixedOf (s : ByteArray) : List UInt8 := s.data.toList ++ List.replicate (pad s.size) 0
def opaqueOf (s : ByteArray) : List UInt8 := numBytes (s.size : Int) 4 ++ fixedOf s
theorem strCells_cellsOf (s : ByteArray) : Lib.strCells s = cellsOf s.data.toList := rfl

set_option maxRecDepth 100000 in
set_option maxHeartbeats 1000000 in
theorem fixed_any (p : Nat) (v : Value) (l : List UInt8) (s : ByteArray) (w : World) (hW : Wr T R w p v l) (hb : l.length + s.size + 4 ≤ 140737488355328) :
    Calls Tryz.prog 70 #[.pointer (some ⟨p, 0, none⟩), .string s] w fun e w' => e = .returned (.tuple #[]) ∧ WrTo T R w p v (l ++ fixedOf s) w' := by
  obtain ⟨i0, hi, hz0, hz1, hz2⟩ := info_parts Tryz.info5
  have hc := hW.cell
  have hf := hW.free
  have hne := hW.ne
  have hpl := hW.lt
  have hpad : pad s.size < 4 := Nat.mod_lt _ (by omega)
  go_enter Tryz.func70, Tryz.ntmps70
  go_wp2_with (first
    | (at_builtin; refine wpList_append_str_at _ rfl (.tmp 10) (.tmp 11) 54 9 rfl 5 i0 Tryz.underlying54 Tryz.underlying9 hi hz0 hz1 hz2 v l.length _ rfl hW.2 s rfl (by omega) ?_; intro ao cap w1 hown1 hgrow hat; have hc1 : w1.cell? ⟨p, 0, none⟩ = some v := (hgrow.cell_far _ hpl hne).trans hc; have hf1 : w1.frozen? ⟨p, 0, none⟩ = false := (hgrow.frozen_far _ hpl hne).trans hf)
    | (go_at_call 82; refine (noughts_any _ _ (by omega)).mono ?_; rintro e w' ⟨rfl, rfl⟩))
  have H1 : WrTo T R w p v (l ++ s.data.toList) (w1.setCell ⟨p, 0, none⟩ (.slice ao (l.length + s.size) cap)) :=
    Wr.put hW ⟨rfl, rfl, rfl, Nat.le_refl _, fun _ _ _ => rfl⟩ hgrow hat (l.length + s.size) (by rw [Array.length_toList]; rfl) hown1
  have HH := Lib.hid H1
  clear H1 hown1 hgrow hat hc1 hf1 hc hf hne hpl
  go_loopw [18] (fun i wr => ∃ k : Nat, k ≤ pad s.size ∧ i = .int .i64 k ∧ WrTo T R w p v (l ++ s.data.toList ++ List.replicate k 0) wr) (fun i _ => pad s.size - (intOf i).toNat)
  case atStart => exact ⟨0, Nat.zero_le _, rfl, by simpa using HH.out⟩
  case round =>
    obtain ⟨k, hk, rfl, v1, hW1, hC1⟩ := hrel
    have HC := Lib.hid hC1
    clear hC1
    obtain ⟨L, hL⟩ : ∃ L, L = l ++ s.data.toList ++ List.replicate k 0 := ⟨_, rfl⟩
    rw [← hL] at hW1
    have hl2 : L.length ≤ l.length + s.size + k := by rw [hL]; simp [Array.length_toList]; have : s.data.size = s.size := rfl; omega
    have HL := Lib.hid hL
    clear hL
    have hc := hW1.cell
    have hf := hW1.free
    have hpl := hW1.lt
    have hne := hW1.ne
    by_cases hlt : k < pad s.size
    · go_wp2_with (at_builtin; refine wpList_append_lies _ rfl (.tmp 24) (.tmp 25) 54 rfl 0 5 i0 _ 1 1 Tryz.underlying54 hi hz0 hz1 hz2 rfl (by omega) v1 _ _ rfl (hW1.2.alloc _) ⟨wr.heap.size, 0, none⟩ 1 1 [.int .u8 0] rfl rfl (World.news_of_block (cs := #[.int .u8 0]) (t := 5) (fr := (0, 0)) (heap_alloc_new wr _)) (by simp [Value.oneCell']) (by omega) (by unfold maxLen; omega) (by omega) (by simp) (wr.heap.size + 1) (by simp) ?_; intro g cap w1 hown1 hgrow hat hglt; have hfw : w1.frozen? ⟨p, 0, none⟩ = false := (hgrow.frozen_far _ (by simp; omega) hne).trans ((World.frozen?_alloc_past _ _ _ hpl).trans hf); have hcw : w1.cell? ⟨p, 0, none⟩ = some v1 := (hgrow.cell_far _ (by simp; omega) hne).trans ((World.cell?_alloc_past _ _ _ hpl).trans hc))
      go_roundw
      case rel =>
        refine ⟨k + 1, by omega, by go_num, ?_⟩
        rw [List.replicate_succ', ← List.append_assoc, ← HL.out]
        exact hW1.push HC.out (World.grownBy_alloc _ _ _) hgrow hat rfl hown1
      case measure => simp [intOf]; omega
    · go_wp2
      go_end0
      have hk' : k = pad s.size := by omega
      subst hk'
      exact ⟨rfl, v1, by unfold fixedOf; rw [← List.append_assoc, ← HL.out]; exact hW1, HC.out⟩

set_option maxHeartbeats 400000 in
theorem uint_any (p : Nat) (v : Value) (l : List UInt8) (n : Int) (w : World) (hW : Wr T R w p v l) (hb : l.length + 4 ≤ 140737488355328) :
    Calls Tryz.prog 64 #[.pointer (some ⟨p, 0, none⟩), .int .i64 n] w fun e w' => e = .returned (.tuple #[]) ∧ WrTo T R w p v (l ++ numBytes n 4) w' := by
  go_enter Tryz.func64, Tryz.ntmps64
  go_wp2_with fail
  refine (number_any p v l n 4 w hW (by omega) hb).mono ?_
  rintro e w' ⟨rfl, H⟩
  have HH := Lib.hid H
  clear H
  go_wp2
  go_end0
  exact ⟨rfl, HH.out⟩

set_option maxHeartbeats 400000 in
theorem hyper_any (p : Nat) (v : Value) (l : List UInt8) (n : Int) (w : World) (hW : Wr T R w p v l) (hb : l.length + 8 ≤ 140737488355328) :
    Calls Tryz.prog 66 #[.pointer (some ⟨p, 0, none⟩), .int .i64 n] w fun e w' => e = .returned (.tuple #[]) ∧ WrTo T R w p v (l ++ numBytes n 8) w' := by
  go_enter Tryz.func66, Tryz.ntmps66
  go_wp2_with fail
  refine (number_any p v l n 8 w hW (by omega) hb).mono ?_
  rintro e w' ⟨rfl, H⟩
  have HH := Lib.hid H
  clear H
  go_wp2
  go_end0
  exact ⟨rfl, HH.out⟩

set_option maxHeartbeats 400000 in
theorem bool_any (p : Nat) (v : Value) (l : List UInt8) (b : Bool) (w : World) (hW : Wr T R w p v l) (hb : l.length + 4 ≤ 140737488355328) :
    Calls Tryz.prog 85 #[.pointer (some ⟨p, 0, none⟩), .bool b] w fun e w' => e = .returned (.tuple #[]) ∧ WrTo T R w p v (l ++ numBytes (if b then 1 else 0) 4) w' := by
  cases b
  · go_enter Tryz.func85, Tryz.ntmps85
    go_wp2_with fail
    refine (uint_any p v l 0 w hW hb).mono ?_
    rintro e w' ⟨rfl, H⟩
    have HH := Lib.hid H
    clear H
    go_wp2
    go_end0
    exact ⟨rfl, HH.out⟩
  · go_enter Tryz.func85, Tryz.ntmps85
    go_wp2_with fail
    refine (uint_any p v l 1 w hW hb).mono ?_
    rintro e w' ⟨rfl, H⟩
    have HH := Lib.hid H
    clear H
    go_wp2
    go_end0
    exact ⟨rfl, HH.out⟩

theorem WrTo.next {w w1 w2 : World} {p : Nat} {v v1 : Value} {l : List UInt8} (hC : Chg p v v1 w w1) (h : WrTo T R w1 p v1 l w2) : WrTo T R w p v l w2 := by
  obtain ⟨v2, a, b⟩ := h
  exact ⟨v2, a, hC.trans b⟩

theorem numBytes_length (n : Int) (k : Nat) : (numBytes n k).length = k := numTo_length n k k

set_option maxHeartbeats 400000 in
theorem opaque_any (p : Nat) (v : Value) (l : List UInt8) (s : ByteArray) (w : World) (hW : Wr T R w p v l) (hb : l.length + s.size + 8 ≤ 140737488355328) :
    Calls Tryz.prog 68 #[.pointer (some ⟨p, 0, none⟩), .string s] w fun e w' => e = .returned (.tuple #[]) ∧ WrTo T R w p v (l ++ opaqueOf s) w' := by
  go_enter Tryz.func68, Tryz.ntmps68
  go_wp2_with fail
  refine (uint_any p v l (s.size : Int) w hW (by omega)).mono ?_
  rintro e w1 ⟨rfl, v1, hW1, hC1⟩
  have HH := Lib.hid hC1
  clear hC1
  go_wp2_with fail
  refine (fixed_any p v1 _ s w1 hW1 (by rw [List.length_append, numBytes_length]; omega)).mono ?_
  rintro e w2 ⟨rfl, H⟩
  have H2 := Lib.hid H
  clear H
  go_wp2
  go_end0
  exact ⟨rfl, by unfold opaqueOf; rw [← List.append_assoc]; exact WrTo.next HH.out H2.out⟩
theorem fixedOf_length (s : ByteArray) : (fixedOf s).length = s.size + pad s.size := by
  have : s.data.size = s.size := rfl
  simp [fixedOf, this]
theorem fixedOf_four (s : ByteArray) : (fixedOf s).length % 4 = 0 := by rw [fixedOf_length]; unfold pad; omega
theorem opaqueOf_length (s : ByteArray) : (opaqueOf s).length = 4 + (s.size + pad s.size) := by
  simp [opaqueOf, numBytes_length, fixedOf_length]

theorem Wr.row {w : World} {p : Nat} {v : Value} {l : List UInt8} (h : Wr T R w p v l) {g : Nat} (hg : v.ownBlock = some g) : ∃ cur, w.heap[g]? = some (.cells cur 5 (0, 0)) := by
  rcases h.2.2 with ⟨rfl, _⟩ | ⟨g', cap, cur, rfl, _, hh, _⟩
  · cases hg
  · have : g' = g := by simpa [Value.ownBlock] using hg
    subst this
    exact ⟨cur, hh⟩

end Go.Proofs.YtjogcdkebplcpaaGreatDoor.Y
