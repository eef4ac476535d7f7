/-
  What (*Writer).number does: the lowest bytes of the number behind what was put. Its conditions: a writer, at most eight bytes, room.
-/
import Derived.Test.YtjogcdkebplcpaaGreatDoorXBase
import Derived.StillTailTactics
import Derived.Deep.RegionLaw
namespace Go.Proofs.YtjogcdkebplcpaaGreatDoor.X
open Go.RowKit
set_option maxRecDepth 100000 in
set_option maxHeartbeats 1000000 in
theorem number_any (p : Nat) (v : Value) (l : List UInt8) (n : Int) (size : Nat) (w : World) (hW : Wr w p v l) (hs : size ≤ 8) (hb : l.length + size ≤ 140737488355328) :
    Calls Tryz.prog 84 #[.pointer (some ⟨p, 0, none⟩), .int .i64 n, .int .i64 size] w fun e w' => e = .returned (.tuple #[]) ∧ WrTo w p v (l ++ numBytes n size) w' := by
  obtain ⟨i0, hi, hz0, hz1, hz2⟩ := info_parts Tryz.info5
  go_enter Tryz.func84, Tryz.ntmps84
  go_wp2
  go_loopw [10] (fun i wr => ∃ k : Nat, k ≤ size ∧ i = .int .i64 k ∧ WrTo w p v (l ++ numTo n size k) wr) (fun i _ => size - (intOf i).toNat)
  case atStart => exact ⟨0, Nat.zero_le _, rfl, v, by simpa [numTo] using hW, Chg.refl _ _ _⟩
  case round =>
    obtain ⟨k, hk, rfl, v1, hW1, hC1⟩ := hrel
    have HC := Lib.hid hC1
    clear hC1
    obtain ⟨L, hL⟩ : ∃ L, L = l ++ numTo n size k := ⟨_, rfl⟩
    rw [← hL] at hW1
    have hl2 : L.length ≤ l.length + k := by rw [hL]; simp [numTo_length]
    have HL := Lib.hid hL
    clear hL
    have hc := hW1.cell
    have hf := hW1.free
    by_cases hlt : k < size
    · go_wp2
      have hw1 : IntKind.i64.wrap ((size : Int) - 1) = (size : Int) - 1 := IntWalk.i64_in _ (by omega)
      have hw2 : IntKind.i64.wrap ((size : Int) - 1 - (k : Int)) = (size : Int) - 1 - (k : Int) := IntWalk.i64_in _ (by omega)
      have hw3 : IntKind.i64.wrap (8 * ((size : Int) - 1 - (k : Int))) = 8 * ((size : Int) - 1 - (k : Int)) := IntWalk.i64_in _ (by omega)
      have hge : (0 : Int) ≤ 8 * ((size : Int) - 1 - (k : Int)) := by omega
      have hpl := hW1.lt
      have hne := hW1.ne
      go_region_law
        ((refine step_append_lies _ (by rfl) _ _ _ (by rfl) 0 5 i0 _ 1 1 Tryz.underlying54 hi hz0 hz1 hz2 rfl (by omega) v1 _ _ (by rfl) ((hW1.2.alloc _).drew)
            ⟨wr.heap.size, 0, none⟩ 1 1 [.int .u8 (IntKind.u8.wrap (n / 2 ^ (8 * ((size : Int) - 1 - (k : Int))).toNat))] (by rfl) (by rfl) (World.news_of_block (cs := #[.int .u8 (IntKind.u8.wrap (n / 2 ^ (8 * ((size : Int) - 1 - (k : Int))).toNat))]) (t := 5) (fr := (0, 0)) (heap_alloc_new wr _)) (by simp [Value.oneCell'])
            (by omega) (by unfold maxLen; omega) (by omega) (by simp) (wr.heap.size + 1) (by simp) ?_; intro g cap w1 hown1 hgrow hat hglt; have hfw : w1.frozen? ⟨p, 0, none⟩ = false := (hgrow.frozen_far _ (by simp; omega) hne).trans ((World.frozen?_alloc_past _ _ _ hpl).trans hf); have hcw : w1.cell? ⟨p, 0, none⟩ = some v1 := (hgrow.cell_far _ (by simp; omega) hne).trans ((World.cell?_alloc_past _ _ _ hpl).trans hc)))
      all_goals
        go_wp2
        go_roundw
        case rel =>
          refine ⟨k + 1, by omega, by go_num, ?_⟩
          rw [numTo_succ, ← List.append_assoc, ← HL.out]
          refine hW1.push HC.out grownBy_drew hgrow hat ?_ hown1
          rw [← wrap_byteAt]
          rw [show (8 * ((size : Int) - 1 - (k : Int))).toNat = 8 * (size - 1 - k) from by omega]
        case measure => simp [intOf]; omega
    · go_wp2
      go_end0
      have hk' : k = size := by omega
      subst hk'
      exact ⟨rfl, v1, by unfold numBytes; rw [← HL.out]; exact hW1, HC.out⟩
end Go.Proofs.YtjogcdkebplcpaaGreatDoor.X
