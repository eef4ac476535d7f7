/-
  same says yes of a call and its twin. Its condition: the groups of both lie in memory.
-/
import Derived.Test.YtkbjimbnbocfpaaPu
import Derived.WalkSmall
import Derived.Deep.QuietTactic
import Derived.BigQuiet
namespace Go.Proofs.Ytkbjimbnbocfpaa
open Go.RowKit
abbrev Cl.cells (c : Cl) (v : Value) : Array Value := #[.int .i64 c.xid, .int .i64 c.prog, .int .i64 c.vers, .int .i64 c.proc, .bool c.unix, .int .i64 c.stamp, .string c.mach, .int .i64 c.uid, .int .i64 c.gid, v, .string c.args]
structure Sm (w : World) (B : Nat) (ao bo : Option Addr) (G : List Int) (cap cap' : Nat) (wr : World) : Prop where
  a : wr.cell? ⟨B, 9, none⟩ = some (.slice ao G.length cap)
  b : wr.cell? ⟨B + 1, 9, none⟩ = some (.slice bo G.length cap')
  ia : IntsAt wr ao G
  ib : IntsAt wr bo G
  low : Below w.heap.size w wr
theorem Sm.drewN {w wr : World} {B : Nat} {ao bo : Option Addr} {G : List Int} {cap cap' : Nat} (h : Sm w B ao bo G cap cap' wr) (n : Nat) : Sm w B ao bo G cap cap' (wr.drewN n) :=
  ⟨h.a, h.b, h.ia, h.ib, below_drewN h.low n⟩
theorem ints_at {w : World} {ao : Option Addr} {G : List Int} (h : IntsAt w ao G) (k : Nat) (hk : k < G.length) : ∃ g off, ao = some ⟨g, off, none⟩ ∧ w.cell? ⟨g, off + k, none⟩ = some (.int .i64 (G.getD k 0)) := by
  obtain ⟨g, off, e1, e2, e3⟩ := h k hk
  refine ⟨g, off, e1, ?_⟩
  rw [e3]
  simp [List.getD_eq_getElem?_getD, List.getElem?_eq_getElem hk]
set_option maxRecDepth 100000 in
set_option maxHeartbeats 2000000 in
theorem same_any (c : Cl) (ao bo : Option Addr) (cap cap' : Nat) (w : World) (hA : IntsAt w ao c.groups) (hB : IntsAt w bo c.groups) (hG : c.groups.length ≤ 140737488355328) (hc : c.groups.length ≤ cap) (hc' : c.groups.length ≤ cap') :
    Calls Try.prog 13 #[.agg (c.cells (.slice ao c.groups.length cap)), .agg (c.cells (.slice bo c.groups.length cap'))] w fun e w' => e = .returned (.bool true) ∧ Below w.heap.size w w' := by
  obtain ⟨xid, prog, vers, proc, unix, stamp, mach, uid, gid, G, args⟩ := c
  dsimp only at hA hB hG hc hc' ⊢
  have HA := Lib.hid hA
  have HB := Lib.hid hB
  clear hA hB
  go_enter Try.func13, Try.ntmps13
  go_wp2_with fail
  have hS : Sm w w.heap.size ao bo G cap cap' ((w.alloc (.cells #[.int .i64 xid, .int .i64 prog, .int .i64 vers, .int .i64 proc, .bool unix, .int .i64 stamp, .string mach, .int .i64 uid, .int .i64 gid, .slice ao G.length cap, .string args] 30)).alloc (.cells #[.int .i64 xid, .int .i64 prog, .int .i64 vers, .int .i64 proc, .bool unix, .int .i64 stamp, .string mach, .int .i64 uid, .int .i64 gid, .slice bo G.length cap', .string args] 32)) := by
    refine ⟨?_, ?_, (HA.out.alloc _).alloc _, (HB.out.alloc _).alloc _, ((Below.refl _ w).alloc (Nat.le_refl _) _).alloc (by simp) _⟩
    · rw [cell_of_row _ _ _ _ _ _ (((World.grownBy_alloc _ _ none).block w.heap.size (by simp) (by simp)).trans (heap_alloc_new w _))]; rfl
    · have h2 := heap_alloc_new (w.alloc (.cells #[.int .i64 xid, .int .i64 prog, .int .i64 vers, .int .i64 proc, .bool unix, .int .i64 stamp, .string mach, .int .i64 uid, .int .i64 gid, .slice ao G.length cap, .string args] 30)) (.cells #[.int .i64 xid, .int .i64 prog, .int .i64 vers, .int .i64 proc, .bool unix, .int .i64 stamp, .string mach, .int .i64 uid, .int .i64 gid, .slice bo G.length cap', .string args] 32)
      rw [show (w.alloc (.cells #[.int .i64 xid, .int .i64 prog, .int .i64 vers, .int .i64 proc, .bool unix, .int .i64 stamp, .string mach, .int .i64 uid, .int .i64 gid, .slice ao G.length cap, .string args] 30)).heap.size = w.heap.size + 1 from by simp] at h2
      rw [cell_of_row _ _ _ _ _ _ h2]; rfl
  generalize ((w.alloc (.cells #[.int .i64 xid, .int .i64 prog, .int .i64 vers, .int .i64 proc, .bool unix, .int .i64 stamp, .string mach, .int .i64 uid, .int .i64 gid, .slice ao G.length cap, .string args] 30)).alloc (.cells #[.int .i64 xid, .int .i64 prog, .int .i64 vers, .int .i64 proc, .bool unix, .int .i64 stamp, .string mach, .int .i64 uid, .int .i64 gid, .slice bo G.length cap', .string args] 32)) = W at *
  clear HA HB
  go_loopw [5] (fun i wr => ∃ k : Nat, k ≤ G.length ∧ i = .int .i64 k ∧ Sm w w.heap.size ao bo G cap cap' wr) (fun i _ => G.length - (intOf i).toNat)
  case atStart => exact ⟨0, by omega, rfl, hS⟩
  case round =>
    obtain ⟨k, hk, rfl, hM⟩ := hrel
    have HM := Lib.hid hM
    have ha := hM.a
    have hb := hM.b
    by_cases hlt : k < G.length
    · obtain ⟨g1, o1, e1, f1⟩ := ints_at hM.ia k hlt
      obtain ⟨g2, o2, e2, f2⟩ := ints_at hM.ib k hlt
      subst e1 e2
      clear hM hS
      generalize G.getD k 0 = x at *
      have hd : decide ((k : Int) < (G.length : Int)) = true := decide_eq_true (by omega)
      go_wp2_with fail
      go_quiet (fail)
      go_wp2
      refine ⟨⟨k + 1, by omega, by go_num, HM.out.drewN _⟩, by simp [intOf]; omega⟩
    · have hd : decide ((k : Int) < (G.length : Int)) = false := decide_eq_false (by omega)
      clear hM hS
      go_wp2
      go_ret
      exact ⟨rfl, HM.out.low⟩
end Go.Proofs.Ytkbjimbnbocfpaa
