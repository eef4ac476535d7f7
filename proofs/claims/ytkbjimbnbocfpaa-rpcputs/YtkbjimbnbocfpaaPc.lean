/-
  PutCall: which calls can be laid out, and their bytes. Its conditions: the groups lie in memory, the texts are of a length that a machine has.
-/
import Derived.Test.YtkbjimbnbocfpaaUi
namespace Go.Proofs.Ytkbjimbnbocfpaa
open Go.RowKit

/-- A call as plain data. -/
structure Cl where
  xid : Int
  prog : Int
  vers : Int
  proc : Int
  unix : Bool
  stamp : Int
  mach : ByteArray
  uid : Int
  gid : Int
  groups : List Int
  args : ByteArray

def Cl.zero (c : Cl) : Bool := c.stamp == 0 && c.mach.toList.isEmpty && c.uid == 0 && c.gid == 0 && c.groups.isEmpty
def Cl.ok (c : Cl) : Bool := areU [c.xid, c.prog, c.vers, c.proc] && (if c.unix then areU [c.stamp, c.uid, c.gid] && decide (c.mach.size ≤ 255) && decide (c.groups.length ≤ 16) && areU c.groups else c.zero)
def Cl.cred (c : Cl) : List UInt8 := numBytes c.stamp 4 ++ opaqueOf c.mach ++ putU [c.uid, c.gid, (c.groups.length : Int)] ++ putU c.groups
def Cl.head (c : Cl) : List UInt8 := putU [c.xid, 0, 2, c.prog, c.vers, c.proc] ++ (if c.unix then numBytes 1 4 ++ opaqueOf ⟨c.cred.toArray⟩ else numBytes 0 4 ++ opaqueOf ⟨#[]⟩) ++ numBytes 0 4 ++ opaqueOf ⟨#[]⟩

theorem built (w : World) (L : List Int) : IntsAt (w.alloc (.cells (L.map fun n => Value.int .i64 n).toArray 3)) (some ⟨w.heap.size, 0, none⟩) L := by
  intro i hi
  refine ⟨w.heap.size, 0, rfl, by simp, ?_⟩
  rw [cell_of_row _ _ _ _ _ _ (heap_alloc_new w _)]
  simp [hi]
theorem built3 (w : World) (n : Nat) (hn : n = w.heap.size) (a b c : Int) : IntsAt (w.alloc (.cells #[.int .i64 a, .int .i64 b, .int .i64 c] 3)) (some ⟨n, 0, none⟩) [a, b, c] := by
  subst hn; exact built w [a, b, c]
theorem built4 (w : World) (n : Nat) (hn : n = w.heap.size) (a b c d : Int) : IntsAt (w.alloc (.cells #[.int .i64 a, .int .i64 b, .int .i64 c, .int .i64 d] 3)) (some ⟨n, 0, none⟩) [a, b, c, d] := by
  subst hn; exact built w [a, b, c, d]
theorem built6 (w : World) (n : Nat) (hn : n = w.heap.size) (a b c d e f : Int) : IntsAt (w.alloc (.cells #[.int .i64 a, .int .i64 b, .int .i64 c, .int .i64 d, .int .i64 e, .int .i64 f] 3)) (some ⟨n, 0, none⟩) [a, b, c, d, e, f] := by
  subst hn; exact built w [a, b, c, d, e, f]
theorem areU_n (L : List Int) (n : Nat) (hn : L.length = n) (ao : Option Addr) (cap : Nat) (w : World) (hI : IntsAt w ao L) (hl : n ≤ 9223372036854775807) (b : Bool) (hb : areU L = b) :
    Calls Try.prog 44 #[.slice ao n cap] w fun e w' => e = .returned (.bool b) ∧ w = w' := by
  subst hn hb; exact areU_any L ao cap w hI hl
theorem putU_n (p : Nat) (v : Value) (l : List UInt8) (L : List Int) (n : Nat) (hn : L.length = n) (ao : Option Addr) (cap : Nat) (w : World) (hW : Wr w p v l) (hI : IntsAt w ao L) (hg : ∀ g off, ao = some ⟨g, off, none⟩ → g ≠ p ∧ some g ≠ v.ownBlock) (hb : l.length + 4 * n ≤ 140737488355328) :
    Calls Try.prog 21 #[.pointer (some ⟨p, 0, none⟩), .slice ao n cap] w fun e w' => e = .returned (.tuple #[]) ∧ WrTo w p v (l ++ putU L) w' := by
  subst hn; exact putU_any p v l L ao cap w hW hI hg hb
theorem len_empty (G : List Int) : (((G.length : Nat) : Int) == 0) = G.isEmpty := by
  cases G with
  | nil => rfl
  | cons x r => simp; omega
theorem IntsAt.below {w w' : World} {ao : Option Addr} {L : List Int} (h : IntsAt w ao L) (hb : Below w.heap.size w w') : IntsAt w' ao L := by
  intro i hi
  obtain ⟨g, off, e1, e2, e3⟩ := h i hi
  exact ⟨g, off, e1, Nat.lt_of_lt_of_le e2 hb.size, (hb.cell (p := ⟨g, off + i, none⟩) e2).trans e3⟩

set_option maxRecDepth 100000 in
set_option maxHeartbeats 1000000 in
theorem isCall_plain (xid prog vers proc stamp uid gid : Int) (mach args : ByteArray) (G : List Int) (ao : Option Addr) (cap : Nat) (w : World) :
    Calls Try.prog 20 #[.agg #[.int .i64 xid, .int .i64 prog, .int .i64 vers, .int .i64 proc, .bool false, .int .i64 stamp, .string mach, .int .i64 uid, .int .i64 gid, .slice ao G.length cap, .string args]] w
      fun e w' => e = .returned (.bool (Cl.ok ⟨xid, prog, vers, proc, false, stamp, mach, uid, gid, G, args⟩)) ∧ Below w.heap.size w w' := by
  have HB := Lib.hid (((Below.refl w.heap.size w).alloc (Nat.le_refl _) (.cells #[.int .i64 xid, .int .i64 prog, .int .i64 vers, .int .i64 proc, .bool false, .int .i64 stamp, .string mach, .int .i64 uid, .int .i64 gid, .slice ao G.length cap, .string args] 30)).alloc (by simp) (.cells #[.int .i64 xid, .int .i64 prog, .int .i64 vers, .int .i64 proc] 3))
  obtain ⟨b, hb⟩ : ∃ b, areU [xid, prog, vers, proc] = b := ⟨_, rfl⟩
  have HA := Lib.hid hb
  clear hb
  go_enter Try.func20, Try.ntmps20
  go_wp2_with fail
  refine (areU_n [xid, prog, vers, proc] 4 rfl (some ⟨w.heap.size + 1, 0, none⟩) 4 _ (built4 _ _ (by simp) _ _ _ _) (by decide) b HA.out).mono ?_
  rintro e w' ⟨rfl, rfl⟩
  cases b
  · go_wp2
    go_ret
    exact ⟨by simp [Cl.ok, HA.out], HB.out⟩
  · go_wp2
    all_goals
      go_ret
      refine ⟨congrArg (fun z => Ending.returned (.bool z)) ?_, ((Below.refl _ w).alloc (Nat.le_refl _) _).alloc (by simp) _⟩
      have hA := HA.out
      unfold Cl.ok Cl.zero
      simp only [hA]
      simp [*]
    exact len_empty G

theorem Wr.new (w : World) : Wr (w.alloc (.cells #[.slice none 0 0] 63)) w.heap.size (.slice none 0 0) [] :=
  ⟨heap_alloc_new w _, World.ownsRow_nil _ _ _ _⟩
theorem Wr.below {w w' : World} {p : Nat} {v : Value} {l : List UInt8} (h : Wr w p v l) (hb : Below w.heap.size w w') : Wr w' p v l := by
  refine ⟨(hb.block p h.lt).trans h.1, h.2.1, ?_⟩
  rcases h.2.2 with e | ⟨g, cap, cur, e, b1, hg, r⟩
  · exact .inl e
  · exact .inr ⟨g, cap, cur, e, b1, (hb.block g (Array.getElem?_eq_some_iff.1 hg).1).trans hg, r⟩

theorem Wr.far {w w' : World} {p B : Nat} {v v' : Value} {l : List UInt8} {cs : Array Value} {t : TypeId} (h : Wr w p v l) (hC : Chg p v v' w w') (hq : w.heap[B]? = some (.cells cs t (0, 0))) (ht : t ≠ 63 ∧ t ≠ 5) : w'.heap[B]? = some (.cells cs t (0, 0)) := by
  have hl : B < w.heap.size := (Array.getElem?_eq_some_iff.1 hq).1
  refine (hC.block B hl ?_ ?_).trans hq
  · intro e; have := h.1; rw [← e, hq] at this; simp at this; exact ht.1 this.2
  · intro e
    obtain ⟨cur, hc⟩ := h.row e.symm
    rw [hq] at hc; simp at hc; exact ht.2 hc.2
def Cl.headP (c : Cl) : List UInt8 := putU [c.xid, 0, 2, c.prog, c.vers, c.proc] ++ numBytes 0 4 ++ opaqueOf ⟨#[]⟩ ++ numBytes 0 4 ++ opaqueOf ⟨#[]⟩
theorem opaque_nil : opaqueOf ⟨#[]⟩ = [0, 0, 0, 0] := by decide +kernel
theorem headP_length (c : Cl) : c.headP.length = 40 := by simp [Cl.headP, putU_length, numBytes_length, opaque_nil]

set_option maxRecDepth 100000 in
set_option maxHeartbeats 1000000 in
theorem putCall_plain (c : Cl) (ao : Option Addr) (cap : Nat) (w : World) (hu : c.unix = false) (hs : c.args.size ≤ 9223372036854700000) :
    Calls Try.prog 11 #[.agg #[.int .i64 c.xid, .int .i64 c.prog, .int .i64 c.vers, .int .i64 c.proc, .bool false, .int .i64 c.stamp, .string c.mach, .int .i64 c.uid, .int .i64 c.gid, .slice ao c.groups.length cap, .string c.args]] w
      fun e w' => e = .returned (.tuple #[.string (if c.ok then restS c.headP c.args else ⟨#[]⟩), .int .i64 (if c.ok then restC c.headP c.args else 4)]) ∧ Below w.heap.size w w' := by
  obtain ⟨xid, prog, vers, proc, unix, stamp, mach, uid, gid, G, args⟩ := c
  simp only at hu hs ⊢
  subst hu
  obtain ⟨C, hC⟩ : ∃ C : Cl, C = ⟨xid, prog, vers, proc, false, stamp, mach, uid, gid, G, args⟩ := ⟨_, rfl⟩
  rw [← hC]
  have HC := Lib.hid hC
  clear hC
  obtain ⟨b, hb⟩ : ∃ b, C.ok = b := ⟨_, rfl⟩
  have HO := Lib.hid hb
  rw [hb]
  clear hb
  obtain ⟨R1, hR1⟩ : ∃ R1, R1 = (if b then restS C.headP args else ⟨#[]⟩) := ⟨_, rfl⟩
  obtain ⟨R2, hR2⟩ : ∃ R2, R2 = (if b then restC C.headP args else 4) := ⟨_, rfl⟩
  rw [← hR1, ← hR2]
  have HR1 := Lib.hid hR1
  have HR2 := Lib.hid hR2
  clear hR1 hR2
  go_enter Try.func11, Try.ntmps11
  go_wp2_with fail
  refine (isCall_plain xid prog vers proc stamp uid gid mach args G ao cap _).mono ?_
  rintro e w1 ⟨rfl, hB1⟩
  rw [← HC.out, HO.out]
  have hsz1 : w.heap.size + 1 ≤ w1.heap.size := by have := hB1.size; simpa using this
  have hq : w1.heap[w.heap.size]? = some (.cells #[.int .i64 xid, .int .i64 prog, .int .i64 vers, .int .i64 proc, .bool false, .int .i64 stamp, .string mach, .int .i64 uid, .int .i64 gid, .slice ao G.length cap, .string args] 30 (0, 0)) :=
    (hB1.block w.heap.size (by simp)).trans (heap_alloc_new w _)
  have HB1 := Lib.hid (((Below.refl w.heap.size w).alloc (Nat.le_refl _) (.cells #[.int .i64 xid, .int .i64 prog, .int .i64 vers, .int .i64 proc, .bool false, .int .i64 stamp, .string mach, .int .i64 uid, .int .i64 gid, .slice ao G.length cap, .string args] 30)).trans (hB1.mono (by simp)))
  clear hB1
  cases b
  · clear hq
    go_wp2
    go_ret2
    refine ⟨?_, HB1.out⟩
    rw [HR1.out, HR2.out]; rfl
  · obtain ⟨B, hBq⟩ : ∃ B, B = w.heap.size := ⟨_, rfl⟩
    rw [← hBq] at hq
    have HBq := Lib.hid hBq
    have hBl : B < w1.heap.size := by omega
    clear hBq
    have f0 : w1.cell? ⟨B, 0, none⟩ = some (.int .i64 xid) := by rw [cell_of_row w1 B _ _ _ _ hq]; rfl
    have f1 : w1.cell? ⟨B, 1, none⟩ = some (.int .i64 prog) := by rw [cell_of_row w1 B _ _ _ _ hq]; rfl
    have f2 : w1.cell? ⟨B, 2, none⟩ = some (.int .i64 vers) := by rw [cell_of_row w1 B _ _ _ _ hq]; rfl
    have f3 : w1.cell? ⟨B, 3, none⟩ = some (.int .i64 proc) := by rw [cell_of_row w1 B _ _ _ _ hq]; rfl
    have HQ := Lib.hid hq
    clear hq
    obtain ⟨p, hp⟩ : ∃ p, p = w1.heap.size := ⟨_, rfl⟩
    have HP := Lib.hid hp
    clear hp
    rw [← HBq.out]
    have hW2 := (Wr.new w1).alloc (.cells #[.int .i64 xid, .int .i64 0, .int .i64 2, .int .i64 prog, .int .i64 vers, .int .i64 proc] 3)
    have hq2 : ((w1.alloc (.cells #[.slice none 0 0] 63)).alloc (.cells #[.int .i64 xid, .int .i64 0, .int .i64 2, .int .i64 prog, .int .i64 vers, .int .i64 proc] 3)).heap[B]? = _ :=
      (((World.grownBy_alloc _ _ none).block B (by simp; omega) (by simp)).trans ((World.grownBy_alloc w1 _ none).block B hBl (by simp))).trans HQ.out
    have HB2 := Lib.hid ((HB1.out.alloc (by omega) (.cells #[.slice none 0 0] 63)).alloc (by simp; omega) (.cells #[.int .i64 xid, .int .i64 0, .int .i64 2, .int .i64 prog, .int .i64 vers, .int .i64 proc] 3))
    have HI2 := Lib.hid (built6 (w1.alloc (.cells #[.slice none 0 0] 63)) (w1.heap.size + 1) (by simp) xid 0 2 prog vers proc)
    have HW2 := Lib.hid hW2
    have HQ2 := Lib.hid hq2
    clear hW2 hq2
    go_wp2_with fail
    refine (putU_n w1.heap.size (.slice none 0 0) [] [xid, 0, 2, prog, vers, proc] 6 rfl (some ⟨w1.heap.size + 1, 0, none⟩) 6 _ HW2.out HI2.out (by intro g off e; simp only [Option.some.injEq, Addr.mk.injEq, and_true] at e; obtain ⟨e1, _⟩ := e; exact ⟨by omega, by simp [Value.ownBlock]⟩) (by decide)).mono ?_
    rintro e w3 ⟨rfl, v3, hW3, hC3⟩
    have HQ3 := Lib.hid (HW2.out.far hC3 HQ2.out (by decide))
    have HW3 := Lib.hid hW3
    have HB3 := Lib.hid (HB2.out.trans (hC3.below (B := w.heap.size) (by simp; omega) (by omega) (by intro k hk; simp [Value.ownBlock] at hk)))
    have HV3 : Hid (∀ k, v3.ownBlock = some k → w.heap.size ≤ k) := Lib.hid (by
      intro k hk
      rcases hC3.own with e | ⟨g, e, hg⟩
      · rw [e] at hk; simp [Value.ownBlock] at hk
      · rw [e] at hk
        have : g = k := by simpa using hk
        simp at hg; omega)
    have hs3 := hC3.size
    have f4 : w3.cell? ⟨B, 4, none⟩ = some (.bool false) := by rw [cell_of_row w3 B _ _ _ _ HQ3.out]; rfl
    clear hW3 hC3 f0 f1 f2 f3
    rw [← HP.out] at HW3 ⊢
    have hpw : w.heap.size ≤ p := by rw [HP.out]; omega
    go_wp2_with fail
    refine (uint_any p v3 _ 0 w3 HW3.out (by simp [putU_length])).mono ?_
    rintro e w4 ⟨rfl, v4, hW4, hC4⟩
    have HW4 := Lib.hid hW4
    have HC4 := Lib.hid hC4
    clear hW4 hC4 f4
    go_wp2_with fail
    refine (opaque_any p v4 _ ⟨#[]⟩ w4 HW4.out (by simp [putU_length, numBytes_length, ByteArray.size])).mono ?_
    rintro e w5 ⟨rfl, v5, hW5, hC5⟩
    have HW5 := Lib.hid hW5
    have HC5 := Lib.hid (HC4.out.trans hC5)
    clear hW5 hC5
    go_wp2_with fail
    refine (uint_any p v5 _ 0 w5 HW5.out (by simp [putU_length, numBytes_length, opaque_nil])).mono ?_
    rintro e w6 ⟨rfl, v6, hW6, hC6⟩
    have HW6 := Lib.hid hW6
    have HC6 := Lib.hid (HC5.out.trans hC6)
    clear hW6 hC6
    go_wp2_with fail
    refine (opaque_any p v6 _ ⟨#[]⟩ w6 HW6.out (by simp [putU_length, numBytes_length, opaque_nil, ByteArray.size])).mono ?_
    rintro e w7 ⟨rfl, v7, hW7, hC7⟩
    have HC7 := Lib.hid (HC6.out.trans hC7)
    have hhead : ([] ++ putU [xid, 0, 2, prog, vers, proc] ++ numBytes 0 4 ++ opaqueOf ⟨#[]⟩ ++ numBytes 0 4 ++ opaqueOf ⟨#[]⟩) = C.headP := by rw [HC.out]; rfl
    rw [hhead] at hW7
    have HW7 := Lib.hid hW7
    have HQ7 := HW3.out.far HC7.out HQ3.out (by decide)
    have f8 : w7.cell? ⟨B, 10, none⟩ = some (.string args) := by rw [cell_of_row w7 B _ _ _ _ HQ7]; rfl
    have HB7 := Lib.hid (HB3.out.trans (HC7.out.below (B := w.heap.size) HB3.out.size hpw HV3.out))
    clear hW7 hC7 hhead HQ7
    go_wp2_with fail
    refine (rest_any p v7 C.headP args w7 HW7.out (by rw [headP_length]; decide) hs).mono ?_
    rintro e w8 ⟨rfl, rfl⟩
    go_wp2
    go_ret2
    refine ⟨?_, HB7.out⟩
    rw [HR1.out, HR2.out]
    simp
end Go.Proofs.Ytkbjimbnbocfpaa
