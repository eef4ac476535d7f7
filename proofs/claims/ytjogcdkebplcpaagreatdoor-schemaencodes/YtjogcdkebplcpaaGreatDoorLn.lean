/-
  The layer in memory, and its number, flag and text. Their condition: there is room.
-/
import Derived.Test.YtjogcdkebplcpaaGreatDoorLm
namespace Go.Proofs.YtjogcdkebplcpaaGreatDoor
open Go.RowKit Sch
def ItsAt (B : Nat) (w : World) (ao : Option Addr) (L : List Int) : Prop := ∀ i (_ : i < L.length), ∃ g off, ao = some ⟨g, off, none⟩ ∧ g < B ∧ w.cell? ⟨g, off + i, none⟩ = some (.int .i64 L[i])
def StsAt (B : Nat) (w : World) (ao : Option Addr) (L : List ByteArray) : Prop := ∀ i (_ : i < L.length), ∃ g off, ao = some ⟨g, off, none⟩ ∧ g < B ∧ w.cell? ⟨g, off + i, none⟩ = some (.string L[i])
theorem ItsAt.low {B : Nat} {w w' : World} {ao : Option Addr} {L : List Int} (h : ItsAt B w ao L) (hb : Below B w w') : ItsAt B w' ao L := fun i hi => by
  obtain ⟨g, off, e, hg, hc⟩ := h i hi
  exact ⟨g, off, e, hg, (World.cell?_of_block (a := ⟨g, off + i, none⟩) (hb.block g hg)).trans hc⟩
theorem StsAt.low {B : Nat} {w w' : World} {ao : Option Addr} {L : List ByteArray} (h : StsAt B w ao L) (hb : Below B w w') : StsAt B w' ao L := fun i hi => by
  obtain ⟨g, off, e, hg, hc⟩ := h i hi
  exact ⟨g, off, e, hg, (World.cell?_of_block (a := ⟨g, off + i, none⟩) (hb.block g hg)).trans hc⟩
theorem ItsAt.tail {B : Nat} {w : World} {g off : Nat} {n : Int} {L : List Int} (h : ItsAt B w (some ⟨g, off, none⟩) (n :: L)) : ItsAt B w (some ⟨g, off + 1, none⟩) L := fun i hi => by
  obtain ⟨g', off', e, hg, hc⟩ := h (i + 1) (by simp; omega)
  simp only [Option.some.injEq, Addr.mk.injEq, and_true] at e
  obtain ⟨rfl, rfl⟩ := e
  exact ⟨g, off + 1, rfl, hg, by rw [show off + 1 + i = off + (i + 1) by omega]; exact hc⟩
theorem StsAt.tail {B : Nat} {w : World} {g off : Nat} {n : ByteArray} {L : List ByteArray} (h : StsAt B w (some ⟨g, off, none⟩) (n :: L)) : StsAt B w (some ⟨g, off + 1, none⟩) L := fun i hi => by
  obtain ⟨g', off', e, hg, hc⟩ := h (i + 1) (by simp; omega)
  simp only [Option.some.injEq, Addr.mk.injEq, and_true] at e
  obtain ⟨rfl, rfl⟩ := e
  exact ⟨g, off + 1, rfl, hg, by rw [show off + 1 + i = off + (i + 1) by omega]; exact hc⟩
/-- The layer in block p has put the bytes l; the numbers N and the texts T are left. -/
structure LyB (B0 p : Nat) (N : List Int) (T : List ByteArray) (l : List UInt8) (v : Value) (aN : Option Addr) (cN : Nat) (aT : Option Addr) (cT : Nat) (w : World) : Prop where
  wr : Y.Wr 81 [.slice aN N.length cN, .slice aT T.length cT] w p v l
  n : ItsAt B0 w aN N
  t : StsAt B0 w aT T
  cn : N.length ≤ cN ∧ cN ≤ 9223372036854775807
  ct : T.length ≤ cT ∧ cT ≤ 9223372036854775807
  hp : B0 ≤ p
  hv : ∀ k, v.ownBlock = some k → B0 ≤ k
def LyS (B0 p : Nat) (N : List Int) (T : List ByteArray) (l : List UInt8) (w : World) : Prop := ∃ v aN cN aT cT, LyB B0 p N T l v aN cN aT cT w
theorem LyB.cells {B0 p : Nat} {N : List Int} {T : List ByteArray} {l : List UInt8} {v : Value} {aN : Option Addr} {cN : Nat} {aT : Option Addr} {cT : Nat} {w : World} (h : LyB B0 p N T l v aN cN aT cT w) :
    w.cell? ⟨p, 1, none⟩ = some (.slice aN N.length cN) ∧ w.cell? ⟨p, 2, none⟩ = some (.slice aT T.length cT) ∧ w.frozen? ⟨p, 1, none⟩ = false ∧ w.frozen? ⟨p, 2, none⟩ = false := by
  refine ⟨?_, ?_, Lib.frozen_of_heap h.wr.1.2 _, Lib.frozen_of_heap h.wr.1.2 _⟩ <;> (rw [cell_of_row w p _ _ _ _ h.wr.1.2]; simp)
/-- One of the layer's lists is another one. -/
theorem LyB.setN {B0 p : Nat} {N : List Int} {T : List ByteArray} {l : List UInt8} {v : Value} {aN : Option Addr} {cN : Nat} {aT : Option Addr} {cT : Nat} {w : World} (h : LyB B0 p N T l v aN cN aT cT w) (N' : List Int) (aN' : Option Addr) (cN' : Nat) (hn : ItsAt B0 w aN' N') (hc : N'.length ≤ cN' ∧ cN' ≤ 9223372036854775807) :
    LyB B0 p N' T l v aN' cN' aT cT (w.setCell ⟨p, 1, none⟩ (.slice aN' N'.length cN')) ∧ FrT B0 w (w.setCell ⟨p, 1, none⟩ (.slice aN' N'.length cN')) := by
  have ho : X.Only p w (w.setCell ⟨p, 1, none⟩ (.slice aN' N'.length cN')) := (X.Only.refl p w).set 1 _
  have hb := ho.below h.hp
  refine ⟨⟨⟨⟨h.wr.1.1, by simp [World.setCell, Array.getElem?_modify, h.wr.1.2]⟩, ownsB_kept h.wr.2 fun k e => ho.block k fun e' => h.wr.ne (by rw [e, e'])⟩, hn.low hb, h.t.low hb, hc, h.ct, h.hp, h.hv⟩, ⟨hb, fun k cur fr hk => ho.block k fun e => by subst e; exact absurd (blk_type hk h.wr.1.2) (by decide)⟩⟩
theorem LyB.setT {B0 p : Nat} {N : List Int} {T : List ByteArray} {l : List UInt8} {v : Value} {aN : Option Addr} {cN : Nat} {aT : Option Addr} {cT : Nat} {w : World} (h : LyB B0 p N T l v aN cN aT cT w) (T' : List ByteArray) (aT' : Option Addr) (cT' : Nat) (hn : StsAt B0 w aT' T') (hc : T'.length ≤ cT' ∧ cT' ≤ 9223372036854775807) :
    LyB B0 p N T' l v aN cN aT' cT' (w.setCell ⟨p, 2, none⟩ (.slice aT' T'.length cT')) ∧ FrT B0 w (w.setCell ⟨p, 2, none⟩ (.slice aT' T'.length cT')) := by
  have ho : X.Only p w (w.setCell ⟨p, 2, none⟩ (.slice aT' T'.length cT')) := (X.Only.refl p w).set 2 _
  have hb := ho.below h.hp
  refine ⟨⟨⟨⟨h.wr.1.1, by simp [World.setCell, Array.getElem?_modify, h.wr.1.2]⟩, ownsB_kept h.wr.2 fun k e => ho.block k fun e' => h.wr.ne (by rw [e, e'])⟩, h.n.low hb, hn.low hb, h.cn, hc, h.hp, h.hv⟩, ⟨hb, fun k cur fr hk => ho.block k fun e => by subst e; exact absurd (blk_type hk h.wr.1.2) (by decide)⟩⟩
set_option maxHeartbeats 1000000 in
theorem lnum_ok (B0 p : Nat) (n : Int) (N : List Int) (T : List ByteArray) (l : List UInt8) (least most : Int) (w : World) (h : LyS B0 p (n :: N) T l w) (h1 : least ≤ n) (h2 : n ≤ most) :
    Calls Tryz.prog 65 #[.pointer (some ⟨p, 0, none⟩), .int .i64 least, .int .i64 most] w fun r w' => r = .returned (.int .i64 n) ∧ LyS B0 p N T l w' ∧ FrT B0 w w' := by
  obtain ⟨v, aN, cN, aT, cT, hb⟩ := h
  obtain ⟨c1, c2, f1, f2⟩ := hb.cells
  obtain ⟨g, off, rfl, hg, hc⟩ := hb.n 0 (by simp)
  simp only [Nat.add_zero, List.getElem_cons_zero] at hc
  have hcn := hb.cn
  simp only [List.length_cons] at c1 hcn
  have HB := Lib.hid hb
  clear hb c2 f2
  have hlen : (((N.length + 1 : Nat) : Int) == 0) = false := by simp; omega
  go_enter Tryz.func65, Tryz.ntmps65
  go_wp2
  all_goals go_ret
  · rename_i hc1
    have hN : N = [] := List.eq_nil_of_length_eq_zero (by omega)
    obtain ⟨k1, k2⟩ := HB.out.setN N (some ⟨g, off, none⟩) 0 (by rw [hN]; exact fun i hi => absurd hi (by simp)) ⟨by rw [hN]; simp, by omega⟩
    exact ⟨rfl, ⟨_, _, _, _, _, k1⟩, k2⟩
  · obtain ⟨k1, k2⟩ := HB.out.setN N (some ⟨g, off + 1, none⟩) (cN - 1) HB.out.n.tail ⟨by omega, by omega⟩
    exact ⟨rfl, ⟨_, _, _, _, _, k1⟩, k2⟩
set_option maxHeartbeats 1000000 in
theorem lnum_none (B0 p : Nat) (T : List ByteArray) (l : List UInt8) (least most : Int) (w : World) (h : LyS B0 p [] T l w) :
    Calls Tryz.prog 65 #[.pointer (some ⟨p, 0, none⟩), .int .i64 least, .int .i64 most] w fun r w' => r = Bad 4 ∧ w = w' := by
  obtain ⟨v, aN, cN, aT, cT, hb⟩ := h
  obtain ⟨c1, c2, f1, f2⟩ := hb.cells
  simp only [List.length_nil] at c1
  clear hb c2 f1 f2
  go_enter Tryz.func65, Tryz.ntmps65
  go_wp2_with fail
  refine (refuse_any 4 w).mono ?_
  rintro r w' ⟨rfl, rfl⟩
  go_wp2
  exact ⟨rfl, rfl, rfl⟩
set_option maxHeartbeats 1000000 in
theorem lnum_bad (B0 p : Nat) (n : Int) (N : List Int) (T : List ByteArray) (l : List UInt8) (least most : Int) (w : World) (h : LyS B0 p (n :: N) T l w) (h1 : ¬ (least ≤ n ∧ n ≤ most)) :
    Calls Tryz.prog 65 #[.pointer (some ⟨p, 0, none⟩), .int .i64 least, .int .i64 most] w fun r w' => r = Bad 4 ∧ w = w' := by
  obtain ⟨v, aN, cN, aT, cT, hb⟩ := h
  obtain ⟨c1, c2, f1, f2⟩ := hb.cells
  obtain ⟨g, off, rfl, hg, hc⟩ := hb.n 0 (by simp)
  simp only [Nat.add_zero, List.getElem_cons_zero] at hc
  simp only [List.length_cons] at c1
  clear hb c2 f1 f2
  have hlen : (((N.length + 1 : Nat) : Int) == 0) = false := by simp; omega
  by_cases h2 : n < least
  · go_enter Tryz.func65, Tryz.ntmps65
    go_wp2_with fail
    refine (refuse_any 4 w).mono ?_
    rintro r w' ⟨rfl, rfl⟩
    go_wp2
    exact ⟨rfl, rfl, rfl⟩
  · have h3 : most < n := by omega
    clear h1
    go_enter Tryz.func65, Tryz.ntmps65
    go_wp2_with fail
    refine (refuse_any 4 w).mono ?_
    rintro r w' ⟨rfl, rfl⟩
    go_wp2
    exact ⟨rfl, rfl, rfl⟩
set_option maxHeartbeats 1000000 in
theorem ltxt_ok (B0 p : Nat) (N : List Int) (s : ByteArray) (T : List ByteArray) (l : List UInt8) (least most : Nat) (w : World) (h : LyS B0 p N (s :: T) l w) (h1 : least ≤ s.size) (h2 : s.size ≤ most) :
    Calls Tryz.prog 69 #[.pointer (some ⟨p, 0, none⟩), .int .i64 least, .int .i64 most] w fun r w' => r = .returned (.string s) ∧ LyS B0 p N T l w' ∧ FrT B0 w w' := by
  obtain ⟨v, aN, cN, aT, cT, hb⟩ := h
  obtain ⟨c1, c2, f1, f2⟩ := hb.cells
  obtain ⟨g, off, rfl, hg, hc⟩ := hb.t 0 (by simp)
  simp only [Nat.add_zero, List.getElem_cons_zero] at hc
  have hct := hb.ct
  simp only [List.length_cons] at c2 hct
  have HB := Lib.hid hb
  clear hb c1 f1
  have hlen : (((T.length + 1 : Nat) : Int) == 0) = false := by simp; omega
  go_enter Tryz.func69, Tryz.ntmps69
  go_wp2
  all_goals go_ret
  · rename_i hc1
    have hT : T = [] := List.eq_nil_of_length_eq_zero (by omega)
    obtain ⟨k1, k2⟩ := HB.out.setT T (some ⟨g, off, none⟩) 0 (by rw [hT]; exact fun i hi => absurd hi (by simp)) ⟨by rw [hT]; simp, by omega⟩
    exact ⟨rfl, ⟨_, _, _, _, _, k1⟩, k2⟩
  · obtain ⟨k1, k2⟩ := HB.out.setT T (some ⟨g, off + 1, none⟩) (cT - 1) HB.out.t.tail ⟨by omega, by omega⟩
    exact ⟨rfl, ⟨_, _, _, _, _, k1⟩, k2⟩
set_option maxHeartbeats 1000000 in
theorem ltxt_none (B0 p : Nat) (N : List Int) (l : List UInt8) (least most : Nat) (w : World) (h : LyS B0 p N [] l w) :
    Calls Tryz.prog 69 #[.pointer (some ⟨p, 0, none⟩), .int .i64 least, .int .i64 most] w fun r w' => r = Bad 4 ∧ w = w' := by
  obtain ⟨v, aN, cN, aT, cT, hb⟩ := h
  obtain ⟨c1, c2, f1, f2⟩ := hb.cells
  simp only [List.length_nil] at c2
  clear hb c1 f1 f2
  go_enter Tryz.func69, Tryz.ntmps69
  go_wp2_with fail
  refine (refuse_any 4 w).mono ?_
  rintro r w' ⟨rfl, rfl⟩
  go_wp2
  exact ⟨rfl, rfl, rfl⟩
set_option maxHeartbeats 1000000 in
theorem ltxt_bad (B0 p : Nat) (N : List Int) (s : ByteArray) (T : List ByteArray) (l : List UInt8) (least most : Nat) (w : World) (h : LyS B0 p N (s :: T) l w) (h1 : ¬ (least ≤ s.size ∧ s.size ≤ most)) :
    Calls Tryz.prog 69 #[.pointer (some ⟨p, 0, none⟩), .int .i64 least, .int .i64 most] w fun r w' => r = Bad 4 ∧ w = w' := by
  obtain ⟨v, aN, cN, aT, cT, hb⟩ := h
  obtain ⟨c1, c2, f1, f2⟩ := hb.cells
  obtain ⟨g, off, rfl, hg, hc⟩ := hb.t 0 (by simp)
  simp only [Nat.add_zero, List.getElem_cons_zero] at hc
  simp only [List.length_cons] at c2
  clear hb c1 f1 f2
  have hlen : (((T.length + 1 : Nat) : Int) == 0) = false := by simp; omega
  by_cases h2 : s.size < least
  · go_enter Tryz.func69, Tryz.ntmps69
    go_wp2_with fail
    refine (refuse_any 4 w).mono ?_
    rintro r w' ⟨rfl, rfl⟩
    go_wp2
    exact ⟨rfl, rfl, rfl⟩
  · have h3 : most < s.size := by omega
    clear h1
    go_enter Tryz.func69, Tryz.ntmps69
    go_wp2_with fail
    refine (refuse_any 4 w).mono ?_
    rintro r w' ⟨rfl, rfl⟩
    go_wp2
    exact ⟨rfl, rfl, rfl⟩
end Go.Proofs.YtjogcdkebplcpaaGreatDoor
