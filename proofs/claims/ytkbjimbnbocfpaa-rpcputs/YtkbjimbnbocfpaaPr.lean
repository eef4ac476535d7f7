/-
  PutReply: which replies can be laid out, and their bytes. Its condition: the body is of a length that a machine has.
-/
import Derived.Test.YtkbjimbnbocfpaaPc
namespace Go.Proofs.Ytkbjimbnbocfpaa
open Go.RowKit

def hiB (v : Int) : Bool := v == 2 || v == 6
def loB (v : Int) : Bool := hiB v || v == 7
def boB (v : Int) : Bool := v == 0

set_option maxHeartbeats 400000 in
theorem hasHigh_any (v : Int) (w : World) (b : Bool) (hb : hiB v = b) : Calls Try.prog 42 #[.int .i64 v] w fun e w' => e = .returned (.bool b) ∧ w = w' := by
  subst hb
  go_enter Try.func42, Try.ntmps42
  go_wp2
  all_goals
    go_ret
    refine ⟨congrArg (fun z => Ending.returned (.bool z)) ?_, rfl⟩
    simp [hiB, *]
set_option maxHeartbeats 400000 in
theorem hasLow_any (v : Int) (w : World) (b : Bool) (hb : loB v = b) : Calls Try.prog 41 #[.int .i64 v] w fun e w' => e = .returned (.bool b) ∧ w = w' := by
  obtain ⟨c, hc⟩ : ∃ c, hiB v = c := ⟨_, rfl⟩
  have HC := Lib.hid hc
  have HB := Lib.hid hb
  clear hc hb
  go_enter Try.func41, Try.ntmps41
  go_wp2_with fail
  refine (hasHigh_any v w c HC.out).mono ?_
  rintro e w' ⟨rfl, rfl⟩
  cases c
  · go_wp2
    all_goals
      go_ret
      refine ⟨congrArg (fun z => Ending.returned (.bool z)) ?_, rfl⟩
      rw [← HB.out]
      have := HC.out
      simp [loB, *]
  · go_wp2
    all_goals
      go_ret
      refine ⟨congrArg (fun z => Ending.returned (.bool z)) ?_, rfl⟩
      rw [← HB.out]
      have := HC.out
      simp [loB, *]
set_option maxHeartbeats 400000 in
theorem hasBody_any (v : Int) (w : World) (b : Bool) (hb : boB v = b) : Calls Try.prog 59 #[.int .i64 v] w fun e w' => e = .returned (.bool b) ∧ w = w' := by
  subst hb
  go_enter Try.func59, Try.ntmps59
  go_wp2
  go_ret
  exact ⟨rfl, rfl⟩

structure Rp where
  xid : Int
  v : Int
  low : Int
  high : Int
  body : ByteArray
def Rp.ok (r : Rp) : Bool := decide (0 ≤ r.v) && decide (r.v ≤ 7) && areU [r.xid, r.low, r.high] && (loB r.v || r.low == 0) && (hiB r.v || r.high == 0) && (boB r.v || r.body.toList.isEmpty)
def Rp.mid (r : Rp) : List UInt8 := if r.v = 6 then putU [1, 0] else if r.v = 7 then putU [1, 1] else putU [0, 0] ++ opaqueOf ⟨#[]⟩ ++ numBytes r.v 4
def Rp.head (r : Rp) : List UInt8 := putU [r.xid, 1] ++ r.mid ++ (if loB r.v then numBytes r.low 4 else []) ++ (if hiB r.v then numBytes r.high 4 else [])
theorem mid_le (r : Rp) : r.mid.length ≤ 16 := by
  unfold Rp.mid
  split
  · simp [putU_length]
  · split
    · simp [putU_length]
    · simp [putU_length, numBytes_length, opaque_nil]
theorem head_le (r : Rp) : r.head.length ≤ 32 := by
  have h := mid_le r
  have h1 : (if loB r.v then numBytes r.low 4 else []).length ≤ 4 := by split <;> simp [numBytes_length]
  have h2 : (if hiB r.v then numBytes r.high 4 else []).length ≤ 4 := by split <;> simp [numBytes_length]
  unfold Rp.head
  simp only [List.length_append, putU_length, List.length_cons, List.length_nil]
  omega

set_option maxRecDepth 100000 in
set_option maxHeartbeats 1000000 in
theorem isReply_any (xid v low high : Int) (body : ByteArray) (w : World) (b : Bool) (hb : Rp.ok ⟨xid, v, low, high, body⟩ = b) :
    Calls Try.prog 40 #[.agg #[.int .i64 xid, .int .i64 v, .int .i64 low, .int .i64 high, .string body]] w fun e w' => e = .returned (.bool b) ∧ Below w.heap.size w w' := by
  have HB := Lib.hid hb
  clear hb
  obtain ⟨u, hu⟩ : ∃ u, areU [xid, low, high] = u := ⟨_, rfl⟩
  obtain ⟨bl, hl⟩ : ∃ u, loB v = u := ⟨_, rfl⟩
  obtain ⟨bh, hh⟩ : ∃ u, hiB v = u := ⟨_, rfl⟩
  obtain ⟨bo, ho⟩ : ∃ u, boB v = u := ⟨_, rfl⟩
  have HU := Lib.hid hu
  have HL := Lib.hid hl
  have HH := Lib.hid hh
  have HO := Lib.hid ho
  clear hu hl hh ho
  by_cases h0 : 0 ≤ v
  · by_cases h7 : v ≤ 7
    · go_enter Try.func40, Try.ntmps40
      go_wp2_with fail
      refine (areU_n [xid, low, high] 3 rfl (some ⟨w.heap.size + 1, 0, none⟩) 3 _ (built3 _ _ (by simp) _ _ _) (by decide) u HU.out).mono ?_
      rintro e w' ⟨rfl, rfl⟩
      go_wp2_with (first
        | (go_at_call 41; refine (hasLow_any v _ bl HL.out).mono ?_; rintro e w' ⟨rfl, rfl⟩)
        | (go_at_call 42; refine (hasHigh_any v _ bh HH.out).mono ?_; rintro e w' ⟨rfl, rfl⟩)
        | (go_at_call 59; refine (hasBody_any v _ bo HO.out).mono ?_; rintro e w' ⟨rfl, rfl⟩))
      all_goals
        go_ret
        refine ⟨congrArg (fun z => Ending.returned (.bool z)) ?_, ((Below.refl _ w).alloc (Nat.le_refl _) _).alloc (by simp) _⟩
        have e0 := HB.out
        have e1 := HU.out
        have e2 := HL.out
        have e3 := HH.out
        have e4 := HO.out
        rw [← e0]
        unfold Rp.ok
        simp only [e1, e2, e3, e4, h0, h7, decide_true, Bool.true_and]
        simp_all
    · have hd : decide (v ≤ 7) = false := decide_eq_false h7
      go_enter Try.func40, Try.ntmps40
      go_wp2
      go_ret
      exact ⟨by rw [← HB.out]; unfold Rp.ok; simp only [hd]; simp, (Below.refl _ w).alloc (Nat.le_refl _) _⟩
  · have hd : decide (0 ≤ v) = false := decide_eq_false h0
    go_enter Try.func40, Try.ntmps40
    go_wp2
    go_ret
    exact ⟨by rw [← HB.out]; unfold Rp.ok; simp only [hd]; simp, (Below.refl _ w).alloc (Nat.le_refl _) _⟩
theorem Wr.own_lt {w : World} {p g : Nat} {v : Value} {l : List UInt8} (h : Wr w p v l) (hg : v.ownBlock = some g) : g < w.heap.size := by
  obtain ⟨cur, hc⟩ := h.row hg
  exact (Array.getElem?_eq_some_iff.1 hc).1
theorem Chg.alloc (p : Nat) (v : Value) (w : World) (o : Obj) : Chg p v v w (w.alloc o) := by
  have hb := World.grownBy_alloc w o none
  exact ⟨hb.os, hb.tape, hb.output, hb.size, fun k hk _ _ => hb.block k hk (by simp), .inl rfl⟩
theorem lu2 (a b : Int) : (putU [a, b]).length = 8 := by rw [putU_length]; rfl
theorem lo0 : (opaqueOf ⟨#[]⟩).length = 4 := by rw [opaque_nil]; rfl
theorem built2 (w : World) (n : Nat) (hn : n = w.heap.size) (a b : Int) : IntsAt (w.alloc (.cells #[.int .i64 a, .int .i64 b] 3)) (some ⟨n, 0, none⟩) [a, b] := by
  subst hn; exact built w [a, b]

set_option maxRecDepth 100000 in
set_option maxHeartbeats 2000000 in
theorem putReply_any (r : Rp) (w : World) (hs : r.body.size ≤ 9223372036854700000) :
    Calls Try.prog 16 #[.agg #[.int .i64 r.xid, .int .i64 r.v, .int .i64 r.low, .int .i64 r.high, .string r.body]] w
      fun e w' => e = .returned (.tuple #[.string (if r.ok then restS r.head r.body else ⟨#[]⟩), .int .i64 (if r.ok then restC r.head r.body else 4)]) ∧ Below w.heap.size w w' := by
  obtain ⟨xid, v, low, high, body⟩ := r
  simp only at hs ⊢
  obtain ⟨R, hR⟩ : ∃ R : Rp, R = ⟨xid, v, low, high, body⟩ := ⟨_, rfl⟩
  rw [← hR]
  have HR := Lib.hid hR
  clear hR
  obtain ⟨b, hb⟩ : ∃ b, R.ok = b := ⟨_, rfl⟩
  have HO := Lib.hid hb
  rw [hb]
  clear hb
  obtain ⟨R1, hR1⟩ : ∃ R1, R1 = (if b then restS R.head body else ⟨#[]⟩) := ⟨_, rfl⟩
  obtain ⟨R2, hR2⟩ : ∃ R2, R2 = (if b then restC R.head body else 4) := ⟨_, rfl⟩
  rw [← hR1, ← hR2]
  have HR1 := Lib.hid hR1
  have HR2 := Lib.hid hR2
  clear hR1 hR2
  go_enter Try.func16, Try.ntmps16
  go_wp2_with fail
  refine (isReply_any xid v low high body _ b (by rw [← HR.out]; exact HO.out)).mono ?_
  rintro e w1 ⟨rfl, hB1⟩
  have hsz1 : w.heap.size + 1 ≤ w1.heap.size := by have := hB1.size; simpa using this
  have hq : w1.heap[w.heap.size]? = some (.cells #[.int .i64 xid, .int .i64 v, .int .i64 low, .int .i64 high, .string body] 49 (0, 0)) :=
    (hB1.block w.heap.size (by simp)).trans (heap_alloc_new w _)
  have HB1 := Lib.hid (((Below.refl w.heap.size w).alloc (Nat.le_refl _) (.cells #[.int .i64 xid, .int .i64 v, .int .i64 low, .int .i64 high, .string body] 49)).trans (hB1.mono (by simp)))
  clear hB1
  cases b
  · clear hq
    go_wp2
    go_ret2
    refine ⟨?_, HB1.out⟩
    rw [HR1.out, HR2.out]; rfl
  · obtain ⟨B, hBq⟩ : ∃ B, B = w.heap.size := ⟨_, rfl⟩
    rw [← hBq] at hq
    have HBq := Lib.hid hBq
    have hBl : B < w1.heap.size := by omega
    clear hBq
    have f0 : w1.cell? ⟨B, 0, none⟩ = some (.int .i64 xid) := by rw [cell_of_row w1 B _ _ _ _ hq]; rfl
    have HQ := Lib.hid hq
    clear hq
    obtain ⟨p, hp⟩ : ∃ p, p = w1.heap.size := ⟨_, rfl⟩
    have HP := Lib.hid hp
    clear hp
    rw [← HBq.out]
    have hW2 := (Wr.new w1).alloc (.cells #[.int .i64 xid, .int .i64 1] 3)
    have hq2 : ((w1.alloc (.cells #[.slice none 0 0] 63)).alloc (.cells #[.int .i64 xid, .int .i64 1] 3)).heap[B]? = _ :=
      (((World.grownBy_alloc _ _ none).block B (by simp; omega) (by simp)).trans ((World.grownBy_alloc w1 _ none).block B hBl (by simp))).trans HQ.out
    have HB2 := Lib.hid ((HB1.out.alloc (by omega) (.cells #[.slice none 0 0] 63)).alloc (by simp; omega) (.cells #[.int .i64 xid, .int .i64 1] 3))
    have HI2 := Lib.hid (built2 (w1.alloc (.cells #[.slice none 0 0] 63)) (w1.heap.size + 1) (by simp) xid 1)
    have HW2 := Lib.hid hW2
    have HQ2 := Lib.hid hq2
    clear hW2 hq2
    go_wp2_with fail
    refine (putU_n w1.heap.size (.slice none 0 0) [] [xid, 1] 2 rfl (some ⟨w1.heap.size + 1, 0, none⟩) 2 _ HW2.out HI2.out (by intro g off e; simp only [Option.some.injEq, Addr.mk.injEq, and_true] at e; obtain ⟨e1, _⟩ := e; exact ⟨by omega, by simp [Value.ownBlock]⟩) (by decide)).mono ?_
    rintro e w3 ⟨rfl, v3, hW3, hC3⟩
    have HQ3 := Lib.hid (HW2.out.far hC3 HQ2.out (by decide))
    have HW3 := Lib.hid hW3
    have HB3 := Lib.hid (HB2.out.trans (hC3.below (B := w.heap.size) (by simp; omega) (by omega) (by intro k hk; simp [Value.ownBlock] at hk)))
    have HV3 : Hid (∀ k, v3.ownBlock = some k → w.heap.size ≤ k) := Lib.hid (by
      intro k hk
      rcases hC3.own with e | ⟨g, e, hg⟩
      · rw [e] at hk; simp [Value.ownBlock] at hk
      · rw [e] at hk
        have : g = k := by simpa using hk
        simp at hg; omega)
    clear hW3 hC3 f0
    rw [← HP.out] at HW3 ⊢
    have hpw : w.heap.size ≤ p := by rw [HP.out]; omega
    have HC3 := Lib.hid (Chg.refl p v3 w3)
    by_cases h6 : v = 6
    · subst h6
      have HL : Hid (loB 6 = true) := Lib.hid rfl
      have HH : Hid (hiB 6 = true) := Lib.hid rfl
      have HHD : Hid ([] ++ putU [xid, 1] ++ putU [1, 0] ++ numBytes low 4 ++ numBytes high 4 = R.head) := Lib.hid (by rw [HR.out]; rfl)
      have f1 : w3.cell? ⟨B, 1, none⟩ = some (.int .i64 6) := by rw [cell_of_row w3 B _ _ _ _ HQ3.out]; rfl
      have f2 : w3.cell? ⟨B, 2, none⟩ = some (.int .i64 low) := by rw [cell_of_row w3 B _ _ _ _ HQ3.out]; rfl
      have f3 : w3.cell? ⟨B, 3, none⟩ = some (.int .i64 high) := by rw [cell_of_row w3 B _ _ _ _ HQ3.out]; rfl
      have f4 : w3.cell? ⟨B, 4, none⟩ = some (.string body) := by rw [cell_of_row w3 B _ _ _ _ HQ3.out]; rfl
      have HI3x := Lib.hid (built2 w3 w3.heap.size rfl 1 0)
      go_wp2_with fail
      refine (putU_n p v3 _ [1, 0] 2 rfl (some ⟨w3.heap.size, 0, none⟩) 2 _ (HW3.out.alloc (.cells #[.int .i64 1, .int .i64 0] 3)) HI3x.out (by intro g off e; simp only [Option.some.injEq, Addr.mk.injEq, and_true] at e; obtain ⟨e1, _⟩ := e; exact ⟨by have := HW3.out.lt; omega, fun e2 => by have := HW3.out.own_lt e2.symm; omega⟩) (by simp [putU_length])).mono ?_
      rintro e w4 ⟨rfl, v4, hW4, hC4⟩
      have HW4 := Lib.hid hW4
      have HC4 := Lib.hid (HC3.out.trans ((Chg.alloc p v3 w3 (.cells #[.int .i64 1, .int .i64 0] 3)).trans hC4))
      have HQ4 := Lib.hid (HW3.out.far HC4.out HQ3.out (by decide))
      clear hW4 hC4
      clear f1 f2 f3 f4
      have f1 : w4.cell? ⟨B, 1, none⟩ = some (.int .i64 6) := by rw [cell_of_row w4 B _ _ _ _ HQ4.out]; rfl
      have f2 : w4.cell? ⟨B, 2, none⟩ = some (.int .i64 low) := by rw [cell_of_row w4 B _ _ _ _ HQ4.out]; rfl
      have f3 : w4.cell? ⟨B, 3, none⟩ = some (.int .i64 high) := by rw [cell_of_row w4 B _ _ _ _ HQ4.out]; rfl
      have f4 : w4.cell? ⟨B, 4, none⟩ = some (.string body) := by rw [cell_of_row w4 B _ _ _ _ HQ4.out]; rfl
      go_wp2_with fail
      refine (hasLow_any 6 _ true HL.out).mono ?_
      rintro e w' ⟨rfl, rfl⟩
      go_wp2_with fail
      refine (uint_any p v4 _ low w4 HW4.out (by have e1 := lu2 xid 1; have e2 := lu2 1 0; have e3 := lu2 1 1; have e4 := lu2 0 0; have e5 := lo0; have e6 := numBytes_length 6 4; have e7 := numBytes_length low 4; have e8 := numBytes_length high 4; have e9 : ByteArray.size ⟨#[]⟩ = 0 := rfl; simp only [List.length_append, List.length_nil]; omega)).mono ?_
      rintro e w5 ⟨rfl, v5, hW5, hC5⟩
      have HW5 := Lib.hid hW5
      have HC5 := Lib.hid (HC4.out.trans hC5)
      have HQ5 := Lib.hid (HW3.out.far HC5.out HQ3.out (by decide))
      clear hW5 hC5 f1 f2 f3 f4
      have f1 : w5.cell? ⟨B, 1, none⟩ = some (.int .i64 6) := by rw [cell_of_row w5 B _ _ _ _ HQ5.out]; rfl
      have f2 : w5.cell? ⟨B, 2, none⟩ = some (.int .i64 low) := by rw [cell_of_row w5 B _ _ _ _ HQ5.out]; rfl
      have f3 : w5.cell? ⟨B, 3, none⟩ = some (.int .i64 high) := by rw [cell_of_row w5 B _ _ _ _ HQ5.out]; rfl
      have f4 : w5.cell? ⟨B, 4, none⟩ = some (.string body) := by rw [cell_of_row w5 B _ _ _ _ HQ5.out]; rfl
      go_wp2_with fail
      refine (hasHigh_any 6 _ true HH.out).mono ?_
      rintro e w' ⟨rfl, rfl⟩
      go_wp2_with fail
      refine (uint_any p v5 _ high w5 HW5.out (by have e1 := lu2 xid 1; have e2 := lu2 1 0; have e3 := lu2 1 1; have e4 := lu2 0 0; have e5 := lo0; have e6 := numBytes_length 6 4; have e7 := numBytes_length low 4; have e8 := numBytes_length high 4; have e9 : ByteArray.size ⟨#[]⟩ = 0 := rfl; simp only [List.length_append, List.length_nil]; omega)).mono ?_
      rintro e w6 ⟨rfl, v6, hW6, hC6⟩
      have HW6 := Lib.hid hW6
      have HC6 := Lib.hid (HC5.out.trans hC6)
      have HQ6 := Lib.hid (HW3.out.far HC6.out HQ3.out (by decide))
      clear hW6 hC6 f1 f2 f3 f4
      have f1 : w6.cell? ⟨B, 1, none⟩ = some (.int .i64 6) := by rw [cell_of_row w6 B _ _ _ _ HQ6.out]; rfl
      have f2 : w6.cell? ⟨B, 2, none⟩ = some (.int .i64 low) := by rw [cell_of_row w6 B _ _ _ _ HQ6.out]; rfl
      have f3 : w6.cell? ⟨B, 3, none⟩ = some (.int .i64 high) := by rw [cell_of_row w6 B _ _ _ _ HQ6.out]; rfl
      have f4 : w6.cell? ⟨B, 4, none⟩ = some (.string body) := by rw [cell_of_row w6 B _ _ _ _ HQ6.out]; rfl
      have HWk := HW6
      rw [HHD.out] at HWk
      go_wp2_with fail
      refine (rest_any p v6 R.head body w6 HWk.out (by have := head_le R; omega) hs).mono ?_
      rintro e w' ⟨rfl, rfl⟩
      have HBk := Lib.hid (HB3.out.trans (HC6.out.below (B := w.heap.size) HB3.out.size hpw HV3.out))
      go_wp2
      go_ret2
      refine ⟨?_, HBk.out⟩
      rw [HR1.out, HR2.out]
      simp

    by_cases h7 : v = 7
    · subst h7
      have HL : Hid (loB 7 = true) := Lib.hid rfl
      have HH : Hid (hiB 7 = false) := Lib.hid rfl
      have HHD : Hid ([] ++ putU [xid, 1] ++ putU [1, 1] ++ numBytes low 4 = R.head) := Lib.hid (by rw [HR.out]; simp [Rp.head, Rp.mid, loB, hiB])
      have f1 : w3.cell? ⟨B, 1, none⟩ = some (.int .i64 7) := by rw [cell_of_row w3 B _ _ _ _ HQ3.out]; rfl
      have f2 : w3.cell? ⟨B, 2, none⟩ = some (.int .i64 low) := by rw [cell_of_row w3 B _ _ _ _ HQ3.out]; rfl
      have f3 : w3.cell? ⟨B, 3, none⟩ = some (.int .i64 high) := by rw [cell_of_row w3 B _ _ _ _ HQ3.out]; rfl
      have f4 : w3.cell? ⟨B, 4, none⟩ = some (.string body) := by rw [cell_of_row w3 B _ _ _ _ HQ3.out]; rfl
      have HI3x := Lib.hid (built2 w3 w3.heap.size rfl 1 1)
      go_wp2_with fail
      refine (putU_n p v3 _ [1, 1] 2 rfl (some ⟨w3.heap.size, 0, none⟩) 2 _ (HW3.out.alloc (.cells #[.int .i64 1, .int .i64 1] 3)) HI3x.out (by intro g off e; simp only [Option.some.injEq, Addr.mk.injEq, and_true] at e; obtain ⟨e1, _⟩ := e; exact ⟨by have := HW3.out.lt; omega, fun e2 => by have := HW3.out.own_lt e2.symm; omega⟩) (by simp [putU_length])).mono ?_
      rintro e w4 ⟨rfl, v4, hW4, hC4⟩
      have HW4 := Lib.hid hW4
      have HC4 := Lib.hid (HC3.out.trans ((Chg.alloc p v3 w3 (.cells #[.int .i64 1, .int .i64 1] 3)).trans hC4))
      have HQ4 := Lib.hid (HW3.out.far HC4.out HQ3.out (by decide))
      clear hW4 hC4
      clear f1 f2 f3 f4
      have f1 : w4.cell? ⟨B, 1, none⟩ = some (.int .i64 7) := by rw [cell_of_row w4 B _ _ _ _ HQ4.out]; rfl
      have f2 : w4.cell? ⟨B, 2, none⟩ = some (.int .i64 low) := by rw [cell_of_row w4 B _ _ _ _ HQ4.out]; rfl
      have f3 : w4.cell? ⟨B, 3, none⟩ = some (.int .i64 high) := by rw [cell_of_row w4 B _ _ _ _ HQ4.out]; rfl
      have f4 : w4.cell? ⟨B, 4, none⟩ = some (.string body) := by rw [cell_of_row w4 B _ _ _ _ HQ4.out]; rfl
      go_wp2_with fail
      refine (hasLow_any 7 _ true HL.out).mono ?_
      rintro e w' ⟨rfl, rfl⟩
      go_wp2_with fail
      refine (uint_any p v4 _ low w4 HW4.out (by have e1 := lu2 xid 1; have e2 := lu2 1 0; have e3 := lu2 1 1; have e4 := lu2 0 0; have e5 := lo0; have e6 := numBytes_length 7 4; have e7 := numBytes_length low 4; have e8 := numBytes_length high 4; have e9 : ByteArray.size ⟨#[]⟩ = 0 := rfl; simp only [List.length_append, List.length_nil]; omega)).mono ?_
      rintro e w5 ⟨rfl, v5, hW5, hC5⟩
      have HW5 := Lib.hid hW5
      have HC5 := Lib.hid (HC4.out.trans hC5)
      have HQ5 := Lib.hid (HW3.out.far HC5.out HQ3.out (by decide))
      clear hW5 hC5 f1 f2 f3 f4
      have f1 : w5.cell? ⟨B, 1, none⟩ = some (.int .i64 7) := by rw [cell_of_row w5 B _ _ _ _ HQ5.out]; rfl
      have f2 : w5.cell? ⟨B, 2, none⟩ = some (.int .i64 low) := by rw [cell_of_row w5 B _ _ _ _ HQ5.out]; rfl
      have f3 : w5.cell? ⟨B, 3, none⟩ = some (.int .i64 high) := by rw [cell_of_row w5 B _ _ _ _ HQ5.out]; rfl
      have f4 : w5.cell? ⟨B, 4, none⟩ = some (.string body) := by rw [cell_of_row w5 B _ _ _ _ HQ5.out]; rfl
      go_wp2_with fail
      refine (hasHigh_any 7 _ false HH.out).mono ?_
      rintro e w' ⟨rfl, rfl⟩
      have HWk := HW5
      rw [HHD.out] at HWk
      go_wp2_with fail
      refine (rest_any p v5 R.head body w5 HWk.out (by have := head_le R; omega) hs).mono ?_
      rintro e w' ⟨rfl, rfl⟩
      have HBk := Lib.hid (HB3.out.trans (HC5.out.below (B := w.heap.size) HB3.out.size hpw HV3.out))
      go_wp2
      go_ret2
      refine ⟨?_, HBk.out⟩
      rw [HR1.out, HR2.out]
      simp

    have b6 : (v == 6) = false := by simpa using h6
    have b7 : (v == 7) = false := by simpa using h7
    have H67 := Lib.hid (And.intro h6 h7)
    clear h6 h7
    by_cases h2 : v = 2
    · subst h2
      clear b6 b7
      have HL : Hid (loB 2 = true) := Lib.hid rfl
      have HH : Hid (hiB 2 = true) := Lib.hid rfl
      have HHD : Hid ([] ++ putU [xid, 1] ++ putU [0, 0] ++ opaqueOf ⟨#[]⟩ ++ numBytes 2 4 ++ numBytes low 4 ++ numBytes high 4 = R.head) := Lib.hid (by rw [HR.out]; simp [Rp.head, Rp.mid, loB, hiB])
      have f1 : w3.cell? ⟨B, 1, none⟩ = some (.int .i64 2) := by rw [cell_of_row w3 B _ _ _ _ HQ3.out]; rfl
      have f2 : w3.cell? ⟨B, 2, none⟩ = some (.int .i64 low) := by rw [cell_of_row w3 B _ _ _ _ HQ3.out]; rfl
      have f3 : w3.cell? ⟨B, 3, none⟩ = some (.int .i64 high) := by rw [cell_of_row w3 B _ _ _ _ HQ3.out]; rfl
      have f4 : w3.cell? ⟨B, 4, none⟩ = some (.string body) := by rw [cell_of_row w3 B _ _ _ _ HQ3.out]; rfl
      have HI3x := Lib.hid (built2 w3 w3.heap.size rfl 0 0)
      go_wp2_with fail
      refine (putU_n p v3 _ [0, 0] 2 rfl (some ⟨w3.heap.size, 0, none⟩) 2 _ (HW3.out.alloc (.cells #[.int .i64 0, .int .i64 0] 3)) HI3x.out (by intro g off e; simp only [Option.some.injEq, Addr.mk.injEq, and_true] at e; obtain ⟨e1, _⟩ := e; exact ⟨by have := HW3.out.lt; omega, fun e2 => by have := HW3.out.own_lt e2.symm; omega⟩) (by simp [putU_length])).mono ?_
      rintro e w4 ⟨rfl, v4, hW4, hC4⟩
      have HW4 := Lib.hid hW4
      have HC4 := Lib.hid (HC3.out.trans ((Chg.alloc p v3 w3 (.cells #[.int .i64 0, .int .i64 0] 3)).trans hC4))
      have HQ4 := Lib.hid (HW3.out.far HC4.out HQ3.out (by decide))
      clear hW4 hC4
      clear f1 f2 f3 f4
      have f1 : w4.cell? ⟨B, 1, none⟩ = some (.int .i64 2) := by rw [cell_of_row w4 B _ _ _ _ HQ4.out]; rfl
      have f2 : w4.cell? ⟨B, 2, none⟩ = some (.int .i64 low) := by rw [cell_of_row w4 B _ _ _ _ HQ4.out]; rfl
      have f3 : w4.cell? ⟨B, 3, none⟩ = some (.int .i64 high) := by rw [cell_of_row w4 B _ _ _ _ HQ4.out]; rfl
      have f4 : w4.cell? ⟨B, 4, none⟩ = some (.string body) := by rw [cell_of_row w4 B _ _ _ _ HQ4.out]; rfl
      go_wp2_with fail
      refine (opaque_any p v4 _ ⟨#[]⟩ w4 HW4.out (by have e1 := lu2 xid 1; have e2 := lu2 1 0; have e3 := lu2 1 1; have e4 := lu2 0 0; have e5 := lo0; have e6 := numBytes_length 2 4; have e7 := numBytes_length low 4; have e8 := numBytes_length high 4; have e9 : ByteArray.size ⟨#[]⟩ = 0 := rfl; simp only [List.length_append, List.length_nil]; omega)).mono ?_
      rintro e w5 ⟨rfl, v5, hW5, hC5⟩
      have HW5 := Lib.hid hW5
      have HC5 := Lib.hid (HC4.out.trans hC5)
      have HQ5 := Lib.hid (HW3.out.far HC5.out HQ3.out (by decide))
      clear hW5 hC5 f1 f2 f3 f4
      have f1 : w5.cell? ⟨B, 1, none⟩ = some (.int .i64 2) := by rw [cell_of_row w5 B _ _ _ _ HQ5.out]; rfl
      have f2 : w5.cell? ⟨B, 2, none⟩ = some (.int .i64 low) := by rw [cell_of_row w5 B _ _ _ _ HQ5.out]; rfl
      have f3 : w5.cell? ⟨B, 3, none⟩ = some (.int .i64 high) := by rw [cell_of_row w5 B _ _ _ _ HQ5.out]; rfl
      have f4 : w5.cell? ⟨B, 4, none⟩ = some (.string body) := by rw [cell_of_row w5 B _ _ _ _ HQ5.out]; rfl
      go_wp2_with fail
      refine (uint_any p v5 _ 2 w5 HW5.out (by have e1 := lu2 xid 1; have e2 := lu2 1 0; have e3 := lu2 1 1; have e4 := lu2 0 0; have e5 := lo0; have e6 := numBytes_length 2 4; have e7 := numBytes_length low 4; have e8 := numBytes_length high 4; have e9 : ByteArray.size ⟨#[]⟩ = 0 := rfl; simp only [List.length_append, List.length_nil]; omega)).mono ?_
      rintro e w6 ⟨rfl, v6, hW6, hC6⟩
      have HW6 := Lib.hid hW6
      have HC6 := Lib.hid (HC5.out.trans hC6)
      have HQ6 := Lib.hid (HW3.out.far HC6.out HQ3.out (by decide))
      clear hW6 hC6 f1 f2 f3 f4
      have f1 : w6.cell? ⟨B, 1, none⟩ = some (.int .i64 2) := by rw [cell_of_row w6 B _ _ _ _ HQ6.out]; rfl
      have f2 : w6.cell? ⟨B, 2, none⟩ = some (.int .i64 low) := by rw [cell_of_row w6 B _ _ _ _ HQ6.out]; rfl
      have f3 : w6.cell? ⟨B, 3, none⟩ = some (.int .i64 high) := by rw [cell_of_row w6 B _ _ _ _ HQ6.out]; rfl
      have f4 : w6.cell? ⟨B, 4, none⟩ = some (.string body) := by rw [cell_of_row w6 B _ _ _ _ HQ6.out]; rfl
      go_wp2_with fail
      refine (hasLow_any 2 _ true HL.out).mono ?_
      rintro e w' ⟨rfl, rfl⟩
      go_wp2_with fail
      refine (uint_any p v6 _ low w6 HW6.out (by have e1 := lu2 xid 1; have e2 := lu2 1 0; have e3 := lu2 1 1; have e4 := lu2 0 0; have e5 := lo0; have e6 := numBytes_length 2 4; have e7 := numBytes_length low 4; have e8 := numBytes_length high 4; have e9 : ByteArray.size ⟨#[]⟩ = 0 := rfl; simp only [List.length_append, List.length_nil]; omega)).mono ?_
      rintro e w7 ⟨rfl, v7, hW7, hC7⟩
      have HW7 := Lib.hid hW7
      have HC7 := Lib.hid (HC6.out.trans hC7)
      have HQ7 := Lib.hid (HW3.out.far HC7.out HQ3.out (by decide))
      clear hW7 hC7 f1 f2 f3 f4
      have f1 : w7.cell? ⟨B, 1, none⟩ = some (.int .i64 2) := by rw [cell_of_row w7 B _ _ _ _ HQ7.out]; rfl
      have f2 : w7.cell? ⟨B, 2, none⟩ = some (.int .i64 low) := by rw [cell_of_row w7 B _ _ _ _ HQ7.out]; rfl
      have f3 : w7.cell? ⟨B, 3, none⟩ = some (.int .i64 high) := by rw [cell_of_row w7 B _ _ _ _ HQ7.out]; rfl
      have f4 : w7.cell? ⟨B, 4, none⟩ = some (.string body) := by rw [cell_of_row w7 B _ _ _ _ HQ7.out]; rfl
      go_wp2_with fail
      refine (hasHigh_any 2 _ true HH.out).mono ?_
      rintro e w' ⟨rfl, rfl⟩
      go_wp2_with fail
      refine (uint_any p v7 _ high w7 HW7.out (by have e1 := lu2 xid 1; have e2 := lu2 1 0; have e3 := lu2 1 1; have e4 := lu2 0 0; have e5 := lo0; have e6 := numBytes_length 2 4; have e7 := numBytes_length low 4; have e8 := numBytes_length high 4; have e9 : ByteArray.size ⟨#[]⟩ = 0 := rfl; simp only [List.length_append, List.length_nil]; omega)).mono ?_
      rintro e w8 ⟨rfl, v8, hW8, hC8⟩
      have HW8 := Lib.hid hW8
      have HC8 := Lib.hid (HC7.out.trans hC8)
      have HQ8 := Lib.hid (HW3.out.far HC8.out HQ3.out (by decide))
      clear hW8 hC8 f1 f2 f3 f4
      have f1 : w8.cell? ⟨B, 1, none⟩ = some (.int .i64 2) := by rw [cell_of_row w8 B _ _ _ _ HQ8.out]; rfl
      have f2 : w8.cell? ⟨B, 2, none⟩ = some (.int .i64 low) := by rw [cell_of_row w8 B _ _ _ _ HQ8.out]; rfl
      have f3 : w8.cell? ⟨B, 3, none⟩ = some (.int .i64 high) := by rw [cell_of_row w8 B _ _ _ _ HQ8.out]; rfl
      have f4 : w8.cell? ⟨B, 4, none⟩ = some (.string body) := by rw [cell_of_row w8 B _ _ _ _ HQ8.out]; rfl
      have HWk := HW8
      rw [HHD.out] at HWk
      go_wp2_with fail
      refine (rest_any p v8 R.head body w8 HWk.out (by have := head_le R; omega) hs).mono ?_
      rintro e w' ⟨rfl, rfl⟩
      have HBk := Lib.hid (HB3.out.trans (HC8.out.below (B := w.heap.size) HB3.out.size hpw HV3.out))
      go_wp2
      go_ret2
      refine ⟨?_, HBk.out⟩
      rw [HR1.out, HR2.out]
      simp

    · have HH : Hid (hiB v = false) := Lib.hid (by simp [hiB, h2, H67.out.1])
      have HL : Hid (loB v = false) := Lib.hid (by have := HH.out; simp [loB, this, H67.out.2])
      have HHD : Hid ([] ++ putU [xid, 1] ++ putU [0, 0] ++ opaqueOf ⟨#[]⟩ ++ numBytes v 4 = R.head) := Lib.hid (by rw [HR.out]; have e1 := HL.out; have e2 := HH.out; simp [Rp.head, Rp.mid, e1, e2, H67.out.1, H67.out.2])
      clear h2
      have f1 : w3.cell? ⟨B, 1, none⟩ = some (.int .i64 v) := by rw [cell_of_row w3 B _ _ _ _ HQ3.out]; rfl
      have f2 : w3.cell? ⟨B, 2, none⟩ = some (.int .i64 low) := by rw [cell_of_row w3 B _ _ _ _ HQ3.out]; rfl
      have f3 : w3.cell? ⟨B, 3, none⟩ = some (.int .i64 high) := by rw [cell_of_row w3 B _ _ _ _ HQ3.out]; rfl
      have f4 : w3.cell? ⟨B, 4, none⟩ = some (.string body) := by rw [cell_of_row w3 B _ _ _ _ HQ3.out]; rfl
      have HI3x := Lib.hid (built2 w3 w3.heap.size rfl 0 0)
      go_wp2_with fail
      refine (putU_n p v3 _ [0, 0] 2 rfl (some ⟨w3.heap.size, 0, none⟩) 2 _ (HW3.out.alloc (.cells #[.int .i64 0, .int .i64 0] 3)) HI3x.out (by intro g off e; simp only [Option.some.injEq, Addr.mk.injEq, and_true] at e; obtain ⟨e1, _⟩ := e; exact ⟨by have := HW3.out.lt; omega, fun e2 => by have := HW3.out.own_lt e2.symm; omega⟩) (by simp [putU_length])).mono ?_
      rintro e w4 ⟨rfl, v4, hW4, hC4⟩
      have HW4 := Lib.hid hW4
      have HC4 := Lib.hid (HC3.out.trans ((Chg.alloc p v3 w3 (.cells #[.int .i64 0, .int .i64 0] 3)).trans hC4))
      have HQ4 := Lib.hid (HW3.out.far HC4.out HQ3.out (by decide))
      clear hW4 hC4
      clear f1 f2 f3 f4
      have f1 : w4.cell? ⟨B, 1, none⟩ = some (.int .i64 v) := by rw [cell_of_row w4 B _ _ _ _ HQ4.out]; rfl
      have f2 : w4.cell? ⟨B, 2, none⟩ = some (.int .i64 low) := by rw [cell_of_row w4 B _ _ _ _ HQ4.out]; rfl
      have f3 : w4.cell? ⟨B, 3, none⟩ = some (.int .i64 high) := by rw [cell_of_row w4 B _ _ _ _ HQ4.out]; rfl
      have f4 : w4.cell? ⟨B, 4, none⟩ = some (.string body) := by rw [cell_of_row w4 B _ _ _ _ HQ4.out]; rfl
      go_wp2_with fail
      refine (opaque_any p v4 _ ⟨#[]⟩ w4 HW4.out (by have e1 := lu2 xid 1; have e2 := lu2 1 0; have e3 := lu2 1 1; have e4 := lu2 0 0; have e5 := lo0; have e6 := numBytes_length v 4; have e7 := numBytes_length low 4; have e8 := numBytes_length high 4; have e9 : ByteArray.size ⟨#[]⟩ = 0 := rfl; simp only [List.length_append, List.length_nil]; omega)).mono ?_
      rintro e w5 ⟨rfl, v5, hW5, hC5⟩
      have HW5 := Lib.hid hW5
      have HC5 := Lib.hid (HC4.out.trans hC5)
      have HQ5 := Lib.hid (HW3.out.far HC5.out HQ3.out (by decide))
      clear hW5 hC5 f1 f2 f3 f4
      have f1 : w5.cell? ⟨B, 1, none⟩ = some (.int .i64 v) := by rw [cell_of_row w5 B _ _ _ _ HQ5.out]; rfl
      have f2 : w5.cell? ⟨B, 2, none⟩ = some (.int .i64 low) := by rw [cell_of_row w5 B _ _ _ _ HQ5.out]; rfl
      have f3 : w5.cell? ⟨B, 3, none⟩ = some (.int .i64 high) := by rw [cell_of_row w5 B _ _ _ _ HQ5.out]; rfl
      have f4 : w5.cell? ⟨B, 4, none⟩ = some (.string body) := by rw [cell_of_row w5 B _ _ _ _ HQ5.out]; rfl
      go_wp2_with fail
      refine (uint_any p v5 _ v w5 HW5.out (by have e1 := lu2 xid 1; have e2 := lu2 1 0; have e3 := lu2 1 1; have e4 := lu2 0 0; have e5 := lo0; have e6 := numBytes_length v 4; have e7 := numBytes_length low 4; have e8 := numBytes_length high 4; have e9 : ByteArray.size ⟨#[]⟩ = 0 := rfl; simp only [List.length_append, List.length_nil]; omega)).mono ?_
      rintro e w6 ⟨rfl, v6, hW6, hC6⟩
      have HW6 := Lib.hid hW6
      have HC6 := Lib.hid (HC5.out.trans hC6)
      have HQ6 := Lib.hid (HW3.out.far HC6.out HQ3.out (by decide))
      clear hW6 hC6 f1 f2 f3 f4
      have f1 : w6.cell? ⟨B, 1, none⟩ = some (.int .i64 v) := by rw [cell_of_row w6 B _ _ _ _ HQ6.out]; rfl
      have f2 : w6.cell? ⟨B, 2, none⟩ = some (.int .i64 low) := by rw [cell_of_row w6 B _ _ _ _ HQ6.out]; rfl
      have f3 : w6.cell? ⟨B, 3, none⟩ = some (.int .i64 high) := by rw [cell_of_row w6 B _ _ _ _ HQ6.out]; rfl
      have f4 : w6.cell? ⟨B, 4, none⟩ = some (.string body) := by rw [cell_of_row w6 B _ _ _ _ HQ6.out]; rfl
      go_wp2_with fail
      refine (hasLow_any v _ false HL.out).mono ?_
      rintro e w' ⟨rfl, rfl⟩
      go_wp2_with fail
      refine (hasHigh_any v _ false HH.out).mono ?_
      rintro e w' ⟨rfl, rfl⟩
      have HWk := HW6
      rw [HHD.out] at HWk
      go_wp2_with fail
      refine (rest_any p v6 R.head body w6 HWk.out (by have := head_le R; omega) hs).mono ?_
      rintro e w' ⟨rfl, rfl⟩
      have HBk := Lib.hid (HB3.out.trans (HC6.out.below (B := w.heap.size) HB3.out.size hpw HV3.out))
      go_wp2
      go_ret2
      refine ⟨?_, HBk.out⟩
      rw [HR1.out, HR2.out]
      simp

end Go.Proofs.Ytkbjimbnbocfpaa

