/-
  The first line of the laws holds: of two writes the second lasts. And what the calls of a disk of which no cut is set come to. Their conditions: as said.
-/
import Derived.Test.YthomjcndaddbbaaWc
import Derived.Test.YthomjcndaddbbaaNew
import Derived.Test.YthomjcndaddbbaaDl
namespace Go.Proofs.Ythomjcndaddbbaa
open Go.RowKit

/-- A disk that the call itself made, behind the memory that was there: its power is on and no cut is set. -/
structure Mine (w0 w : World) (l : Loc) (v : Value) (d : Dk) (n : Nat) : Prop where
  disk : Disk w l v d
  ok : d.Ok
  len : d.L.length = n
  below : Below w0.heap.size w0 w
  atP : w0.heap.size ≤ l.p
  atB : w0.heap.size ≤ l.b
  atC : w0.heap.size ≤ l.c
  atV : ∀ k, v.ownBlock = some k → w0.heap.size ≤ k

theorem Mine.next {w0 w w' : World} {l : Loc} {v v' : Value} {d d' : Dk} {n : Nat} (h : Mine w0 w l v d n) (hd : Disk w' l v' d') (hc : Chg l v v' w w') (hok : d'.Ok) (hl : d'.L.length = n) : Mine w0 w' l v' d' n := by
  refine ⟨hd, hok, hl, h.below.trans (hc.below h.below.size h.atP h.atB h.atC h.atV), h.atP, h.atB, h.atC, ?_⟩
  intro k hk
  rcases hc.own with e | e | ⟨g, e, hg⟩
  · rw [e] at hk; cases hk
  · rw [e] at hk; exact h.atV k hk
  · rw [e] at hk
    have : g = k := by simpa using hk
    have := h.below.size
    omega

def MineTo (w0 : World) (l : Loc) (d : Dk) (n : Nat) (w' : World) : Prop := ∃ v', Mine w0 w' l v' d n

section
variable {w0 w : World} {l : Loc} {v : Value} {d : Dk} {n : Nat}
theorem Mine.of (h : Mine w0 w l v d n) {d' : Dk} {w' : World} (hd : DkTo w l v d' w') (hok : d'.Ok) (hl : d'.L.length = n) : MineTo w0 l d' n w' := by
  obtain ⟨v', a, b⟩ := hd
  exact ⟨v', h.next a b hok hl⟩

theorem my_new (w : World) (h1 : 1 ≤ n) (hn : n ≤ 1026) : Calls Try.prog 9 #[.int .i64 n] w fun e w' => ∃ l : Loc, e = .returned (.tuple #[.pointer (some ⟨l.p, 0, none⟩), .int .i64 0]) ∧ MineTo w l (Dk.new n) n w' := by
  refine (new_any n w h1 hn).mono ?_
  rintro e w' ⟨l, rfl, hD, hB, h1, h2, h3⟩
  exact ⟨l, rfl, _, hD, Dk.new_ok n, Dk.new_len n, hB, h1, h2, h3, by intro k hk; simp [Value.ownBlock] at hk⟩

/-- A write with the power on and no cut set. -/
theorem my_write (h : Mine w0 w l v d n) (k : Nat) (s : ByteArray) (hk : k < n) (hs : s.size ≤ 256) (ho : d.off = false) (hc : d.cut = 0) (hql : d.Q.length < 5000000000000) (hw0 : 0 ≤ d.wr) (hw1 : d.wr < 9223372036854775807) :
    Calls Try.prog 11 #[.pointer (some ⟨l.p, 0, none⟩), .int .i64 k, .string s] w fun e w' => e = .returned (.int .i64 0) ∧ MineTo w0 l (d.queued k s).wrote n w' := by
  have hk' : k < d.L.length := by rw [h.len]; exact hk
  refine (write_ok h.disk k s hk' hs ho h.ok.inQ hql h.ok.cut0 h.ok.cut1 (by simp [Dk.fails, hc]) hw0 hw1).mono ?_
  rintro e w' ⟨rfl, hd⟩
  rw [Dk.after_none (d := d.queued k s) hc] at hd
  exact ⟨rfl, h.of hd (Dk.wrote_ok (Dk.queued_ok h.ok k s hk')) h.len⟩

theorem my_flush (h : Mine w0 w l v d n) (ho : d.off = false) (hc : d.cut = 0) (hw0 : 0 ≤ d.fl) (hw1 : d.fl < 9223372036854775807) :
    Calls Try.prog 15 #[.pointer (some ⟨l.p, 0, none⟩)] w fun e w' => e = .returned (.int .i64 0) ∧ MineTo w0 l d.flushed n w' := by
  refine (flush_ok h.disk ho h.ok.cut0 h.ok.cut1 (by simp [Dk.fails, hc]) hw0 hw1).mono ?_
  rintro e w' ⟨rfl, hd⟩
  rw [Dk.after_none hc] at hd
  exact ⟨rfl, h.of hd (Dk.flushed_ok h.ok) ((Dk.flushed_len h.ok).trans h.len)⟩

theorem my_crash (h : Mine w0 w l v d n) (k : Int) : Calls Try.prog 18 #[.pointer (some ⟨l.p, 0, none⟩), .int .i64 k] w fun e w' => e = .returned (.tuple #[]) ∧ MineTo w0 l (d.crash k) n w' := by
  refine (crash_any h.disk h.ok.inQ k).mono ?_
  rintro e w' ⟨rfl, hd⟩
  exact ⟨rfl, h.of hd (Dk.crash_ok h.ok k) ((Dk.crash_len k).trans h.len)⟩

theorem my_read (h : Mine w0 w l v d n) (k : Nat) (hk : k < n) (ho : d.off = false) (s : ByteArray) (hs : d.S.getD k ⟨#[]⟩ = s) : Calls Try.prog 13 #[.pointer (some ⟨l.p, 0, none⟩), .int .i64 k] w fun e w' => e = .returned (.tuple #[.string s, .int .i64 0]) ∧ w = w' := by
  rw [← hs]
  exact read_ok h.disk k (by rw [h.len]; exact hk) ho
end

theorem full_size (s : ByteArray) (h : s.size ≤ 256) : (full s).size = 256 := by
  show (full s).data.size = 256
  have : s.data.size = s.size := rfl
  simp [full, this]; omega

theorem speaks_S : (((((Dk.new 2).queued 0 ⟨#[97]⟩).wrote.queued 1 ⟨#[98]⟩).wrote).crash 2).S = [full ⟨#[]⟩, full ⟨#[98]⟩] := by
  have b0 : bitOf 2 0 = false := by decide
  have b1 : bitOf 2 1 = true := by decide
  simp [Dk.new, Dk.queued, Dk.wrote, Dk.crash, Dk.lose, Dk.on, loseL, b0, b1]

set_option maxRecDepth 100000 in
set_option maxHeartbeats 1000000 in
theorem speaks_any (w : World) : Calls Try.prog 8 #[] w fun e w' => e = .returned (.bool true) ∧ Below w.heap.size w w' := by
  go_enter Try.func8, Try.ntmps8
  go_wp2_with fail
  refine (my_new (n := 2) w (by decide) (by decide)).mono ?_
  rintro e w1 ⟨l, rfl, v1, h1⟩
  go_wp2_with fail
  refine (my_write h1 0 ⟨#[97]⟩ (by decide) (by decide) rfl rfl (by simp [Dk.new]) (Int.le_refl 0) (by show (0 : Int) < _; omega)).mono ?_
  rintro e w2 ⟨rfl, v2, h2⟩
  clear h1
  go_wp2_with fail
  refine (my_write h2 1 ⟨#[98]⟩ (by decide) (by decide) rfl rfl (by simp [Dk.new, Dk.queued, Dk.wrote]) (by decide) (by show (1 : Int) < _; omega)).mono ?_
  rintro e w3 ⟨rfl, v3, h3⟩
  clear h2
  go_wp2_with fail
  refine (my_crash h3 2).mono ?_
  rintro e w4 ⟨rfl, v4, h4⟩
  clear h3
  obtain ⟨A, a1, a2, a3⟩ : ∃ A, A = full ⟨#[]⟩ ∧ A.size = 256 ∧ ∀ h : 0 < A.size, A[0].toNat = 0 := ⟨_, rfl, full_size _ (by decide), by decide +kernel⟩
  obtain ⟨C, c1, c2, c3⟩ : ∃ C, C = full ⟨#[98]⟩ ∧ C.size = 256 ∧ ((C.extract 0 1).toList == [98]) = true := ⟨_, rfl, full_size _ (by decide), by decide +kernel⟩
  have A1 := Lib.hid a1
  have C1 := Lib.hid c1
  have a3' := a3 (by omega)
  clear a1 c1 a3
  go_wp2_with fail
  refine (my_read h4 0 (by decide) rfl A (by rw [speaks_S, A1.out]; rfl)).mono ?_
  rintro e w5 ⟨rfl, rfl⟩
  go_wp2_with fail
  refine (my_read h4 1 (by decide) rfl C (by rw [speaks_S, C1.out]; rfl)).mono ?_
  rintro e w5 ⟨rfl, rfl⟩
  have HB := Lib.hid h4.below
  clear h4
  go_wp2
  go_ret
  exact ⟨rfl, HB.out⟩
end Go.Proofs.Ythomjcndaddbbaa
