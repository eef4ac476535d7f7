/-
  SectorDark's walk: while the power is off nothing is done. Its conditions: the list lies in memory.
-/
import Derived.Test.YthomjcndaddbbaaStr
namespace Go.Proofs.Ythomjcndaddbbaa
open Go.RowKit

def kept : ByteArray := ⟨#[107, 101, 112, 116]⟩
def lost : ByteArray := ⟨#[108, 111, 115, 116]⟩
/-- The disk while the power is off. -/
def dark : Dk := (((((Dk.new 4).queued 0 kept).wrote).flushed.setCut 1 0).queued 1 lost).after

theorem dark_is : dark = ⟨[full kept, full ⟨#[]⟩, full ⟨#[]⟩, full ⟨#[]⟩], [full kept, full ⟨#[]⟩, full ⟨#[]⟩, full ⟨#[]⟩], [], true, 0, 0, 1, 1⟩ := by
  have b0 : bitOf 0 0 = false := by decide
  simp [dark, Dk.new, Dk.queued, Dk.wrote, Dk.flushed, Dk.setCut, Dk.after, Dk.lose, loseL, b0]

theorem my_cut {w0 w : World} {l : Loc} {v : Value} {d : Dk} {n : Nat} (h : Mine w0 w l v d n) (k m : Int) (hk : k ≤ 9223372036854775807) : Calls Try.prog 17 #[.pointer (some ⟨l.p, 0, none⟩), .int .i64 k, .int .i64 m] w fun e w' => e = .returned (.tuple #[]) ∧ MineTo w0 l (d.setCut k m) n w' := by
  refine (cut_any h.disk k m).mono ?_
  rintro e w' ⟨rfl, hd⟩
  exact ⟨rfl, h.of hd (Dk.setCut_ok h.ok k m hk) h.len⟩
theorem my_on {w0 w : World} {l : Loc} {v : Value} {d : Dk} {n : Nat} (h : Mine w0 w l v d n) : Calls Try.prog 20 #[.pointer (some ⟨l.p, 0, none⟩)] w fun e w' => e = .returned (.tuple #[]) ∧ MineTo w0 l d.on n w' := by
  refine (on_any h.disk).mono ?_
  rintro e w' ⟨rfl, hd⟩
  exact ⟨rfl, h.of hd (Dk.on_ok h.ok) h.len⟩
theorem my_counts {w0 w : World} {l : Loc} {v : Value} {d : Dk} {n : Nat} (h : Mine w0 w l v d n) (a b : Int) (ha : d.wr = a) (hb : d.fl = b) : Calls Try.prog 21 #[.pointer (some ⟨l.p, 0, none⟩)] w fun e w' => e = .returned (.tuple #[.int .i64 a, .int .i64 b]) ∧ MineTo w0 l d n w' := by
  subst ha hb
  refine (counts_any h.disk).mono ?_
  rintro e w' ⟨rfl, hd⟩
  exact ⟨rfl, h.of hd h.ok h.len⟩
theorem my_write_cut {w0 w : World} {l : Loc} {v : Value} {d : Dk} {n : Nat} (h : Mine w0 w l v d n) (k : Nat) (s : ByteArray) (hk : k < n) (hs : s.size ≤ 256) (ho : d.off = false) (hc : d.cut = 1) (hql : d.Q.length < 1000000000000) :
    Calls Try.prog 11 #[.pointer (some ⟨l.p, 0, none⟩), .int .i64 k, .string s] w fun e w' => e = .returned (.int .i64 20) ∧ MineTo w0 l (d.queued k s).after n w' := by
  have hk' : k < d.L.length := by rw [h.len]; exact hk
  refine (write_cut h.disk k s hk' hs ho h.ok.inQ hql (by simp [Dk.fails, hc])).mono ?_
  rintro e w' ⟨rfl, hd⟩
  exact ⟨rfl, h.of hd (Dk.after_ok (Dk.queued_ok h.ok k s hk')) (Dk.after_len.trans h.len)⟩
theorem Mine.drewN {w0 w : World} {l : Loc} {v : Value} {d : Dk} {n : Nat} (h : Mine w0 w l v d n) (m : Nat) : Mine w0 (w.drewN m) l v d n :=
  ⟨h.disk.same rfl, h.ok, h.len, below_drewN h.below m, h.atP, h.atB, h.atC, h.atV⟩

set_option maxRecDepth 100000 in
set_option maxHeartbeats 2000000 in
theorem dark_walk (L : List ByteArray) (ao : Option Addr) (cap : Nat) (n : Int) (w : World) (hA : StrAt w ao L) (hl : L.length ≤ 9223372036854775807) :
    Calls Try.prog 7 #[.slice ao L.length cap, .int .i64 n] w fun e w' => e = .returned (.bool true) ∧ Below w.heap.size w w' := by
  have HA := Lib.hid hA
  clear hA
  go_enter Try.func7, Try.ntmps7
  go_wp2_with fail
  refine (speaks_any w).mono ?_
  rintro e w0 ⟨rfl, hB0⟩
  have HB0 := Lib.hid hB0
  clear hB0
  go_wp2_with fail
  refine (my_new (n := 4) w0 (by decide) (by decide)).mono ?_
  rintro e w1 ⟨l, rfl, v1, h1⟩
  go_wp2_with fail
  refine (my_write h1 0 kept (by decide) (by decide) rfl rfl (by simp [Dk.new]) (Int.le_refl 0) (by show (0 : Int) < _; omega)).mono ?_
  rintro e w2 ⟨rfl, v2, h2⟩
  clear h1
  go_wp2_with fail
  refine (my_flush h2 rfl rfl (Int.le_refl 0) (by show (0 : Int) < _; omega)).mono ?_
  rintro e w3 ⟨rfl, v3, h3⟩
  clear h2
  go_wp2_with fail
  refine (my_cut h3 1 0 (by omega)).mono ?_
  rintro e w4 ⟨rfl, v4, h4⟩
  clear h3
  go_wp2_with fail
  refine (my_write_cut h4 1 lost (by decide) (by decide) rfl rfl (by decide)).mono ?_
  rintro e w5 ⟨rfl, v5, h5⟩
  clear h4
  change Mine w0 w5 l v5 dark 4 at h5
  rw [dark_is] at h5
  go_wp2_with fail
  refine (off_any h5.disk).mono ?_
  rintro e w6 ⟨rfl, rfl⟩
  go_wp2_with fail
  refine (my_counts h5 1 1 rfl rfl).mono ?_
  rintro e w6 ⟨rfl, v6, h6⟩
  clear h5
  obtain ⟨D, hD⟩ : ∃ D : Dk, D = ⟨[full kept, full ⟨#[]⟩, full ⟨#[]⟩, full ⟨#[]⟩], [full kept, full ⟨#[]⟩, full ⟨#[]⟩, full ⟨#[]⟩], [], true, 0, 0, 1, 1⟩ := ⟨_, rfl⟩
  rw [← hD] at h6
  have HD := Lib.hid hD
  have H6 := Lib.hid h6
  clear h6 hD
  have HO : Hid (D.off = true) := Lib.hid (by rw [HD.out])
  go_wp2
  go_loopw [9] (fun i wr => ∃ k : Nat, k ≤ 20 ∧ k ≤ L.length ∧ i = .int .i64 k ∧ ∃ v, Mine w0 wr l v D 4) (fun i _ => 20 - (intOf i).toNat)
  case atStart => exact ⟨0, by omega, by omega, rfl, v6, H6.out⟩
  case round =>
    obtain ⟨k, hk1, hk2, rfl, v, hM⟩ := hrel
    have HM := Lib.hid hM
    clear hM
    by_cases hlt : k < L.length ∧ k < 20
    · obtain ⟨hlt1, hlt2⟩ := hlt
      obtain ⟨g, off, rfl, hg, hc⟩ := (HA.out.below (HB0.out.trans (HM.out.below.mono HB0.out.size))) k hlt1
      obtain ⟨s, hs⟩ : ∃ s, s = L[k] := ⟨_, rfl⟩
      rw [← hs] at hc
      clear hs
      have hb3 := and3 k
      have hsz : (s.extract 0 (min (s.size : Int) 256).toNat).size ≤ 256 := cut256_size s
      go_wp2
      go_quiet (first
        | ((go_at_call 11); (with_reducible refine (write_off (HM.out.drewN _).disk ((k : Int) % 4) (s.extract 0 (min (s.size : Int) 256).toNat) (by omega) (by rw [HM.out.len]; omega) hsz HO.out).mono ?_); rintro e w' ⟨rfl, rfl⟩; exact ⟨rfl, _, rfl⟩)
        | (go_at_call 15; refine (flush_off (HM.out.drewN _).disk HO.out).mono ?_; rintro e w' ⟨rfl, rfl⟩; exact ⟨rfl, _, rfl⟩))
      go_wp2
      go_roundw
      case rel => exact ⟨k + 1, by omega, by omega, by go_num, v, HM.out.drewN _⟩
      case measure => simp [intOf]; omega
    · obtain ⟨A, a1, a2, a3⟩ : ∃ A, A = full kept ∧ A.size = 256 ∧ ((A.extract 0 4).toList == [107, 101, 112, 116]) = true := ⟨_, rfl, full_size _ (by decide), by decide +kernel⟩
      obtain ⟨C, c1, c2, c3⟩ : ∃ C, C = full ⟨#[]⟩ ∧ C.size = 256 ∧ ∀ h : 0 < C.size, C[0].toNat = 0 := ⟨_, rfl, full_size _ (by decide), by decide +kernel⟩
      have A1 := Lib.hid a1
      have C1 := Lib.hid c1
      have c3' := c3 (by omega)
      clear a1 c1 c3
      have hb3 := and3i n
      have hm3 : (n % 4).toNat < 4 := by omega
      obtain ⟨m, hm⟩ : ∃ m, m = (n % 4).toNat := ⟨_, rfl⟩
      rw [← hm] at hb3 hm3
      clear hm
      by_cases h1 : k < L.length
      · have hd : decide ((k : Int) < 20) = false := decide_eq_false (by omega)
        clear hlt
        go_wp2_with fail
        refine (read_off HM.out.disk 0 (by omega) (by rw [HM.out.len]; omega) HO.out).mono ?_
        rintro e w7 ⟨rfl, rfl⟩
        go_wp2_with fail
        refine (my_on HM.out).mono ?_
        rintro e w8 ⟨rfl, v8, h8⟩
        have H8 := Lib.hid h8
        clear h8
        go_wp2_with fail
        refine (my_read H8.out 0 (by decide) rfl A (by rw [HD.out, A1.out]; rfl)).mono ?_
        rintro e w9 ⟨rfl, rfl⟩
        go_wp2_with fail
        refine (my_read H8.out 1 (by decide) rfl C (by rw [HD.out, C1.out]; rfl)).mono ?_
        rintro e w9 ⟨rfl, rfl⟩
        go_wp2_with fail
        refine (my_counts H8.out 1 1 (by rw [HD.out]; rfl) (by rw [HD.out]; rfl)).mono ?_
        rintro e w9 ⟨rfl, v9, h9⟩
        have H9 := Lib.hid h9
        clear h9
        go_wp2_with fail
        refine (my_write H9.out m ⟨#[97]⟩ hm3 (by decide) rfl rfl (by rw [HD.out]; decide) (by rw [HD.out]; decide) (by rw [HD.out]; decide)).mono ?_
        rintro e wA ⟨rfl, vA, hA⟩
        have HZ := Lib.hid (HB0.out.trans (hA.below.mono HB0.out.size))
        clear hA
        go_wp2
        go_ret
        exact ⟨rfl, HZ.out⟩
      · clear hlt
        go_wp2_with fail
        refine (read_off HM.out.disk 0 (by omega) (by rw [HM.out.len]; omega) HO.out).mono ?_
        rintro e w7 ⟨rfl, rfl⟩
        go_wp2_with fail
        refine (my_on HM.out).mono ?_
        rintro e w8 ⟨rfl, v8, h8⟩
        have H8 := Lib.hid h8
        clear h8
        go_wp2_with fail
        refine (my_read H8.out 0 (by decide) rfl A (by rw [HD.out, A1.out]; rfl)).mono ?_
        rintro e w9 ⟨rfl, rfl⟩
        go_wp2_with fail
        refine (my_read H8.out 1 (by decide) rfl C (by rw [HD.out, C1.out]; rfl)).mono ?_
        rintro e w9 ⟨rfl, rfl⟩
        go_wp2_with fail
        refine (my_counts H8.out 1 1 (by rw [HD.out]; rfl) (by rw [HD.out]; rfl)).mono ?_
        rintro e w9 ⟨rfl, v9, h9⟩
        have H9 := Lib.hid h9
        clear h9
        go_wp2_with fail
        refine (my_write H9.out m ⟨#[97]⟩ hm3 (by decide) rfl rfl (by rw [HD.out]; decide) (by rw [HD.out]; decide) (by rw [HD.out]; decide)).mono ?_
        rintro e wA ⟨rfl, vA, hA⟩
        have HZ := Lib.hid (HB0.out.trans (hA.below.mono HB0.out.size))
        clear hA
        go_wp2
        go_ret
        exact ⟨rfl, HZ.out⟩
end Go.Proofs.Ythomjcndaddbbaa
