/-
  The program's disk and the document's, side by side: what each call answers is one. Their conditions: as said.
-/
import Derived.Test.YthomjcndaddbbaaWc
import Derived.Test.YthomjcndaddbbaaRnew
import Derived.Test.YthomjcndaddbbaaTrio
import Derived.Test.YthomjcndaddbbaaDn
namespace Go.Proofs.Ythomjcndaddbbaa
open Go.RowKit
section
variable {w : World} {l : Loc} {v : Value} {d : Dk} {q : Nat} {F : Nat → Prop} {kp : Int} {m : Nat}

theorem bad_no {n : Int} (h : d.bad n = true) : n < 0 ∨ (d.L.length : Int) ≤ n := by simpa [Dk.bad] using h
theorem bad_yes {n : Int} (h : ¬ d.bad n = true) : 0 ≤ n ∧ n < d.L.length := by simp [Dk.bad] at h; omega

theorem w_any (h : Disk w l v d) (hok : d.Ok) (hl : d.Lim m) (hm : m < 4000000000000) (n : Int) (s : ByteArray) : Calls Try.prog 11 #[.pointer (some ⟨l.p, 0, none⟩), .int .i64 n, .string s] w fun e w' => e = .returned (.int .i64 (d.wcode n s)) ∧ DkTo w l v (d.wnext n s) w' := by
  have l1 := hl.q; have l2 := hl.wr0; have l3 := hl.wr1
  unfold Dk.wcode Dk.wnext
  by_cases hb : d.bad n = true
  · refine (write_no h n s (bad_no hb)).mono ?_
    rintro e w' ⟨rfl, rfl⟩
    exact ⟨by simp [hb], by simpa [hb] using ⟨v, h, Chg.refl _ _ _⟩⟩
  obtain ⟨n0, n1⟩ := bad_yes hb
  by_cases hs : 256 < s.size
  · refine (write_long h n s n0 n1 hs).mono ?_
    rintro e w' ⟨rfl, rfl⟩
    exact ⟨by simp [hs], by simpa [hs] using ⟨v, h, Chg.refl _ _ _⟩⟩
  by_cases ho : d.off = true
  · refine (write_off h n s n0 n1 (by omega) ho).mono ?_
    rintro e w' ⟨rfl, rfl⟩
    exact ⟨by simp [hb, hs, ho], by simpa [hb, hs, ho] using ⟨v, h, Chg.refl _ _ _⟩⟩
  have ho' : d.off = false := by simpa using ho
  by_cases hf : d.fails = true
  · have := write_cut h n.toNat s (by omega) (by omega) ho' hok.inQ (by omega) hf
    rw [Int.toNat_of_nonneg n0] at this
    refine this.mono ?_
    rintro e w' ⟨rfl, hd⟩
    exact ⟨by simp [hb, hs, hf], by simpa [hb, hs, ho', hf] using hd⟩
  · have hf' : d.fails = false := by simpa using hf
    have := write_ok h n.toNat s (by omega) (by omega) ho' hok.inQ (by omega) hok.cut0 hok.cut1 hf' l2 (by omega)
    rw [Int.toNat_of_nonneg n0] at this
    refine this.mono ?_
    rintro e w' ⟨rfl, hd⟩
    exact ⟨by simp [hb, hs, ho', hf'], by simpa [hb, hs, ho', hf'] using hd⟩

theorem rw_any (h : RDk w q F (Rk.of d kp)) (hkp : d.cut ≠ 0 → kp = d.keep) (hok : d.Ok) (hl : d.Lim m) (hm : m < 4000000000000) (n : Int) (s : ByteArray) : Calls Try.prog 12 #[.pointer (some ⟨q, 0, none⟩), .int .i64 n, .string s] w fun e w' => e = .returned (.int .i64 (d.wcode n s)) ∧ RTo w q F (Rk.of (d.wnext n s) kp) w' := by
  have l1 := hl.q; have l2 := hl.wr0; have l3 := hl.wr1
  unfold Dk.wcode Dk.wnext
  by_cases hb : d.bad n = true
  · refine (rwrite_no h n s (bad_no hb)).mono ?_
    rintro e w' ⟨rfl, rfl⟩
    exact ⟨by simp [hb], by simpa [hb] using ⟨F, h, Fr.refl _ _, Sub.refl _ _⟩⟩
  obtain ⟨n0, n1⟩ := bad_yes hb
  by_cases hs : 256 < s.size
  · refine (rwrite_long h n s n0 n1 hs).mono ?_
    rintro e w' ⟨rfl, rfl⟩
    exact ⟨by simp [hs], by simpa [hs] using ⟨F, h, Fr.refl _ _, Sub.refl _ _⟩⟩
  by_cases ho : d.off = true
  · refine (rwrite_off h n s n0 n1 (by omega) ho).mono ?_
    rintro e w' ⟨rfl, rfl⟩
    exact ⟨by simp [hb, hs, ho], by simpa [hb, hs, ho] using ⟨F, h, Fr.refl _ _, Sub.refl _ _⟩⟩
  have ho' : d.off = false := by simpa using ho
  by_cases hf : d.fails = true
  · have hc : d.cut = 1 := by simpa [Dk.fails] using hf
    have := rwrite_cut h n.toNat s (by omega) (by omega) ho' hok (by omega) hf (hkp (by omega))
    rw [Int.toNat_of_nonneg n0] at this
    refine this.mono ?_
    rintro e w' ⟨rfl, hd⟩
    exact ⟨by simp [hb, hs, hf], by simpa [hb, hs, ho', hf] using hd⟩
  · have hf' : d.fails = false := by simpa using hf
    have := rwrite_ok h n.toNat s (by omega) (by omega) ho' hok (by omega) hf' l2 (by omega)
    rw [Int.toNat_of_nonneg n0] at this
    refine this.mono ?_
    rintro e w' ⟨rfl, hd⟩
    exact ⟨by simp [hb, hs, ho', hf'], by simpa [hb, hs, ho', hf'] using hd⟩

theorem f_any (h : Disk w l v d) (hok : d.Ok) (hl : d.Lim m) (hm : m < 4000000000000) : Calls Try.prog 15 #[.pointer (some ⟨l.p, 0, none⟩)] w fun e w' => e = .returned (.int .i64 d.fcode) ∧ DkTo w l v d.fnext w' := by
  have l2 := hl.fl0; have l3 := hl.fl1
  unfold Dk.fcode Dk.fnext
  by_cases ho : d.off = true
  · refine (flush_off h ho).mono ?_
    rintro e w' ⟨rfl, rfl⟩
    exact ⟨by simp [ho], by simpa [ho] using ⟨v, h, Chg.refl _ _ _⟩⟩
  have ho' : d.off = false := by simpa using ho
  by_cases hf : d.fails = true
  · refine (flush_cut h ho' hok.inQ hf).mono ?_
    rintro e w' ⟨rfl, hd⟩
    exact ⟨by simp [hf], by simpa [ho', hf] using hd⟩
  · have hf' : d.fails = false := by simpa using hf
    refine (flush_ok h ho' hok.cut0 hok.cut1 hf' l2 (by omega)).mono ?_
    rintro e w' ⟨rfl, hd⟩
    exact ⟨by simp [ho', hf'], by simpa [ho', hf'] using hd⟩

theorem rf_any (h : RDk w q F (Rk.of d kp)) (hkp : d.cut ≠ 0 → kp = d.keep) (hok : d.Ok) (hl : d.Lim m) (hm : m < 4000000000000) : Calls Try.prog 16 #[.pointer (some ⟨q, 0, none⟩)] w fun e w' => e = .returned (.int .i64 d.fcode) ∧ RTo w q F (Rk.of d.fnext kp) w' := by
  have l2 := hl.fl0; have l3 := hl.fl1
  unfold Dk.fcode Dk.fnext
  by_cases ho : d.off = true
  · refine (rflush_off h ho).mono ?_
    rintro e w' ⟨rfl, rfl⟩
    exact ⟨by simp [ho], by simpa [ho] using ⟨F, h, Fr.refl _ _, Sub.refl _ _⟩⟩
  have ho' : d.off = false := by simpa using ho
  by_cases hf : d.fails = true
  · have hc : d.cut = 1 := by simpa [Dk.fails] using hf
    refine (rflush_cut h ho' (hkp (by omega)) hok.inQ hf).mono ?_
    rintro e w' ⟨rfl, hd⟩
    exact ⟨by simp [hf], by simpa [ho', hf] using hd⟩
  · have hf' : d.fails = false := by simpa using hf
    refine (rflush_ok h ho' hok hf' l2 (by omega)).mono ?_
    rintro e w' ⟨rfl, hd⟩
    exact ⟨by simp [ho', hf'], by simpa [ho', hf'] using hd⟩

theorem r_any (h : Disk w l v d) (n : Int) : Calls Try.prog 13 #[.pointer (some ⟨l.p, 0, none⟩), .int .i64 n] w fun e w' => e = .returned (.tuple #[.string (d.rtext n), .int .i64 (d.rcode n)]) ∧ w = w' := by
  unfold Dk.rtext Dk.rcode
  by_cases hb : d.bad n = true
  · refine (read_no h n (bad_no hb)).mono ?_
    rintro e w' ⟨rfl, rfl⟩
    exact ⟨by simp [hb], rfl⟩
  obtain ⟨n0, n1⟩ := bad_yes hb
  by_cases ho : d.off = true
  · refine (read_off h n n0 n1 ho).mono ?_
    rintro e w' ⟨rfl, rfl⟩
    exact ⟨by simp [hb, ho], rfl⟩
  · have ho' : d.off = false := by simpa using ho
    have := read_ok h n.toNat (by omega) ho'
    rw [Int.toNat_of_nonneg n0] at this
    refine this.mono ?_
    rintro e w' ⟨rfl, rfl⟩
    exact ⟨by simp [hb, ho'], rfl⟩

theorem over_some (hok : d.Ok) (n : Nat) (hn : n < d.L.length) : (over d.Q d.L)[n]? = some (d.S.getD n ⟨#[]⟩) := by
  rw [← hok.seen]
  have : n < d.S.length := by rw [hok.len]; exact hn
  simp [List.getD_eq_getElem?_getD, this]

theorem rr_any (h : RDk w q F (Rk.of d kp)) (hok : d.Ok) (n : Int) : Calls Try.prog 14 #[.pointer (some ⟨q, 0, none⟩), .int .i64 n] w fun e w' => e = .returned (.tuple #[.string (d.rtext n), .int .i64 (d.rcode n)]) ∧ w = w' := by
  unfold Dk.rtext Dk.rcode
  by_cases hb : d.bad n = true
  · refine (rread_no h n (bad_no hb)).mono ?_
    rintro e w' ⟨rfl, rfl⟩
    exact ⟨by simp [hb], rfl⟩
  obtain ⟨n0, n1⟩ := bad_yes hb
  by_cases ho : d.off = true
  · refine (rread_off h n n0 n1 ho).mono ?_
    rintro e w' ⟨rfl, rfl⟩
    exact ⟨by simp [hb, ho], rfl⟩
  · have ho' : d.off = false := by simpa using ho
    have := rread_ok h n.toNat (by omega) ho' _ (over_some hok n.toNat (by omega))
    rw [Int.toNat_of_nonneg n0] at this
    refine this.mono ?_
    rintro e w' ⟨rfl, rfl⟩
    exact ⟨by simp [hb, ho'], rfl⟩
end

/-- Both disks. -/
structure Both (w0 w : World) (l : Loc) (v : Value) (d : Dk) (q : Nat) (F : Nat → Prop) (r : Rk) (n : Nat) : Prop where
  mine : Mine w0 w l v d n
  ref : RDk w q F r
  apart : ∀ k, Foot l v k → ¬ F k
  atF : ∀ k, F k → w0.heap.size ≤ k

theorem RDk.foot {w : World} {q : Nat} {F : Nat → Prop} {r : Rk} (h : RDk w q F r) {k : Nat} (hk : F k) : k < w.heap.size := by
  obtain ⟨vl, vp, vt, hR, rfl⟩ := h
  exact hR.foot hk
theorem RDk.same {w w' : World} {q : Nat} {F : Nat → Prop} {r : Rk} (h : RDk w q F r) (hk : ∀ k, F k → w'.heap[k]? = w.heap[k]?) : RDk w' q F r := by
  obtain ⟨vl, vp, vt, hR, rfl⟩ := h
  exact ⟨vl, vp, vt, hR.same hk, rfl⟩

section
variable {w0 w w' : World} {l : Loc} {v : Value} {d d' : Dk} {q : Nat} {F : Nat → Prop} {r r' : Rk} {n : Nat}
theorem Both.stepD (h : Both w0 w l v d q F r n) (hd : DkTo w l v d' w') (hok : d'.Ok) (hl : d'.L.length = n) : ∃ v', Both w0 w' l v' d' q F r n := by
  obtain ⟨v', hD, hC⟩ := hd
  refine ⟨v', h.mine.next hD hC hok hl, h.ref.same fun k hk => hC.far (h.ref.foot hk) (fun e => h.apart k e hk), ?_, h.atF⟩
  intro k hk hF
  rcases hC.foot hk with e | e
  · exact h.apart k e hF
  · have := h.ref.foot hF; omega
theorem Both.stepR (h : Both w0 w l v d q F r n) (hr : RTo w q F r' w') : ∃ F', Both w0 w' l v d q F' r' n := by
  obtain ⟨F', hR, hF, hS⟩ := hr
  have hD := h.mine.disk
  have e : ∀ k, Foot l v k → w'.heap[k]? = w.heap[k]? := fun k hk => hF.block k (hD.foot hk) (h.apart k hk)
  have hb : Below w0.heap.size w0 w' := h.mine.below.trans ⟨hF.os, hF.tape, hF.output, hF.size, fun k hk => hF.block k (by have := h.mine.below.size; omega) (fun e => by have := h.atF k e; omega)⟩
  refine ⟨F', ⟨⟨(e _ (.inl rfl)).trans hD.head, (e _ (.inr (.inl rfl))).trans hD.rowL, (e _ (.inr (.inr (.inl rfl)))).trans hD.rowS, ownsRow_of hD.queue fun g hg => e g (.inr (.inr (.inr hg.symm))), hD.apart, hD.len⟩, h.mine.ok, h.mine.len, hb, h.mine.atP, h.mine.atB, h.mine.atC, h.mine.atV⟩, hR, ?_, ?_⟩
  · intro k hk hk2
    rcases hS k hk2 with e2 | e2
    · exact h.apart k hk e2
    · have := hD.foot hk; omega
  · intro k hk
    rcases hS k hk with e2 | e2
    · exact h.atF k e2
    · have := h.mine.below.size; omega
theorem Both.belowed (h : Both w0 w l v d q F r n) (hb : Below w.heap.size w w') : Both w0 w' l v d q F r n :=
  ⟨h.mine.belowed hb, h.ref.same fun k hk => hb.block k (h.ref.foot hk), h.apart, h.atF⟩
theorem Both.drew (h : Both w0 w l v d q F r n) : Both w0 w.drew l v d q F r n := h.belowed ((Below.refl _ _).drew)
end
end Go.Proofs.Ythomjcndaddbbaa
