/-
  XdrTakes's walk. Its condition: a text of at most 2^47 bytes.
-/
import Derived.Test.YtjkkneeomjfieaaRsText
import Derived.Test.YtjkkneeomjfieaaRdOk
import Derived.Test.YtjkkneeomjfieaaSpeaks
import Derived.Deep.RegionHeld3
namespace Go.Proofs.Ytjkkneeomjfieaa
open Go.RowKit

theorem RL.only {w w' : World} {p q : Nat} {s : ByteArray} {l : List UInt8} {e : Int} (h : RL w q s l e) (ho : Only p w w') (hne : q ≠ p) : RL w' q s l e := by
  obtain ⟨a, h1, h2⟩ := h
  exact ⟨a, ⟨(ho.block q hne).trans h1.blk, h1.le, h1.big, h1.bad⟩, h2⟩
theorem RL.lt {w : World} {q : Nat} {s : ByteArray} {l : List UInt8} {e : Int} (h : RL w q s l e) : q < w.heap.size := by
  obtain ⟨a, h1, _⟩ := h
  exact (Array.getElem?_eq_some_iff.1 h1.blk).1
theorem RL.below {w w' : World} {q : Nat} {s : ByteArray} {l : List UInt8} {e : Int} (h : RL w q s l e) (hb : Below w.heap.size w w') : RL w' q s l e := by
  have hl := h.lt
  obtain ⟨a, h1, h2⟩ := h
  exact ⟨a, ⟨(hb.block q hl).trans h1.blk, h1.le, h1.big, h1.bad⟩, h2⟩
theorem RL.len {w : World} {q : Nat} {s : ByteArray} {l : List UInt8} {e : Int} (h : RL w q s l e) : l.length ≤ 140737488355328 := by
  obtain ⟨a, h1, rfl⟩ := h
  rw [drop_len]; have := h1.big; omega
/-- The document's reader's work leaves ours alone. -/
theorem Rd.onlyQ {w w' : World} {p q : Nat} {s : ByteArray} {l m : List UInt8} {e d : Int} (h : Rd w p l e) (hq : RL w q s m d) (ho : Only q w w') (hne : p ≠ q) : Rd w' p l e := by
  obtain ⟨a, h1, _⟩ := hq
  obtain ⟨v, g1, g2⟩ := h
  refine ⟨v, (ho.block p hne).trans g1, ?_⟩
  rcases g2 with g2 | ⟨g, off, cap, cur, fr, e1, e2, e3, e4, e5⟩
  · exact .inl g2
  · refine .inr ⟨g, off, cap, cur, fr, e1, e2, e3, (ho.block g ?_).trans e4, e5⟩
    intro e; subst e; rw [h1.blk] at e4; simp at e4

theorem left_same (p : Nat) (l : List UInt8) (e : Int) (w : World) (h : Rd w p l e) :
    Calls Try.prog 31 #[.pointer (some ⟨p, 0, none⟩)] w fun r w' => r = .returned (.int .i64 (l.length : Int)) ∧ w' = w := (left_any p l e w h).mono fun _ _ ⟨a, b⟩ => ⟨a, b.symm⟩
theorem end_same (p : Nat) (l : List UInt8) (e : Int) (w : World) (h : Rd w p l e) :
    Calls Try.prog 32 #[.pointer (some ⟨p, 0, none⟩)] w fun r w' => r = .returned (.int .i64 (endR l e)) ∧ w' = w := (end_any p l e w h).mono fun _ _ ⟨a, b⟩ => ⟨a, b.symm⟩
theorem RS.start {w : World} {s : ByteArray} (hs : s.size ≤ 140737488355328) : RL (w.alloc (.cells #[.string s, .int .i64 0, .int .i64 0] 42)) w.heap.size s s.data.toList 0 :=
  ⟨0, ⟨heap_alloc_new w _, Nat.zero_le _, hs, fun h => absurd rfl h⟩, by simp⟩

theorem Only.undrewn {p : Nat} {w w' : World} (h : Only p w.drew w') : Only p w w' := ⟨h.os, h.tape, h.output, h.size, h.block⟩
/-- Both ends tell the same number. -/
def SameEnd (l : List UInt8) (e E : Int) : Prop :=
  (∀ {p n : Nat} {w : World}, Rd w p l e → Calls Try.prog 32 #[.pointer (some ⟨p, 0, none⟩)] (w.drewN n) fun r w' => r = .returned (.int .i64 E) ∧ ∃ m, w' = w.drewN m) ∧
  (∀ {q n : Nat} {s : ByteArray} {w : World}, RL w q s l e → Calls Try.prog 33 #[.pointer (some ⟨q, 0, none⟩)] (w.drewN n) fun r w' => r = .returned (.int .i64 E) ∧ ∃ m, w' = w.drewN m)
theorem endR_def (l : List UInt8) (e : Int) : SameEnd l e (endR l e) :=
  ⟨fun {p n w} h => (end_any p l e (w.drewN n) (h.drew n)).mono fun _ _ ⟨a, b⟩ => ⟨a, n, b.symm⟩,
   fun {q n s w} h => (refEnd_any q s l e (w.drewN n) (h.drewN n)).mono fun _ _ ⟨a, m, b⟩ => ⟨a, n + m, by rw [b, World.drewN_drewN]⟩⟩

set_option maxRecDepth 100000 in
set_option maxHeartbeats 4000000 in
theorem takes_walk (s : ByteArray) (L : List It) (ao : Option Addr) (cap : Nat) (w : World) (hI : ItemsAt w ao L) (hLm : L.length ≤ maxLen) (hs : s.size ≤ 140737488355328) :
    Calls Try.prog 4 #[.string s, .slice ao L.length cap] w fun e w' => e = .returned (.bool true) ∧ Below w.heap.size w w' := by
  have HI := Lib.hid hI
  unfold maxLen at hLm
  have hLm2 : L.length ≤ 9223372036854775807 := by omega
  clear hI hLm
  go_enter Try.func4, Try.ntmps4
  go_wp2_with fail
  refine (speaks_any _).mono ?_
  rintro e w0 ⟨rfl, HB0⟩
  have HB1 := Lib.hid HB0
  have hsz : w.heap.size ≤ w0.heap.size := HB0.size
  clear HB0
  go_wp2_with fail
  refine (open_any s w0 (by unfold maxLen; omega)).mono ?_
  rintro e w1 ⟨rfl, hR, hB2, hs2⟩
  have HR := Lib.hid (hR.alloc (.cells #[.string s, .int .i64 0, .int .i64 0] 42))
  have HQ := Lib.hid (RS.start (w := w1) hs)
  have HB2 := Lib.hid ((HB1.out.trans (hB2.mono hsz)).alloc (by omega) (.cells #[.string s, .int .i64 0, .int .i64 0] 42))
  have hpq : w0.heap.size + 1 ≠ w1.heap.size := by omega
  have hp1 : w.heap.size ≤ w0.heap.size + 1 := by omega
  have hq1 : w.heap.size ≤ w1.heap.size := by omega
  clear hR hB2 hs2 HB1
  go_wp2_with fail
  generalize w0.heap.size + 1 = p at *
  generalize hqq : w1.heap.size = q at *
  have HQQ := Lib.hid hqq
  clear hqq
  go_loopw [7] (fun i wr => ∃ k : Nat, k ≤ L.length ∧ i = .int .i64 k ∧ ∃ l e, Rd wr p l e ∧ RL wr q s l e ∧ Below w.heap.size w wr) (fun i _ => L.length - (intOf i).toNat)
  case atStart => exact ⟨0, Nat.zero_le _, rfl, s.data.toList, 0, HR.out, HQ.out, HB2.out⟩
  case round =>
    clear HR HQ HB2 HQQ
    obtain ⟨k, hk, rfl, l, e, hR, hQ, hBe⟩ := hrel
    have HBe := Lib.hid hBe
    clear hBe
    by_cases hlt : k < L.length
    · obtain ⟨g, off, rfl, hg, c0, c1, c2⟩ := HI.out k hlt
      rw [← HBe.out.cell (p := ⟨g, _, none⟩) hg] at c0 c1 c2
      obtain ⟨x, hx⟩ : ∃ x, x = L[k] := ⟨_, rfl⟩
      rw [← hx] at c0 c1 c2
      clear hx
      have hpl := hR.lt
      have hql := hQ.lt
      have hR1 := hR.alloc (.cells #[.int .i64 x.kind, .int .i64 x.n, .string x.text] 29)
      have hQ1 := hQ.below ((Below.refl _ _).alloc (Nat.le_refl _) (.cells #[.int .i64 x.kind, .int .i64 x.n, .string x.text] 29))
      have HBa := Lib.hid (HBe.out.alloc HBe.out.size (.cells #[.int .i64 x.kind, .int .i64 x.n, .string x.text] 29))
      have hll := hQ.len
      clear hR hQ HBe
      go_wp2_with fail
      refine (kind_any x.kind _).mono ?_
      rintro e' w' ⟨rfl, rfl⟩
      clear c0 c1 c2
      rcases kd_cases x.kind with hkd | hkd | hkd | hkd | hkd
      · rw [hkd]
        clear hkd
        go_wp2_with fail
        refine (ruint_any p l e _ hR1 hll).mono ?_
        rintro e' w2 ⟨rfl, hR2, hO2⟩
        have hQ2 := hQ1.only hO2 (Ne.symm hpq)
        go_wp2_with fail
        refine (rnumber_any q s l e 4 _ hQ2 (by omega) (by omega)).mono ?_
        rintro e' w3 ⟨rfl, hQ3, hO3⟩
        have hR3 := hR2.onlyQ hQ2 hO3 hpq
        have HB3 := Lib.hid ((HBa.out.trans (hO2.below hp1)).trans (hO3.below hq1))
        clear hO2 hO3 hR2 hQ2 hR1 hQ1 HBa hll
        obtain ⟨R, hRR⟩ : ∃ R, R = numR 4 l e := ⟨_, rfl⟩
        rw [← hRR] at hR3 hQ3 ⊢
        clear hRR
        obtain ⟨v, l2, e2⟩ := R
        simp only at hR3 hQ3
        have HQ3 := Lib.hid hQ3
        obtain ⟨a, hS, hla⟩ := hQ3
        obtain ⟨d0, d1, d2, f1, f2⟩ := hS.cells
        have hbg := hS.big
        have hale := hS.le
        have hl2 : (s.size : Int) - (a : Int) = (l2.length : Int) := by rw [hla, drop_len]; omega
        have hwr : IntKind.i64.wrap ((s.size : Int) - (a : Int)) = (l2.length : Int) := by rw [IntWalk.i64_in _ (by omega)]; exact hl2
        have hE := endR_def l2 e2
        generalize endR l2 e2 = E at hE
        have HL2 := Lib.hid hl2
        have HLA := Lib.hid hla
        clear hl2 hla hS
        go_wp2_with fail
        go_quiet ((first
          | (go_at_call 31; exact Calls.quiet_of_same (left_same p l2 e2 _ hR3))
          | (go_at_call 32; exact hE.1 hR3)
          | (go_at_call 33; exact hE.2 HQ3.out)))
        clear hwr
        go_wp2
        go_roundw
        case rel => exact ⟨k + 1, by omega, by go_num, l2, e2, hR3, HQ3.out.drewN _, ⟨HB3.out.os, HB3.out.tape, HB3.out.output, HB3.out.size, HB3.out.block⟩⟩
        case measure => simp [intOf]; omega
      · rw [hkd]
        clear hkd
        go_wp2_with fail
        refine (rhyper_any p l e _ hR1 hll).mono ?_
        rintro e' w2 ⟨rfl, hR2, hO2⟩
        have hQ2 := hQ1.only hO2 (Ne.symm hpq)
        go_wp2_with fail
        refine (rnumber_any q s l e 8 _ hQ2 (by omega) (by omega)).mono ?_
        rintro e' w3 ⟨rfl, hQ3, hO3⟩
        have hR3 := hR2.onlyQ hQ2 hO3 hpq
        have HB3 := Lib.hid ((HBa.out.trans (hO2.below hp1)).trans (hO3.below hq1))
        clear hO2 hO3 hR2 hQ2 hR1 hQ1 HBa hll
        obtain ⟨R, hRR⟩ : ∃ R, R = numR 8 l e := ⟨_, rfl⟩
        rw [← hRR] at hR3 hQ3 ⊢
        clear hRR
        obtain ⟨v, l2, e2⟩ := R
        simp only at hR3 hQ3
        have HQ3 := Lib.hid hQ3
        obtain ⟨a, hS, hla⟩ := hQ3
        obtain ⟨d0, d1, d2, f1, f2⟩ := hS.cells
        have hbg := hS.big
        have hale := hS.le
        have hl2 : (s.size : Int) - (a : Int) = (l2.length : Int) := by rw [hla, drop_len]; omega
        have hwr : IntKind.i64.wrap ((s.size : Int) - (a : Int)) = (l2.length : Int) := by rw [IntWalk.i64_in _ (by omega)]; exact hl2
        have hE := endR_def l2 e2
        generalize endR l2 e2 = E at hE
        have HL2 := Lib.hid hl2
        have HLA := Lib.hid hla
        clear hl2 hla hS
        go_wp2_with fail
        go_quiet ((first
          | (go_at_call 31; exact Calls.quiet_of_same (left_same p l2 e2 _ hR3))
          | (go_at_call 32; exact hE.1 hR3)
          | (go_at_call 33; exact hE.2 HQ3.out)))
        clear hwr
        go_wp2
        go_roundw
        case rel => exact ⟨k + 1, by omega, by go_num, l2, e2, hR3, HQ3.out.drewN _, ⟨HB3.out.os, HB3.out.tape, HB3.out.output, HB3.out.size, HB3.out.block⟩⟩
        case measure => simp [intOf]; omega
      · rw [hkd]
        clear hkd
        go_wp2_with fail
        refine (rbool_any p l e _ hR1 hll).mono ?_
        rintro e' w2 ⟨rfl, hR2, hO2⟩
        have hQ2 := hQ1.only hO2 (Ne.symm hpq)
        go_wp2_with fail
        refine (refBool_any q s l e _ hQ2).mono ?_
        rintro e' w3 ⟨rfl, hQ3, hO3⟩
        have hR3 := hR2.onlyQ hQ2 hO3 hpq
        have HB3 := Lib.hid ((HBa.out.trans (hO2.below hp1)).trans (hO3.below hq1))
        clear hO2 hO3 hR2 hQ2 hR1 hQ1 HBa hll
        obtain ⟨R, hRR⟩ : ∃ R, R = boolR l e := ⟨_, rfl⟩
        rw [← hRR] at hR3 hQ3 ⊢
        clear hRR
        obtain ⟨v, l2, e2⟩ := R
        simp only at hR3 hQ3
        have HQ3 := Lib.hid hQ3
        obtain ⟨a, hS, hla⟩ := hQ3
        obtain ⟨d0, d1, d2, f1, f2⟩ := hS.cells
        have hbg := hS.big
        have hale := hS.le
        have hl2 : (s.size : Int) - (a : Int) = (l2.length : Int) := by rw [hla, drop_len]; omega
        have hwr : IntKind.i64.wrap ((s.size : Int) - (a : Int)) = (l2.length : Int) := by rw [IntWalk.i64_in _ (by omega)]; exact hl2
        have hE := endR_def l2 e2
        generalize endR l2 e2 = E at hE
        have HL2 := Lib.hid hl2
        have HLA := Lib.hid hla
        clear hl2 hla hS
        go_wp2_with fail
        go_quiet ((first
          | (go_at_call 31; exact Calls.quiet_of_same (left_same p l2 e2 _ hR3))
          | (go_at_call 32; exact hE.1 hR3)
          | (go_at_call 33; exact hE.2 HQ3.out)))
        clear hwr
        go_wp2
        go_roundw
        case rel => exact ⟨k + 1, by omega, by go_num, l2, e2, hR3, HQ3.out.drewN _, ⟨HB3.out.os, HB3.out.tape, HB3.out.output, HB3.out.size, HB3.out.block⟩⟩
        case measure => simp [intOf]; omega
      · rw [hkd]
        clear hkd
        go_wp2_with fail
        go_region_held3 (fun w' => w'.cell? ⟨wr.heap.size, 1, none⟩ = some (.int .i64 x.n)) (first | go_keep | (rw [World.cell?_of_block (hO2.block _ (by simp; omega))]; assumption) | (rw [World.cell?_of_block (hO3.block _ (by simp; omega))]; assumption))
          ((first | (go_at_call 27; refine (ropaque_any p l e x.n _ (by exact hR1) hll).mono ?_; rintro e' w2 ⟨rfl, hR2, hO2d⟩; have hO2 := Only.undrewn hO2d; clear hO2d; have hQ2 := hQ1.only hO2 (Ne.symm hpq)) | (go_at_call 28; refine (refMost_any q s l e x.n _ (by exact hQ2)).mono ?_; rintro e' w3 ⟨rfl, hQ3, hO3⟩)))
        have hR3 := hR2.onlyQ hQ2 hO3 hpq
        have HB3 := Lib.hid ((HBa.out.trans (hO2.below hp1)).trans (hO3.below hq1))
        clear hO2 hO3 hR2 hQ2 hR1 hQ1 HBa hll
        obtain ⟨R, hRR⟩ : ∃ R, R = opqR x.n l e := ⟨_, rfl⟩
        rw [← hRR] at hR3 hQ3 ⊢
        clear hRR
        obtain ⟨v, l2, e2⟩ := R
        simp only at hR3 hQ3
        have HQ3 := Lib.hid hQ3
        obtain ⟨a, hS, hla⟩ := hQ3
        obtain ⟨d0, d1, d2, f1, f2⟩ := hS.cells
        have hbg := hS.big
        have hale := hS.le
        have hl2 : (s.size : Int) - (a : Int) = (l2.length : Int) := by rw [hla, drop_len]; omega
        have hwr : IntKind.i64.wrap ((s.size : Int) - (a : Int)) = (l2.length : Int) := by rw [IntWalk.i64_in _ (by omega)]; exact hl2
        have hE := endR_def l2 e2
        generalize endR l2 e2 = E at hE
        have HL2 := Lib.hid hl2
        have HLA := Lib.hid hla
        clear hl2 hla hS
        go_wp2_with fail
        go_quiet ((first
          | (go_at_call 31; exact Calls.quiet_of_same (left_same p l2 e2 _ hR3))
          | (go_at_call 32; exact hE.1 hR3)
          | (go_at_call 33; exact hE.2 HQ3.out)))
        clear hwr
        go_wp2
        go_roundw
        case rel => exact ⟨k + 1, by omega, by go_num, l2, e2, hR3, HQ3.out.drewN _, ⟨HB3.out.os, HB3.out.tape, HB3.out.output, HB3.out.size, HB3.out.block⟩⟩
        case measure => simp [intOf]; omega
      · rw [hkd]
        clear hkd
        have hnb := Int.tmod_lt_of_pos x.n (show (0 : Int) < 100 by decide)
        go_wp2_with fail
        refine (rfixed_any p l e (x.n.tmod 100) _ hR1 hll (by omega)).mono ?_
        rintro e' w2 ⟨rfl, hR2, hO2⟩
        have hQ2 := hQ1.only hO2 (Ne.symm hpq)
        go_wp2_with fail
        refine (refText_any q s l e (x.n.tmod 100) _ hQ2 (by omega)).mono ?_
        rintro e' w3 ⟨rfl, hQ3, hO3⟩
        have hR3 := hR2.onlyQ hQ2 hO3 hpq
        have HB3 := Lib.hid ((HBa.out.trans (hO2.below hp1)).trans (hO3.below hq1))
        clear hO2 hO3 hR2 hQ2 hR1 hQ1 HBa hll
        obtain ⟨R, hRR⟩ : ∃ R, R = fixR (x.n.tmod 100) l e := ⟨_, rfl⟩
        rw [← hRR] at hR3 hQ3 ⊢
        clear hRR
        obtain ⟨v, l2, e2⟩ := R
        simp only at hR3 hQ3
        have HQ3 := Lib.hid hQ3
        obtain ⟨a, hS, hla⟩ := hQ3
        obtain ⟨d0, d1, d2, f1, f2⟩ := hS.cells
        have hbg := hS.big
        have hale := hS.le
        have hl2 : (s.size : Int) - (a : Int) = (l2.length : Int) := by rw [hla, drop_len]; omega
        have hwr : IntKind.i64.wrap ((s.size : Int) - (a : Int)) = (l2.length : Int) := by rw [IntWalk.i64_in _ (by omega)]; exact hl2
        have hE := endR_def l2 e2
        generalize endR l2 e2 = E at hE
        have HL2 := Lib.hid hl2
        have HLA := Lib.hid hla
        clear hl2 hla hS
        go_wp2_with fail
        go_quiet ((first
          | (go_at_call 31; exact Calls.quiet_of_same (left_same p l2 e2 _ hR3))
          | (go_at_call 32; exact hE.1 hR3)
          | (go_at_call 33; exact hE.2 HQ3.out)))
        clear hwr
        go_wp2
        go_roundw
        case rel => exact ⟨k + 1, by omega, by go_num, l2, e2, hR3, HQ3.out.drewN _, ⟨HB3.out.os, HB3.out.tape, HB3.out.output, HB3.out.size, HB3.out.block⟩⟩
        case measure => simp [intOf]; omega
    · have hk' : k = L.length := by omega
      subst hk'
      go_wp2_with fail
      refine (end_any p l e wr hR).mono ?_
      rintro e' w' ⟨rfl, rfl⟩
      go_wp2_with fail
      refine (refEnd_any q s l e wr hQ).mono ?_
      rintro e' w' ⟨rfl, n, rfl⟩
      go_wp2
      go_ret
      exact ⟨by simp, ⟨HBe.out.os, HBe.out.tape, HBe.out.output, HBe.out.size, HBe.out.block⟩⟩
end Go.Proofs.Ytjkkneeomjfieaa
