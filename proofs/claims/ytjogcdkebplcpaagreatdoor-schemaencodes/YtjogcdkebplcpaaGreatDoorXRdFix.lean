/-
  What a reader's Fixed and Opaque take. Their condition: a reader.
-/
import Derived.Test.YtjogcdkebplcpaaGreatDoorXRd
namespace Go.Proofs.YtjogcdkebplcpaaGreatDoor.X
open Go.RowKit

/-- A text of n bytes taken. -/
def fixR (n : Int) (l : List UInt8) (e : Int) : ByteArray × List UInt8 × Int :=
  if n < 0 then (⟨#[]⟩, l, e)
  else if (l.length : Int) - (pad n.toNat : Nat) < n then (⟨#[]⟩, [], failE e 5)
  else if ((l.drop n.toNat).take (pad n.toNat)).all (· == 0) then (⟨(l.take n.toNat).toArray⟩, l.drop (n.toNat + pad n.toNat), e)
  else (⟨#[]⟩, [], failE e 4)

theorem fixR_nat (m : Nat) (l : List UInt8) (e : Int) : fixR m l e = if (l.length : Int) - (pad m : Nat) < m then (⟨#[]⟩, [], failE e 5)
    else if ((l.drop m).take (pad m)).all (· == 0) then (⟨(l.take m).toArray⟩, l.drop (m + pad m), e) else (⟨#[]⟩, [], failE e 4) := by
  unfold fixR; rw [if_neg (by omega), Int.toNat_natCast]
theorem take_more (x : List UInt8) (k : Nat) (hk : k < x.length) : x.take (k + 1) = x.take k ++ [((x.drop k).take 1).getD 0 0] := by
  rw [List.take_succ_eq_append_getElem hk]
  simp [List.getD_eq_getElem?_getD, List.getElem?_eq_getElem hk]
theorem all_upto {x : List UInt8} {P k : Nat} (hk : k < P) (hx : k < x.length) (h : (x.take P).all (· == 0) = true) : ((x.drop k).take 1).getD 0 0 = 0 := by
  rw [List.all_eq_true] at h
  have hm : ((x.drop k).take 1).getD 0 0 ∈ x.take P := by
    have h1 : ((x.drop k).take 1).getD 0 0 = x[k] := by simp [List.getD_eq_getElem?_getD, List.getElem?_eq_getElem hx]
    rw [h1, List.mem_take_iff_getElem]
    exact ⟨k, by omega, rfl⟩
  simpa using h _ hm

theorem Bytes.string {P : Program} {w : World} {v : Value} {l : List UInt8} (h : Bytes w v l) (src dst : TypeId) (hs : P.underlying src = some (.slice 5)) (he : P.underlying 5 = some (.int .u8)) (hd : P.underlying dst = some .string) :
    (convert src dst v).run P w = .ok (.string ⟨l.toArray⟩) w := by
  rcases h with ⟨rfl, rfl⟩ | ⟨g, off, cap, cur, fr, rfl, _, _, hg, hc⟩
  · exact run_convert_bytes_nil w src 5 hs he 0 0 dst hd
  · refine run_convert_bytes_back w src dst 5 _ cap l hs he hd fun j hj => ?_
    rw [show (⟨g, off, none⟩ : Addr).add j = ⟨g, off + j, none⟩ from by simp [Addr.add], cell_of_row w g (off + j) _ _ _ hg]
    exact hc j hj

theorem noughts_same (n : Nat) (w : World) (h : n ≤ 9223372036854775807) :
    Calls Tryz.prog 82 #[.int .i64 n] w fun e w' => e = .returned (.int .i64 ((pad n : Nat) : Int)) ∧ w' = w :=
  (noughts_any n w h).mono fun _ _ ⟨a, b⟩ => ⟨a, b.symm⟩

theorem Rd.slice {w : World} {p : Nat} {l : List UInt8} {e : Int} (h : Rd w p l e) : ∃ ao cap, w.cell? ⟨p, 0, none⟩ = some (.slice ao l.length cap) := by
  obtain ⟨v, h1, h2⟩ := h
  obtain ⟨c0, c1, f0, f1⟩ := two_cells h1
  rcases h2 with ⟨rfl, rfl⟩ | ⟨g, off, cap, cur, fr, rfl, _⟩
  · exact ⟨none, 0, c0⟩
  · exact ⟨_, _, c0⟩
theorem Rd.drew {w : World} {p : Nat} {l : List UInt8} {e : Int} (h : Rd w p l e) (n : Nat) : Rd (w.drewN n) p l e := h

set_option maxRecDepth 100000 in
set_option maxHeartbeats 1000000 in
theorem rfixed_any (p : Nat) (l : List UInt8) (e : Int) (n : Int) (w : World) (h : Rd w p l e) (hl : l.length ≤ 140737488355328) (hn : n ≤ 9223372036854775807) :
    Calls Tryz.prog 61 #[.pointer (some ⟨p, 0, none⟩), .int .i64 n] w fun r w' => r = .returned (.string (fixR n l e).1) ∧ Rd w' p (fixR n l e).2.1 (fixR n l e).2.2 ∧ Only p w w' := by
  by_cases h0 : n < 0
  · have HF := Lib.hid (show fixR n l e = (⟨#[]⟩, l, e) from if_pos h0)
    have HR := Lib.hid h
    clear h
    go_enter Tryz.func61, Tryz.ntmps61
    go_wp2
    go_ret
    rw [HF.out]
    exact ⟨rfl, HR.out, Only.refl _ _⟩
  · obtain ⟨m, rfl⟩ := Int.eq_ofNat_of_zero_le (show 0 ≤ n by omega)
    obtain ⟨ao, cap, hc⟩ := h.slice
    have hp := pad_lt m
    by_cases h1 : (l.length : Int) - (pad m : Nat) < (m : Int)
    · have HF := Lib.hid (show fixR m l e = (⟨#[]⟩, [], failE e 5) by unfold fixR; rw [if_neg h0]; exact if_pos h1)
      have hw1 : IntKind.i64.wrap ((l.length : Int) - ((pad m : Nat) : Int)) = (l.length : Int) - ((pad m : Nat) : Int) := IntWalk.i64_in _ (by omega)
      have hmb : m ≤ 9223372036854775807 := by omega
      go_enter Tryz.func61, Tryz.ntmps61
      go_wp2_with fail
      go_quiet ((go_at_call 82; exact Calls.quiet_of_same (noughts_same _ _ hmb)))
      clear hw1
      go_wp2_with fail
      refine (fail_any p l e 5 _ (h.drew _)).mono ?_
      rintro r w1 ⟨rfl, hR, hO⟩
      have HR := Lib.hid hR
      have HO := Lib.hid ((Only.refl p w).drew _ |>.trans hO)
      clear hR hO
      go_wp2
      go_ret
      rw [HF.out]
      exact ⟨rfl, HR.out, HO.out⟩
    · have hw1 : IntKind.i64.wrap ((l.length : Int) - ((pad m : Nat) : Int)) = (l.length : Int) - ((pad m : Nat) : Int) := IntWalk.i64_in _ (by omega)
      have hmb : m ≤ 9223372036854775807 := by omega
      have hd1 : decide ((l.length : Int) - ((pad m : Nat) : Int) < (m : Int)) = false := by simp; omega
      go_enter Tryz.func61, Tryz.ntmps61
      go_wp2_with fail
      go_quiet ((go_at_call 82; exact Calls.quiet_of_same (noughts_same _ _ hmb)))
      clear hw1 hd1
      go_wp2_with fail
      refine (take_any p l e m _ (h.drew _) (by omega)).mono ?_
      rintro r w1 ⟨u, rfl, hB, hR, hO⟩
      have hcv := hB.string (P := Tryz.prog) 54 9 Tryz.underlying54 Tryz.underlying5 Tryz.underlying9
      have HR := Lib.hid hR
      have HO := Lib.hid ((Only.refl p w).drew _ |>.trans hO)
      clear hR hO hB
      go_wp2_with (go_at_call 82; refine (noughts_any _ _ hmb).mono ?_; rintro e w' ⟨rfl, rfl⟩)
      clear hcv
      go_loopw [30] (fun i wr => ∃ k : Nat, k ≤ pad m ∧ i = .int .i64 k ∧ Rd wr p (l.drop (m + k)) e ∧ Only p w wr ∧ ((l.drop m).take k).all (· == 0) = true) (fun i _ => pad m - (intOf i).toNat)
      case atStart => exact ⟨0, Nat.zero_le _, rfl, HR.out, HO.out, rfl⟩
      case round =>
        obtain ⟨k, hk, rfl, hR, hO, hz⟩ := hrel
        have HO2 := Lib.hid hO
        have HZ := Lib.hid hz
        clear hO hz
        by_cases hlt : k < pad m
        · go_wp2_with fail
          refine (take_any p (l.drop (m + k)) e 1 wr hR (by simp; omega)).mono ?_
          rintro r w2 ⟨u2, rfl, hB, hR2, hO3⟩
          obtain ⟨g, off, cp, rfl, b2, b3, b4⟩ := hB.cells 1 (by simp; omega) (by omega)
          have hcell : w2.cell? ⟨g, off, none⟩ = some (.int .u8 ((((l.drop (m + k)).take 1).getD 0 0).toNat : Int)) := b4 0 (by omega)
          have HO4 := Lib.hid (HO2.out.trans hO3)
          clear b4 hB hO3 hR
          obtain ⟨b, hbb⟩ : ∃ b : UInt8, b = ((l.drop (m + k)).take 1).getD 0 0 := ⟨_, rfl⟩
          rw [← hbb] at hcell
          have HBB := Lib.hid hbb
          clear hbb
          have hx : k < (l.drop m).length := by simp; omega
          have HD := Lib.hid (show l.drop (m + k) = (l.drop m).drop k by rw [List.drop_drop])
          by_cases hb0 : b = 0
          · have hcell' : w2.cell? ⟨g, off, none⟩ = some (.int .u8 0) := by rw [hb0] at hcell; exact hcell
            have HT := Lib.hid (show ((l.drop m).take (k + 1)).all (· == 0) = true by
              rw [take_more _ k hx, List.all_append, HZ.out]
              have : (((l.drop m).drop k).take 1).getD 0 0 = 0 := by rw [← HD.out, ← HBB.out]; exact hb0
              rw [this]; rfl)
            have HR2 := Lib.hid (show Rd w2 p (l.drop (m + (k + 1))) e by rw [← Nat.add_assoc, ← List.drop_drop (l := l) (i := 1) (j := m + k)]; exact hR2)
            clear hcell hR2 hb0 hx
            go_wp2
            go_roundw
            case rel => exact ⟨k + 1, by omega, by go_num, HR2.out, HO4.out, HT.out⟩
            case measure => simp [intOf]; omega
          · have hbp : (((b.toNat : Int)) != 0) = true := by
              rw [bne_iff_ne]; intro hh; apply hb0; apply UInt8.toNat_inj.1; simpa using hh
            have HF := Lib.hid (show fixR m l e = (⟨#[]⟩, [], failE e 4) by
              rw [fixR_nat, if_neg (by omega), if_neg]
              intro hall
              apply hb0
              rw [HBB.out, HD.out]
              exact all_upto hlt hx hall)
            clear hb0 hx
            go_wp2_with fail
            refine (fail_any p _ e 4 w2 hR2).mono ?_
            rintro r w3 ⟨rfl, hR3, hO5⟩
            have HR3 := Lib.hid hR3
            have HO6 := Lib.hid (HO4.out.trans hO5)
            clear hR3 hO5 hR2
            go_wp2
            go_ret
            rw [HF.out]
            exact ⟨rfl, HR3.out, HO6.out⟩
        · have hk' : k = pad m := by omega
          subst hk'
          have HF := Lib.hid (show fixR m l e = (⟨(l.take m).toArray⟩, l.drop (m + pad m), e) by
              rw [fixR_nat, if_neg (by omega)]
              exact if_pos HZ.out)
          have HR2 := Lib.hid hR
          clear hR
          go_wp2
          go_ret
          rw [HF.out]
          exact ⟨rfl, HR2.out, HO2.out⟩

/-- An Opaque taken. -/
def opqR (most : Int) (l : List UInt8) (e : Int) : ByteArray × List UInt8 × Int :=
  if (if most < 0 then 0 else most) < (numR 4 l e).1 then (⟨#[]⟩, [], failE (numR 4 l e).2.2 2) else fixR (numR 4 l e).1 (numR 4 l e).2.1 (numR 4 l e).2.2

theorem numR_le (size : Nat) (l : List UInt8) (e : Int) : (numR size l e).1 ≤ 9223372036854775807 ∧ (numR size l e).2.1.length ≤ l.length := by
  unfold numR
  split
  · exact ⟨by simp, by simp⟩
  · refine ⟨?_, by simp⟩
    show IntKind.i64.wrap _ ≤ _
    rw [IntKind.wrap_i64]; omega

set_option maxHeartbeats 400000 in
theorem ropaque_any (p : Nat) (l : List UInt8) (e : Int) (most : Int) (w : World) (h : Rd w p l e) (hl : l.length ≤ 140737488355328) :
    Calls Tryz.prog 60 #[.pointer (some ⟨p, 0, none⟩), .int .i64 most] w fun r w' => r = .returned (.string (opqR most l e).1) ∧ Rd w' p (opqR most l e).2.1 (opqR most l e).2.2 ∧ Only p w w' := by
  have hle := numR_le 4 l e
  obtain ⟨N, hN⟩ : ∃ N, N = numR 4 l e := ⟨_, rfl⟩
  rw [← hN] at hle
  have HN := Lib.hid hN
  clear hN
  go_enter Tryz.func60, Tryz.ntmps60
  go_wp2_with fail
  refine (ruint_any p l e w h hl).mono ?_
  rintro r w1 ⟨rfl, hR, hO⟩
  rw [← HN.out] at hR ⊢
  have HO := Lib.hid hO
  clear hO
  obtain ⟨n, l1, e1⟩ := N
  obtain ⟨hn, hl1⟩ := hle
  simp only at hn hl1 hR
  have key : ∀ M : Int, (if most < 0 then 0 else most) = M → (M < n → opqR most l e = (⟨#[]⟩, [], failE e1 2)) ∧ (¬ M < n → opqR most l e = fixR n l1 e1) := by
    intro M hM
    unfold opqR
    rw [← HN.out, hM]
    exact ⟨fun h => if_pos h, fun h => if_neg h⟩
  have HK := Lib.hid key
  clear key
  by_cases hm : most < 0
  · by_cases h1 : 0 < n
    · have HF := Lib.hid ((HK.out 0 (if_pos hm)).1 h1)
      clear HK
      go_wp2_with fail
      refine (fail_any p l1 e1 2 w1 hR).mono ?_
      rintro r w2 ⟨rfl, hR2, hO2⟩
      have HR2 := Lib.hid hR2
      have HO2 := Lib.hid (HO.out.trans hO2)
      clear hR2 hO2 hR
      go_wp2
      go_ret
      rw [HF.out]
      exact ⟨rfl, HR2.out, HO2.out⟩
    · have HF := Lib.hid ((HK.out 0 (if_pos hm)).2 h1)
      clear HK
      go_wp2_with fail
      refine (rfixed_any p l1 e1 n w1 hR (by omega) hn).mono ?_
      rintro r w2 ⟨rfl, hR2, hO2⟩
      have HR2 := Lib.hid hR2
      have HO2 := Lib.hid (HO.out.trans hO2)
      clear hR2 hO2 hR
      go_wp2
      go_ret
      rw [HF.out]
      exact ⟨rfl, HR2.out, HO2.out⟩
  · by_cases h1 : most < n
    · have HF := Lib.hid ((HK.out most (if_neg hm)).1 h1)
      clear HK
      go_wp2_with fail
      refine (fail_any p l1 e1 2 w1 hR).mono ?_
      rintro r w2 ⟨rfl, hR2, hO2⟩
      have HR2 := Lib.hid hR2
      have HO2 := Lib.hid (HO.out.trans hO2)
      clear hR2 hO2 hR
      go_wp2
      go_ret
      rw [HF.out]
      exact ⟨rfl, HR2.out, HO2.out⟩
    · have HF := Lib.hid ((HK.out most (if_neg hm)).2 h1)
      clear HK
      go_wp2_with fail
      refine (rfixed_any p l1 e1 n w1 hR (by omega) hn).mono ?_
      rintro r w2 ⟨rfl, hR2, hO2⟩
      have HR2 := Lib.hid hR2
      have HO2 := Lib.hid (HO.out.trans hO2)
      clear hR2 hO2 hR
      go_wp2
      go_ret
      rw [HF.out]
      exact ⟨rfl, HR2.out, HO2.out⟩
end Go.Proofs.YtjogcdkebplcpaaGreatDoor.X
