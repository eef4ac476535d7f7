/-
  What the document's torn, Now, Read and Flush do and answer. Their conditions: a disk as it may be.
-/
import Derived.Test.YthomjcndaddbbaaRlose
namespace Go.Proofs.Ythomjcndaddbbaa
open Go.RowKit
section
variable {w : World} {q : Nat} {F : Nat → Prop} {d : Dk} {kp : Int}

set_option maxHeartbeats 400000 in
theorem rtorn_zero (h : RDk w q F (Rk.of d kp)) (hz : d.cut = 0) : Calls Try.prog 31 #[.pointer (some ⟨q, 0, none⟩)] w fun e w' => e = .returned (.bool false) ∧ w = w' := by
  obtain ⟨vl, vp, vt, hR, rfl⟩ := h
  obtain ⟨h0, h1, h2, h3, h4, h5, h6, h7⟩ := hR.cells
  simp only [Rk.of, hz] at h3
  clear hR hz h0 h1 h2 h4 h5 h6 h7
  go_enter Try.func31, Try.ntmps31
  go_wp2
  go_ret
  exact ⟨rfl, rfl⟩

set_option maxHeartbeats 400000 in
theorem rtorn_more (h : RDk w q F (Rk.of d kp)) (c : Int) (hc : d.cut = c) (hz : 1 < c) (hm : c ≤ 9223372036854775807) : Calls Try.prog 31 #[.pointer (some ⟨q, 0, none⟩)] w fun e w' => e = .returned (.bool false) ∧ RTo w q F (Rk.of { d with cut := c - 1 } kp) w' := by
  obtain ⟨vl, vp, vt, hR, rfl⟩ := h
  obtain ⟨h0, h1, h2, h3, h4, h5, h6, h7⟩ := hR.cells
  simp only [Rk.of, hc] at h3
  have hf := hR.free
  have HR := Lib.hid hR
  clear hR hc h0 h1 h2 h4 h5 h6 h7
  have h1 : ¬ c < 1 := by omega
  have hgt : 0 < c - 1 := by omega
  go_enter Try.func31, Try.ntmps31
  go_wp2
  go_ret
  refine ⟨rfl, _, ⟨_, _, _, HR.out.setQ 3 _ vp vt (Rk.of { d with cut := c - 1 } kp) rfl (.inl ⟨rfl, rfl⟩) (.inl ⟨rfl, rfl⟩) rfl, rfl⟩, Fr.setQ 3 _, Sub.refl _ _⟩

set_option maxHeartbeats 400000 in
theorem rtorn_now (h : RDk w q F (Rk.of d kp)) (hc : d.cut = 1) (hq : ∀ x ∈ d.Q, x.1 < d.L.length) : Calls Try.prog 31 #[.pointer (some ⟨q, 0, none⟩)] w fun e w' => e = .returned (.bool true) ∧ RTo w q F (Rk.of { ({ d with cut := 0 } : Dk).lose kp with off := true } kp) w' := by
  obtain ⟨vl, vp, vt, hR, rfl⟩ := h
  obtain ⟨h0, h1, h2, h3, h4, h5, h6, h7⟩ := hR.cells
  simp only [Rk.of, hc] at h3
  simp only [Rk.of] at h4
  have hf := hR.free
  have HQ := Lib.hid hq
  have H1 : Hid (RDk (w.setCell ⟨q, 3, none⟩ (.int .i64 0)) q (RFoot q vl vp vt) (Rk.of { d with cut := 0 } kp)) := Lib.hid ⟨_, _, _, hR.setQ 3 (.int .i64 0) vp vt (Rk.of { d with cut := 0 } kp) rfl (.inl ⟨rfl, rfl⟩) (.inl ⟨rfl, rfl⟩) rfl, rfl⟩
  clear hR hc hq h0 h1 h2 h5 h6 h7
  go_enter Try.func31, Try.ntmps31
  go_wp2_with fail
  refine (rlose_any H1.out HQ.out kp).mono ?_
  rintro e w2 ⟨rfl, F2, ⟨vl2, vp2, vt2, hR2, rfl⟩, hF2, hS2⟩
  have HR2 := Lib.hid hR2
  have HF2 := Lib.hid hF2
  have HS2 := Lib.hid hS2
  obtain ⟨_, _, _, _, _, k5, _, _⟩ := hR2.cells
  have hf2 := hR2.free
  clear hR2 hF2 hS2
  go_wp2
  go_ret
  refine ⟨rfl, _, ⟨_, _, _, HR2.out.setQ 5 (.bool true) vp2 vt2 _ rfl (.inl ⟨rfl, rfl⟩) (.inl ⟨rfl, rfl⟩) rfl, rfl⟩, ?_, ?_⟩
  · exact ((Fr.setQ 3 _).trans (Sub.refl _ _) HF2.out).trans (fun k hk => (HS2.out k hk).imp id (fun e => by simpa [World.setCell] using e)) (Fr.setQ 5 _)
  · exact fun k hk => (HS2.out k hk).imp id (fun e => by simpa [World.setCell] using e)

theorem rtorn_no (h : RDk w q F (Rk.of d kp)) (h0 : 0 ≤ d.cut) (h1 : d.cut ≤ 9223372036854775807) (hf : d.fails = false) : Calls Try.prog 31 #[.pointer (some ⟨q, 0, none⟩)] w fun e w' => e = .returned (.bool false) ∧ RTo w q F (Rk.of d.after kp) w' := by
  have hc : d.cut ≠ 1 := by intro e; simp [Dk.fails, e] at hf
  by_cases hz : d.cut = 0
  · refine (rtorn_zero h hz).mono ?_
    rintro e w' ⟨rfl, rfl⟩
    refine ⟨rfl, F, ?_, Fr.refl _ _, Sub.refl _ _⟩
    simpa [Dk.after, hz] using h
  · refine (rtorn_more h d.cut rfl (by omega) h1).mono ?_
    rintro e w' ⟨rfl, hd⟩
    refine ⟨rfl, ?_⟩
    simpa [Dk.after, hz, hc] using hd

theorem rtorn_yes (h : RDk w q F (Rk.of d kp)) (hkp : kp = d.keep) (hq : ∀ x ∈ d.Q, x.1 < d.L.length) (hf : d.fails = true) : Calls Try.prog 31 #[.pointer (some ⟨q, 0, none⟩)] w fun e w' => e = .returned (.bool true) ∧ RTo w q F (Rk.of d.after kp) w' := by
  have hc : d.cut = 1 := by simpa [Dk.fails] using hf
  refine (rtorn_now h hc hq).mono ?_
  rintro e w' ⟨rfl, hd⟩
  refine ⟨rfl, ?_⟩
  subst hkp
  simpa [Dk.after, hc] using hd

theorem over_get (q : List (Nat × ByteArray)) (x : Nat × ByteArray) (l : List ByteArray) (n : Nat) (hn : n < l.length) : (over (q ++ [x]) l)[n]? = if x.1 = n then some x.2 else (over q l)[n]? := by
  rw [over_snoc, List.getElem?_set]
  by_cases h : x.1 = n
  · rw [if_pos h, if_pos (by rw [over_length]; omega), if_pos h]
  · rw [if_neg h, if_neg h]

set_option maxRecDepth 100000 in
set_option maxHeartbeats 1000000 in
theorem rnow_any (h : RDk w q F (Rk.of d kp)) (n : Nat) (hn : n < d.L.length) (s : ByteArray) (hs : (over d.Q d.L)[n]? = some s) :
    Calls Try.prog 23 #[.pointer (some ⟨q, 0, none⟩), .int .i64 n] w fun e w' => e = .returned (.string s) ∧ w = w' := by
  obtain ⟨vl, vp, vt, hR, rfl⟩ := h
  obtain ⟨po, pc, rfl⟩ := slice_of hR.rowP (n := d.Q.length) (by simp [Rk.of])
  obtain ⟨tx, tc, rfl⟩ := slice_of hR.rowT (n := d.Q.length) (by simp [Rk.of])
  obtain ⟨lo, lc, rfl⟩ := slice_of hR.rowL (n := d.L.length) rfl
  have hQl : d.Q.length ≤ 9223372036854775807 := by
    rcases hR.rowP.2 with ⟨_, e⟩ | ⟨g, cap, cur, _, _, _, e1, e2, _⟩
    · have : d.Q.length = 0 := by simpa [Rk.of] using e
      omega
    · unfold maxLen at e2
      have : d.Q.length ≤ cap := by simpa [Rk.of] using e1
      omega
  obtain ⟨g0, g1, g2, g3, g4, g5, g6, g7⟩ := hR.cells
  obtain ⟨gl, rfl⟩ := slice_some hR.rowL (by omega)
  have c2 := str_at hR.rowL (g := gl) rfl n hn
  simp only [Rk.of] at c2
  have HR := Lib.hid hR
  have HS := Lib.hid hs
  clear hR g3 g4 g5 g6 g7 hs
  obtain ⟨z, hz⟩ : ∃ z, z = d.L[n] := ⟨_, rfl⟩
  rw [← hz] at c2
  have HZ := Lib.hid hz
  clear hz
  go_enter Try.func23, Try.ntmps23
  go_wp2
  go_loop [5, 6] (fun x i => ∃ (k : Nat) (y : ByteArray), k ≤ d.Q.length ∧ i = .int .i64 k ∧ x = .string y ∧ (over (d.Q.take k) d.L)[n]? = some y) (fun _ i => d.Q.length - (intOf i).toNat)
  case atStart => exact ⟨0, z, Nat.zero_le _, rfl, rfl, by rw [HZ.out]; simp [over, hn]⟩
  case round =>
    obtain ⟨k, y, hk, rfl, rfl, hy⟩ := hrel
    have HY := Lib.hid hy
    clear hy
    by_cases hlt : k < d.Q.length
    · obtain ⟨x, hx⟩ : ∃ x, d.Q[k]? = some x := ⟨_, List.getElem?_eq_getElem hlt⟩
      have hxk : d.Q[k] = x := by rw [List.getElem?_eq_getElem hlt] at hx; simpa using hx
      obtain ⟨g, rfl⟩ := slice_some HR.out.rowP (by omega)
      obtain ⟨gt, rfl⟩ := slice_some HR.out.rowT (by omega)
      have c0 := num_at HR.out.rowP (g := g) rfl k (by simpa [Rk.of] using hlt)
      have c1 := str_at HR.out.rowT (g := gt) rfl k (by simpa [Rk.of] using hlt)
      simp only [Rk.of, List.getElem_map, hxk] at c0 c1
      have HT : Hid (over (d.Q.take (k + 1)) d.L = over (d.Q.take k ++ [x]) d.L) := by
        have e : d.Q.take (k + 1) = d.Q.take k ++ [x] := by rw [List.take_add_one, hx]; rfl
        exact Lib.hid (by rw [e])
      clear hx hxk
      obtain ⟨x0, x1⟩ := x
      simp only at c0 c1
      by_cases he : x0 = n
      · subst he
        go_wp2
        go_round
        case rel => exact ⟨k + 1, x1, by omega, by go_num, rfl, by rw [HT.out, over_get _ _ _ _ hn, if_pos rfl]⟩
        case measure => simp [intOf]; omega
      · have hb : ((x0 : Int) == (n : Int)) = false := by simp; omega
        have HE := Lib.hid he
        clear he
        go_wp2
        go_round
        case rel => exact ⟨k + 1, y, by omega, by go_num, rfl, by rw [HT.out, over_get _ _ _ _ hn, if_neg HE.out]; exact HY.out⟩
        case measure => simp [intOf]; omega
    · obtain rfl : k = d.Q.length := by omega
      rw [List.take_length, HS.out] at HY
      obtain rfl : s = y := by simpa using HY.out
      go_wp2
      go_ret
      exact ⟨rfl, rfl⟩
set_option maxHeartbeats 400000 in
theorem rread_no (h : RDk w q F (Rk.of d kp)) (n : Int) (hn : n < 0 ∨ (d.L.length : Int) ≤ n) : Calls Try.prog 14 #[.pointer (some ⟨q, 0, none⟩), .int .i64 n] w fun e w' => e = .returned (.tuple #[.string ⟨#[]⟩, .int .i64 1]) ∧ w = w' := by
  obtain ⟨vl, vp, vt, hR, rfl⟩ := h
  obtain ⟨lo, lc, rfl⟩ := slice_of hR.rowL (n := d.L.length) rfl
  have g0 := hR.cells.1
  clear hR
  by_cases h1 : n < 0
  · clear hn
    go_enter Try.func14, Try.ntmps14
    go_wp2
    go_ret2
    exact ⟨rfl, rfl⟩
  · have h2 : (d.L.length : Int) ≤ n := by omega
    clear hn
    go_enter Try.func14, Try.ntmps14
    go_wp2
    go_ret2
    exact ⟨rfl, rfl⟩

set_option maxHeartbeats 400000 in
theorem rread_off (h : RDk w q F (Rk.of d kp)) (n : Int) (h0 : 0 ≤ n) (hn : n < d.L.length) (ho : d.off = true) : Calls Try.prog 14 #[.pointer (some ⟨q, 0, none⟩), .int .i64 n] w fun e w' => e = .returned (.tuple #[.string ⟨#[]⟩, .int .i64 20]) ∧ w = w' := by
  obtain ⟨vl, vp, vt, hR, rfl⟩ := h
  obtain ⟨lo, lc, rfl⟩ := slice_of hR.rowL (n := d.L.length) rfl
  obtain ⟨g0, g1, g2, g3, g4, g5, g6, g7⟩ := hR.cells
  simp only [Rk.of, ho] at g5
  clear hR ho g1 g2 g3 g4 g6 g7
  go_enter Try.func14, Try.ntmps14
  go_wp2
  go_ret2
  exact ⟨rfl, rfl⟩

set_option maxHeartbeats 400000 in
theorem rread_ok (h : RDk w q F (Rk.of d kp)) (n : Nat) (hn : n < d.L.length) (ho : d.off = false) (s : ByteArray) (hs : (over d.Q d.L)[n]? = some s) : Calls Try.prog 14 #[.pointer (some ⟨q, 0, none⟩), .int .i64 n] w fun e w' => e = .returned (.tuple #[.string s, .int .i64 0]) ∧ w = w' := by
  have HH := Lib.hid h
  obtain ⟨vl, vp, vt, hR, rfl⟩ := h
  obtain ⟨lo, lc, rfl⟩ := slice_of hR.rowL (n := d.L.length) rfl
  obtain ⟨g0, g1, g2, g3, g4, g5, g6, g7⟩ := hR.cells
  simp only [Rk.of, ho] at g5
  have HS := Lib.hid hs
  clear hR ho hs g1 g2 g3 g4 g6 g7
  go_enter Try.func14, Try.ntmps14
  go_wp2_with fail
  refine (rnow_any HH.out n hn s HS.out).mono ?_
  rintro e w' ⟨rfl, rfl⟩
  go_wp2
  go_ret2
  exact ⟨rfl, rfl⟩

set_option maxHeartbeats 400000 in
theorem rflush_off (h : RDk w q F (Rk.of d kp)) (ho : d.off = true) : Calls Try.prog 16 #[.pointer (some ⟨q, 0, none⟩)] w fun e w' => e = .returned (.int .i64 20) ∧ w = w' := by
  obtain ⟨vl, vp, vt, hR, rfl⟩ := h
  obtain ⟨g0, g1, g2, g3, g4, g5, g6, g7⟩ := hR.cells
  simp only [Rk.of, ho] at g5
  clear hR ho g0 g1 g2 g3 g4 g6 g7
  go_enter Try.func16, Try.ntmps16
  go_wp2
  go_ret
  exact ⟨rfl, rfl⟩

set_option maxHeartbeats 400000 in
theorem rflush_cut (h : RDk w q F (Rk.of d kp)) (ho : d.off = false) (hkp : kp = d.keep) (hq : ∀ x ∈ d.Q, x.1 < d.L.length) (hf : d.fails = true) : Calls Try.prog 16 #[.pointer (some ⟨q, 0, none⟩)] w fun e w' => e = .returned (.int .i64 20) ∧ RTo w q F (Rk.of d.after kp) w' := by
  have HH := Lib.hid h
  have HK := Lib.hid hkp
  have HQ := Lib.hid hq
  have HF := Lib.hid hf
  obtain ⟨vl, vp, vt, hR, rfl⟩ := h
  obtain ⟨g0, g1, g2, g3, g4, g5, g6, g7⟩ := hR.cells
  simp only [Rk.of, ho] at g5
  clear hR ho hkp hq hf g0 g1 g2 g3 g4 g6 g7
  go_enter Try.func16, Try.ntmps16
  go_wp2_with fail
  refine (rtorn_yes HH.out HK.out HQ.out HF.out).mono ?_
  rintro e w2 ⟨rfl, hD⟩
  have HD := Lib.hid hD
  clear hD
  go_wp2
  go_ret
  exact ⟨rfl, HD.out⟩

set_option maxRecDepth 100000 in
set_option maxHeartbeats 1000000 in
theorem rflush_ok (h : RDk w q F (Rk.of d kp)) (ho : d.off = false) (hok : d.Ok) (hf : d.fails = false) (hfl : 0 ≤ d.fl) (hfl2 : d.fl < 9223372036854775807) :
    Calls Try.prog 16 #[.pointer (some ⟨q, 0, none⟩)] w fun e w' => e = .returned (.int .i64 0) ∧ RTo w q F (Rk.of d.after.flushed kp) w' := by
  have HH := Lib.hid h
  have HF := Lib.hid hf
  have HOk := Lib.hid hok
  obtain ⟨vl, vp, vt, hR, rfl⟩ := h
  obtain ⟨g0, g1, g2, g3, g4, g5, g6, g7⟩ := hR.cells
  simp only [Rk.of, ho] at g5
  clear hR ho hok hf g0 g1 g2 g3 g4 g6 g7
  go_enter Try.func16, Try.ntmps16
  go_wp2_with fail
  refine (rtorn_no HH.out HOk.out.cut0 HOk.out.cut1 HF.out).mono ?_
  rintro e w1 ⟨rfl, F1, hD1, hF1, hS1⟩
  have HF1 := Lib.hid hF1
  have HS1 := Lib.hid hS1
  obtain ⟨D, hD⟩ : ∃ D, D = d.after := ⟨_, rfl⟩
  rw [← hD] at hD1
  have HOD : Hid D.Ok := Lib.hid (by rw [hD]; exact Dk.after_ok HOk.out)
  have hDf : D.fl = d.fl := by rw [hD]; exact Dk.after_fl
  have HDe := Lib.hid hD
  clear hF1 hS1 hD g5
  obtain ⟨vl1, vp1, vt1, hR, rfl⟩ := hD1
  obtain ⟨po, pc, rfl⟩ := slice_of hR.rowP (n := D.Q.length) (by simp [Rk.of])
  obtain ⟨tx, tc, rfl⟩ := slice_of hR.rowT (n := D.Q.length) (by simp [Rk.of])
  obtain ⟨lo, lc, rfl⟩ := slice_of hR.rowL (n := D.L.length) rfl
  have hQl : D.Q.length ≤ 9223372036854775807 := by
    rcases hR.rowP.2 with ⟨_, e⟩ | ⟨g, cap, cur, _, _, _, e1, e2, _⟩
    · have : D.Q.length = 0 := by simpa [Rk.of] using e
      omega
    · unfold maxLen at e2
      have : D.Q.length ≤ cap := by simpa [Rk.of] using e1
      omega
  have HR := Lib.hid hR
  have HDf := Lib.hid hDf
  clear hR hDf
  go_wp2
  go_loopw [3] (fun i wr => ∃ k : Nat, k ≤ D.Q.length ∧ i = .int .i64 k ∧ RDisk wr q (.slice lo D.L.length lc) (.slice po D.Q.length pc) (.slice tx D.Q.length tc) (Rk.of { D with L := over (D.Q.take k) D.L } kp) ∧ Fr (RFoot q (.slice lo D.L.length lc) (.slice po D.Q.length pc) (.slice tx D.Q.length tc)) w1 wr) (fun i _ => D.Q.length - (intOf i).toNat)
  case atStart => exact ⟨0, Nat.zero_le _, rfl, by simpa [over] using HR.out, Fr.refl _ _⟩
  case round =>
    obtain ⟨k, hk, rfl, hD, hC⟩ := hrel
    have HD := Lib.hid hD
    have HC := Lib.hid hC
    obtain ⟨g0, g1, g2, g3, g4, g5, g6, g7⟩ := hD.cells
    have hf := hD.free
    clear hD hC g3 g4 g5 g6 HR
    by_cases hlt : k < D.Q.length
    · obtain ⟨x, hx⟩ : ∃ x, D.Q[k]? = some x := ⟨_, List.getElem?_eq_getElem hlt⟩
      have hx1 : x.1 < D.L.length := HOD.out.inQ x (List.mem_of_getElem? hx)
      have hxk : D.Q[k] = x := by rw [List.getElem?_eq_getElem hlt] at hx; simpa using hx
      obtain ⟨g, rfl⟩ := slice_some HD.out.rowP (by omega)
      obtain ⟨gt, rfl⟩ := slice_some HD.out.rowT (by omega)
      obtain ⟨gl, rfl⟩ := slice_some HD.out.rowL (by omega)
      have c0 := num_at HD.out.rowP (g := g) rfl k (by simpa [Rk.of] using hlt)
      have c1 := str_at HD.out.rowT (g := gt) rfl k (by simpa [Rk.of] using hlt)
      have c2 := str_at HD.out.rowL (g := gl) rfl x.1 (by simpa [Rk.of, over_length] using hx1)
      have c3 := owned_free HD.out.rowL (g := gl) rfl x.1
      simp only [Rk.of, List.getElem_map, hxk] at c0 c1 c2
      obtain ⟨z, hz⟩ : ∃ z, z = (over (D.Q.take k) D.L)[x.1]'(by rw [over_length]; exact hx1) := ⟨_, rfl⟩
      rw [← hz] at c2
      clear hz
      have HS : Hid (over (D.Q.take (k + 1)) D.L = (over (D.Q.take k) D.L).set x.1 x.2) := by
        have e : D.Q.take (k + 1) = D.Q.take k ++ [x] := by
          rw [List.take_add_one, hx]; rfl
        exact Lib.hid (by rw [e, over_snoc])
      clear hx hxk g7
      obtain ⟨x0, x1⟩ := x
      simp only at c0 c1 c2 c3 hx1
      go_wp2
      go_region
      all_goals
        go_wp2
        go_roundw
        case rel =>
          refine ⟨k + 1, by omega, by go_num, ?_, ?_⟩
          · rw [HS.out]
            exact (HD.out.setL x0 x1).drew
          · exact (HC.out.trans (Sub.refl _ _) (Fr.setL _ _)).trans (Sub.refl _ _) (Fr.ofBelow _ ((Below.refl _ _).drew))
        case measure => simp [intOf]; omega
    · obtain rfl : k = D.Q.length := by omega
      rw [List.take_length, ← HOD.out.seen] at HD
      simp only [Rk.of] at g7
      rw [HDf.out] at g7
      go_wp2
      go_ret
      refine ⟨rfl, RFoot q (.slice lo D.L.length lc) (.slice none 0 0) (.slice none 0 0), ⟨_, _, _, ?_, rfl⟩, ?_, ?_⟩
      · have e1 := HD.out.setQ 1 (.slice none 0 0) (.slice none 0 0) (.slice tx D.Q.length tc) { Rk.of { D with L := D.S } kp with P := [] } rfl (.inr ⟨rfl, rfl⟩) (.inl ⟨rfl, rfl⟩) rfl
        have e2 := e1.setQ 2 (.slice none 0 0) (.slice none 0 0) (.slice none 0 0) { Rk.of { D with L := D.S } kp with P := [], T := [] } rfl (.inl ⟨rfl, rfl⟩) (.inr ⟨rfl, rfl⟩) rfl
        have e3 := e2.setQ 7 (.int .i64 (d.fl + 1)) (.slice none 0 0) (.slice none 0 0) (Rk.of D.flushed kp) rfl (.inl ⟨rfl, rfl⟩) (.inl ⟨rfl, rfl⟩) (by simp only [Rk.of, Dk.flushed, HDf.out]; rfl)
        rw [HDe.out] at e3
        rw [HDe.out]
        exact e3
      · exact HF1.out.trans HS1.out (((HC.out.trans (Sub.refl _ _) (Fr.setQ 1 _)).trans (Sub.nils (.inr rfl) (.inl rfl)) (Fr.setQ 2 _)).trans (Sub.nils (.inr rfl) (.inr rfl)) (Fr.setQ 7 _))
      · exact HS1.out.trans (Sub.nils (w := w1) (.inr rfl) (.inr rfl)) HF1.out.size
end
end Go.Proofs.Ythomjcndaddbbaa
