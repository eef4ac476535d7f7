/-
  SectorScripts' walk: both disks answer alike through every script. Its conditions: the script lies in memory and has at most 3600000000000 acts.
-/
import Derived.Test.YthomjcndaddbbaaActs
import Derived.Deep.DeepCutAuto
import Derived.Deep.RegionWith
namespace Go.Proofs.Ythomjcndaddbbaa
open Go.RowKit

/-- Both disks hold one state. -/
def Pair (w0 w : World) (l : Loc) (q n m : Nat) : Prop := ∃ v d F kp, Both w0 w l v d q F (Rk.of d kp) n ∧ d.Lim m ∧ (d.cut ≠ 0 → kp = d.keep)

section
variable {w : World} {q : Nat} {F : Nat → Prop} {d : Dk} {kp : Int}
theorem RDk.facts {r : Rk} (h : RDk w q F r) : w.cell? ⟨q, 3, none⟩ = some (.int .i64 r.cut) ∧ w.cell? ⟨q, 4, none⟩ = some (.int .i64 r.keep) ∧ w.cell? ⟨q, 5, none⟩ = some (.bool r.off) ∧ w.cell? ⟨q, 6, none⟩ = some (.int .i64 r.wr) ∧ w.cell? ⟨q, 7, none⟩ = some (.int .i64 r.fl) ∧ (∀ o, w.frozen? ⟨q, o, none⟩ = false) ∧
    ∃ lo lc, w.cell? ⟨q, 0, none⟩ = some (.slice lo r.L.length lc) := by
  obtain ⟨vl, vp, vt, hR, rfl⟩ := h
  obtain ⟨lo, lc, rfl⟩ := slice_of hR.rowL (n := r.L.length) rfl
  obtain ⟨g0, g1, g2, g3, g4, g5, g6, g7⟩ := hR.cells
  exact ⟨g3, g4, g5, g6, g7, hR.free, lo, lc, g0⟩
theorem RDk.onTo (h : RDk w q F (Rk.of d kp)) : RTo w q F (Rk.of d.on kp) ((w.setCell ⟨q, 5, none⟩ (.bool false)).setCell ⟨q, 3, none⟩ (.int .i64 0)) := by
  obtain ⟨vl, vp, vt, hR, rfl⟩ := h
  have e1 := hR.setQ 5 (.bool false) vp vt { Rk.of d kp with off := false } rfl (.inl ⟨rfl, rfl⟩) (.inl ⟨rfl, rfl⟩) rfl
  have e2 := e1.setQ 3 (.int .i64 0) vp vt (Rk.of d.on kp) rfl (.inl ⟨rfl, rfl⟩) (.inl ⟨rfl, rfl⟩) rfl
  exact ⟨_, ⟨_, _, _, e2, rfl⟩, (Fr.setQ 5 _).trans (Sub.refl _ _) (Fr.setQ 3 _), Sub.refl _ _⟩
theorem RDk.offTo (h : RDk w q F (Rk.of d kp)) : RTo w q F (Rk.of { d with off := false } kp) (w.setCell ⟨q, 5, none⟩ (.bool false)) := by
  obtain ⟨vl, vp, vt, hR, rfl⟩ := h
  have e1 := hR.setQ 5 (.bool false) vp vt (Rk.of { d with off := false } kp) rfl (.inl ⟨rfl, rfl⟩) (.inl ⟨rfl, rfl⟩) rfl
  exact ⟨_, ⟨_, _, _, e1, rfl⟩, Fr.setQ 5 _, Sub.refl _ _⟩
theorem RDk.cutTo (h : RDk w q F (Rk.of d kp)) (a b : Int) : RTo w q F (Rk.of (d.setCut a b) b) ((w.setCell ⟨q, 3, none⟩ (.int .i64 (max a 1))).setCell ⟨q, 4, none⟩ (.int .i64 b)).drew := by
  obtain ⟨vl, vp, vt, hR, rfl⟩ := h
  have e1 := hR.setQ 3 (.int .i64 (max a 1)) vp vt { Rk.of d kp with cut := max a 1 } rfl (.inl ⟨rfl, rfl⟩) (.inl ⟨rfl, rfl⟩) rfl
  have e2 := e1.setQ 4 (.int .i64 b) vp vt (Rk.of (d.setCut a b) b) rfl (.inl ⟨rfl, rfl⟩) (.inl ⟨rfl, rfl⟩) rfl
  exact ⟨_, ⟨_, _, _, e2.drew, rfl⟩, ((Fr.setQ 3 _).trans (Sub.refl _ _) (Fr.setQ 4 _)).trans (Sub.refl _ _) (Fr.ofBelow _ ((Below.refl _ _).drew)), Sub.refl _ _⟩
end
theorem eight (m : Int) : 0 ≤ (wrap64 (m.tmod 8 + 8)).tmod 8 ∧ (wrap64 (m.tmod 8 + 8)).tmod 8 ≤ 7 := by
  have h1 : -8 < m.tmod 8 := by
    rcases Int.le_total 0 m with h | h
    · rw [Int.tmod_eq_emod_of_nonneg h]; omega
    · have := Int.neg_tmod (-m) 8
      rw [Int.neg_neg] at this
      rw [this, Int.tmod_eq_emod_of_nonneg (by omega)]; omega
  have h2 : m.tmod 8 < 8 := by
    rcases Int.le_total 0 m with h | h
    · rw [Int.tmod_eq_emod_of_nonneg h]; omega
    · have := Int.neg_tmod (-m) 8
      rw [Int.neg_neg] at this
      rw [this, Int.tmod_eq_emod_of_nonneg (by omega)]; omega
  rw [IntWalk.wrap64_in _ (by omega), Int.tmod_eq_emod_of_nonneg (by omega)]
  omega

set_option maxRecDepth 100000 in
set_option maxHeartbeats 2000000 in
theorem scripts_no (size : Int) (L : List Ac) (ao : Option Addr) (cap : Nat) (w : World) (hs : size < 1 ∨ 1026 < size) :
    Calls Try.prog 3 #[.int .i64 size, .slice ao L.length cap] w fun e w' => e = .returned (.bool true) ∧ Below w.heap.size w w' := by
  have HS := Lib.hid hs
  clear hs
  go_enter Try.func3, Try.ntmps3
  go_wp2_with fail
  refine (speaks_any w).mono ?_
  rintro e w0 ⟨rfl, hB0⟩
  have HB0 := Lib.hid hB0
  clear hB0
  go_wp2_with fail
  refine (new_no size w0 HS.out).mono ?_
  rintro e w1 ⟨rfl, rfl⟩
  go_wp2_with fail
  refine (rnew_no size w0 HS.out).mono ?_
  rintro e w1 ⟨rfl, rfl⟩
  go_wp2
  go_ret
  exact ⟨rfl, HB0.out⟩

set_option maxRecDepth 100000 in
set_option maxHeartbeats 2000000 in
theorem scripts_walk (n : Nat) (L : List Ac) (ao : Option Addr) (cap : Nat) (w : World) (hn1 : 1 ≤ n) (hn2 : n ≤ 1026) (hA : ActAt w ao L) (hz : ∀ i (h : i < L.length), L[i].a ≤ 9223372036854775807) (hl : L.length ≤ 3600000000000) :
    Calls Try.prog 3 #[.int .i64 n, .slice ao L.length cap] w fun e w' => e = .returned (.bool true) ∧ Below w.heap.size w w' := by
  have HA := Lib.hid hA
  have HZ := Lib.hid hz
  clear hA hz
  go_enter Try.func3, Try.ntmps3
  go_wp2_with fail
  refine (speaks_any w).mono ?_
  rintro e w0 ⟨rfl, hB0⟩
  have HB0 := Lib.hid hB0
  clear hB0
  go_wp2_with fail
  refine (new_any n w0 hn1 hn2).mono ?_
  rintro e w1 ⟨l, rfl, hD, hB, hp, hb, hc⟩
  have HD := Lib.hid hD
  have HB := Lib.hid hB
  clear hD hB
  go_wp2_with fail
  refine (rnew_any n w1 hn1 hn2).mono ?_
  rintro e w2 ⟨q, F, rfl, hR, hB2, hF⟩
  have HP : Hid (Pair w0 w2 l q n 0) := by
    refine Lib.hid ⟨.slice none 0 0, Dk.new n, F, 0, ⟨⟨HD.out.below hB2, Dk.new_ok n, Dk.new_len n, HB.out.trans (hB2.mono HB.out.size), hp, hb, hc, by intro k hk; simp [Value.ownBlock] at hk⟩, hR, ?_, ?_⟩, Dk.new_lim n, fun e => absurd rfl e⟩
    · intro k hk hf
      have := HD.out.foot hk
      have := hF k hf
      omega
    · intro k hk
      have := hF k hk
      have := HB.out.size
      omega
  clear hR hB2 hF HD HB hp hb hc
  go_wp2
  go_loopw [8] (fun i wr => ∃ k : Nat, k ≤ L.length ∧ i = .int .i64 k ∧ Pair w0 wr l q n k) (fun i _ => L.length - (intOf i).toNat)
  case atStart => exact ⟨0, Nat.zero_le _, rfl, HP.out⟩
  case round =>
    obtain ⟨k, hk, rfl, v, d, F2, kp, hP, hLm, hkp⟩ := hrel
    have HP2 := Lib.hid hP
    have HLm := Lib.hid hLm
    have HK := Lib.hid hkp
    clear hP hLm hkp HP
    by_cases hlt : k < L.length
    · obtain ⟨g, off, rfl, hg, a0, a1, a2, a3⟩ := (HA.out.below (HB0.out.trans (HP2.out.mine.below.mono HB0.out.size))) k hlt
      have hza := HZ.out k hlt
      generalize L[k] = x at *
      obtain ⟨B, hBq⟩ : ∃ B, B = wr.heap.size := ⟨_, rfl⟩
      have HBq := Lib.hid hBq
      clear hBq
      go_upto_region 12 with (fail)
      rw [← HBq.out]
      have HG : Hid (Guest (wr.alloc (.cells #[.int .i64 x.what, .int .i64 x.a, .int .i64 x.b, .string x.data] 31)) B x) := Lib.hid (by rw [HBq.out]; exact heap_alloc_new wr _)
      have HP3 := Lib.hid (HP2.out.belowed ((Below.refl _ _).alloc (Nat.le_refl _) (.cells #[.int .i64 x.what, .int .i64 x.a, .int .i64 x.b, .string x.data] 31)))
      generalize wr.alloc (.cells #[.int .i64 x.what, .int .i64 x.a, .int .i64 x.b, .string x.data] 31) = W at *
      clear HP2 a0 a1 a2 a3 hg HBq
      obtain ⟨c0, c1, c2, c3⟩ := HG.out.cells
      go_upto_block 2 with (fail)
      have hM := eight x.what
      generalize (wrap64 (x.what.tmod 8 + 8)).tmod 8 = M at *
      have hk8 : k < 4000000000000 := by omega
      go_cut [10, 11, 12, 13, 14] (fun s10 s11 s12 s13 s14 wc => s10 = .bool true ∧ Pair w0 wc l q n (k + 1))
      case first =>
        have HP4 := Lib.hid HP3.out.drew
        have HG4 : Hid (Guest W.drew B x) := HG
        obtain ⟨hM0, hM7⟩ := hM
        by_cases m0 : M = 0
        · subst m0
          go_wp2
          go_region_held3 (fun w' => w'.cell? ⟨B, 1, none⟩ = some (.int .i64 x.a) ∧ w'.cell? ⟨B, 3, none⟩ = some (.string x.data)) (first | exact ⟨i1, i3⟩ | exact ⟨e1, e3⟩ | exact ⟨c1, c3⟩)
            (first
            | (go_at_call 11; first
              | ((with_reducible refine (w_any HP4.out.mine.disk HP4.out.mine.ok HLm.out hk8 x.a x.data).mono ?_); rintro e w5 ⟨rfl, hd5⟩; obtain ⟨v5, hB5⟩ := HP4.out.stepD hd5 (Dk.wnext_ok HP4.out.mine.ok x.a x.data).1 ((Dk.wnext_ok HP4.out.mine.ok x.a x.data).2.1.trans HP4.out.mine.len); have hG5 := HG4.out.stepD HP4.out.mine.disk hd5; have HA5 := Lib.hid hB5; have HG5 := Lib.hid hG5; obtain ⟨e0, e1, e2, e3⟩ := hG5.cells; clear hd5 hB5 hG5)
              | ((with_reducible refine (w_any HR5.out.mine.disk HR5.out.mine.ok HLm.out hk8 x.a x.data).mono ?_); rintro e w6 ⟨rfl, hd6⟩; obtain ⟨v6, hB6⟩ := HR5.out.stepD hd6 (Dk.wnext_ok HR5.out.mine.ok x.a x.data).1 ((Dk.wnext_ok HR5.out.mine.ok x.a x.data).2.1.trans HR5.out.mine.len); have hG6 := HG5.out.stepD HR5.out.mine.disk hd6; obtain ⟨i0, i1, i2, i3⟩ := hG6.cells; have HE : Hid (Pair w0 w6 l q n (k + 1)) := Lib.hid ⟨_, _, _, kp, hB6, Dk.wnext_lim HLm.out x.a x.data, fun hc => by (rw [(Dk.wnext_ok HP4.out.mine.ok x.a x.data).2.2.1]; exact HK.out ((Dk.wnext_ok HP4.out.mine.ok x.a x.data).2.2.2 hc))⟩; clear hd6 hB6 hG6))
            | (go_at_call 12; first
              | ((with_reducible refine (rw_any HP4.out.ref HK.out HP4.out.mine.ok HLm.out hk8 x.a x.data).mono ?_); rintro e w5 ⟨rfl, hd5⟩; obtain ⟨F5, hB5⟩ := HP4.out.stepR hd5; have hG5 := HG4.out.stepR HP4.out.ref hd5; have HR5 := Lib.hid hB5; have HG5 := Lib.hid hG5; obtain ⟨e0, e1, e2, e3⟩ := hG5.cells; clear hd5 hB5 hG5)
              | ((with_reducible refine (rw_any HA5.out.ref HK.out HP4.out.mine.ok HLm.out hk8 x.a x.data).mono ?_); rintro e w6 ⟨rfl, hd6⟩; obtain ⟨F6, hB6⟩ := HA5.out.stepR hd6; have hG6 := HG5.out.stepR HA5.out.ref hd6; obtain ⟨i0, i1, i2, i3⟩ := hG6.cells; have HE : Hid (Pair w0 w6 l q n (k + 1)) := Lib.hid ⟨_, _, _, kp, hB6, Dk.wnext_lim HLm.out x.a x.data, fun hc => by (rw [(Dk.wnext_ok HP4.out.mine.ok x.a x.data).2.2.1]; exact HK.out ((Dk.wnext_ok HP4.out.mine.ok x.a x.data).2.2.2 hc))⟩; clear hd6 hB6 hG6)))
          all_goals
            go_wp2
            go_meet
            exact ⟨by simp, HE.out⟩
        by_cases m1 : M = 1
        · subst m1
          go_wp2
          go_region_held3 (fun w' => w'.cell? ⟨B, 1, none⟩ = some (.int .i64 x.a) ∧ w'.cell? ⟨B, 3, none⟩ = some (.string x.data)) (first | exact ⟨i1, i3⟩ | exact ⟨e1, e3⟩ | exact ⟨c1, c3⟩)
            (first
            | (go_at_call 11; first
              | ((with_reducible refine (w_any HP4.out.mine.disk HP4.out.mine.ok HLm.out hk8 x.a x.data).mono ?_); rintro e w5 ⟨rfl, hd5⟩; obtain ⟨v5, hB5⟩ := HP4.out.stepD hd5 (Dk.wnext_ok HP4.out.mine.ok x.a x.data).1 ((Dk.wnext_ok HP4.out.mine.ok x.a x.data).2.1.trans HP4.out.mine.len); have hG5 := HG4.out.stepD HP4.out.mine.disk hd5; have HA5 := Lib.hid hB5; have HG5 := Lib.hid hG5; obtain ⟨e0, e1, e2, e3⟩ := hG5.cells; clear hd5 hB5 hG5)
              | ((with_reducible refine (w_any HR5.out.mine.disk HR5.out.mine.ok HLm.out hk8 x.a x.data).mono ?_); rintro e w6 ⟨rfl, hd6⟩; obtain ⟨v6, hB6⟩ := HR5.out.stepD hd6 (Dk.wnext_ok HR5.out.mine.ok x.a x.data).1 ((Dk.wnext_ok HR5.out.mine.ok x.a x.data).2.1.trans HR5.out.mine.len); have hG6 := HG5.out.stepD HR5.out.mine.disk hd6; obtain ⟨i0, i1, i2, i3⟩ := hG6.cells; have HE : Hid (Pair w0 w6 l q n (k + 1)) := Lib.hid ⟨_, _, _, kp, hB6, Dk.wnext_lim HLm.out x.a x.data, fun hc => by (rw [(Dk.wnext_ok HP4.out.mine.ok x.a x.data).2.2.1]; exact HK.out ((Dk.wnext_ok HP4.out.mine.ok x.a x.data).2.2.2 hc))⟩; clear hd6 hB6 hG6))
            | (go_at_call 12; first
              | ((with_reducible refine (rw_any HP4.out.ref HK.out HP4.out.mine.ok HLm.out hk8 x.a x.data).mono ?_); rintro e w5 ⟨rfl, hd5⟩; obtain ⟨F5, hB5⟩ := HP4.out.stepR hd5; have hG5 := HG4.out.stepR HP4.out.ref hd5; have HR5 := Lib.hid hB5; have HG5 := Lib.hid hG5; obtain ⟨e0, e1, e2, e3⟩ := hG5.cells; clear hd5 hB5 hG5)
              | ((with_reducible refine (rw_any HA5.out.ref HK.out HP4.out.mine.ok HLm.out hk8 x.a x.data).mono ?_); rintro e w6 ⟨rfl, hd6⟩; obtain ⟨F6, hB6⟩ := HA5.out.stepR hd6; have hG6 := HG5.out.stepR HA5.out.ref hd6; obtain ⟨i0, i1, i2, i3⟩ := hG6.cells; have HE : Hid (Pair w0 w6 l q n (k + 1)) := Lib.hid ⟨_, _, _, kp, hB6, Dk.wnext_lim HLm.out x.a x.data, fun hc => by (rw [(Dk.wnext_ok HP4.out.mine.ok x.a x.data).2.2.1]; exact HK.out ((Dk.wnext_ok HP4.out.mine.ok x.a x.data).2.2.2 hc))⟩; clear hd6 hB6 hG6)))
          all_goals
            go_wp2
            go_meet
            exact ⟨by simp, HE.out⟩
        by_cases m2 : M = 2
        · subst m2
          go_wp2
          go_region_held3 (fun w' => w'.cell? ⟨B, 1, none⟩ = some (.int .i64 x.a) ∧ w'.cell? ⟨B, 3, none⟩ = some (.string x.data)) (first | exact ⟨i1, i3⟩ | exact ⟨e1, e3⟩ | exact ⟨c1, c3⟩)
            (first
            | (go_at_call 11; first
              | ((with_reducible refine (w_any HP4.out.mine.disk HP4.out.mine.ok HLm.out hk8 x.a x.data).mono ?_); rintro e w5 ⟨rfl, hd5⟩; obtain ⟨v5, hB5⟩ := HP4.out.stepD hd5 (Dk.wnext_ok HP4.out.mine.ok x.a x.data).1 ((Dk.wnext_ok HP4.out.mine.ok x.a x.data).2.1.trans HP4.out.mine.len); have hG5 := HG4.out.stepD HP4.out.mine.disk hd5; have HA5 := Lib.hid hB5; have HG5 := Lib.hid hG5; obtain ⟨e0, e1, e2, e3⟩ := hG5.cells; clear hd5 hB5 hG5)
              | ((with_reducible refine (w_any HR5.out.mine.disk HR5.out.mine.ok HLm.out hk8 x.a x.data).mono ?_); rintro e w6 ⟨rfl, hd6⟩; obtain ⟨v6, hB6⟩ := HR5.out.stepD hd6 (Dk.wnext_ok HR5.out.mine.ok x.a x.data).1 ((Dk.wnext_ok HR5.out.mine.ok x.a x.data).2.1.trans HR5.out.mine.len); have hG6 := HG5.out.stepD HR5.out.mine.disk hd6; obtain ⟨i0, i1, i2, i3⟩ := hG6.cells; have HE : Hid (Pair w0 w6 l q n (k + 1)) := Lib.hid ⟨_, _, _, kp, hB6, Dk.wnext_lim HLm.out x.a x.data, fun hc => by (rw [(Dk.wnext_ok HP4.out.mine.ok x.a x.data).2.2.1]; exact HK.out ((Dk.wnext_ok HP4.out.mine.ok x.a x.data).2.2.2 hc))⟩; clear hd6 hB6 hG6))
            | (go_at_call 12; first
              | ((with_reducible refine (rw_any HP4.out.ref HK.out HP4.out.mine.ok HLm.out hk8 x.a x.data).mono ?_); rintro e w5 ⟨rfl, hd5⟩; obtain ⟨F5, hB5⟩ := HP4.out.stepR hd5; have hG5 := HG4.out.stepR HP4.out.ref hd5; have HR5 := Lib.hid hB5; have HG5 := Lib.hid hG5; obtain ⟨e0, e1, e2, e3⟩ := hG5.cells; clear hd5 hB5 hG5)
              | ((with_reducible refine (rw_any HA5.out.ref HK.out HP4.out.mine.ok HLm.out hk8 x.a x.data).mono ?_); rintro e w6 ⟨rfl, hd6⟩; obtain ⟨F6, hB6⟩ := HA5.out.stepR hd6; have hG6 := HG5.out.stepR HA5.out.ref hd6; obtain ⟨i0, i1, i2, i3⟩ := hG6.cells; have HE : Hid (Pair w0 w6 l q n (k + 1)) := Lib.hid ⟨_, _, _, kp, hB6, Dk.wnext_lim HLm.out x.a x.data, fun hc => by (rw [(Dk.wnext_ok HP4.out.mine.ok x.a x.data).2.2.1]; exact HK.out ((Dk.wnext_ok HP4.out.mine.ok x.a x.data).2.2.2 hc))⟩; clear hd6 hB6 hG6)))
          all_goals
            go_wp2
            go_meet
            exact ⟨by simp, HE.out⟩
        by_cases m3 : M = 3
        · subst m3
          go_wp2_with fail
          refine (r_any HP3.out.mine.disk x.a).mono ?_
          rintro e w5 ⟨rfl, rfl⟩
          go_wp2_with fail
          refine (rr_any HP3.out.ref HP3.out.mine.ok x.a).mono ?_
          rintro e w5 ⟨rfl, rfl⟩
          go_wp2
          go_meet
          exact ⟨by simp, v, d, F2, kp, HP3.out, HLm.out.more, HK.out⟩
        by_cases m4 : M = 4
        · subst m4
          go_wp2_with fail
          refine (f_any HP3.out.mine.disk HP3.out.mine.ok HLm.out hk8).mono ?_
          rintro e w5 ⟨rfl, hd5⟩
          obtain ⟨v5, hB5⟩ := HP3.out.stepD hd5 (Dk.fnext_ok HP3.out.mine.ok).1 ((Dk.fnext_ok HP3.out.mine.ok).2.1.trans HP3.out.mine.len)
          have HB5 := Lib.hid hB5
          clear hd5 hB5
          go_wp2_with fail
          refine (rf_any HB5.out.ref HK.out HP3.out.mine.ok HLm.out hk8).mono ?_
          rintro e w6 ⟨rfl, hd6⟩
          obtain ⟨F6, hB6⟩ := HB5.out.stepR hd6
          have HE : Hid (Pair w0 w6 l q n (k + 1)) := Lib.hid ⟨_, _, _, kp, hB6, Dk.fnext_lim HLm.out, fun hc => by rw [(Dk.fnext_ok HP3.out.mine.ok).2.2.1]; exact HK.out ((Dk.fnext_ok HP3.out.mine.ok).2.2.2 hc)⟩
          clear hd6 hB6
          go_wp2
          go_meet
          exact ⟨by simp, HE.out⟩
        by_cases m5 : M = 5
        · subst m5
          go_wp2_with fail
          refine (cut_any HP3.out.mine.disk x.a x.b).mono ?_
          rintro e w5 ⟨rfl, hd5⟩
          obtain ⟨v5, hB5⟩ := HP3.out.stepD hd5 (Dk.setCut_ok HP3.out.mine.ok x.a x.b hza) HP3.out.mine.len
          have HG5 := HG.out.stepD HP3.out.mine.disk hd5
          obtain ⟨e0, e1, e2, e3⟩ := HG5.cells
          have HB5 := Lib.hid hB5
          obtain ⟨f3, f4, f5, f6, f7, ff, _⟩ := hB5.ref.facts
          obtain ⟨F6, hB6⟩ := hB5.stepR (hB5.ref.cutTo x.a x.b)
          have HE := Lib.hid hB6
          clear hd5 hB5 HG5 hB6
          go_wp2
          go_region
          all_goals
            go_wp2
            go_meet
            exact ⟨rfl, v5, d.setCut x.a x.b, F6, x.b, HE.out, (Dk.setCut_lim HLm.out x.a x.b).more, fun _ => rfl⟩
        by_cases m6 : M = 6
        · subst m6
          go_wp2_with fail
          refine (crash_any HP3.out.mine.disk HP3.out.mine.ok.inQ x.b).mono ?_
          rintro e w5 ⟨rfl, hd5⟩
          obtain ⟨v5, hB5⟩ := HP3.out.stepD hd5 (Dk.crash_ok HP3.out.mine.ok x.b) ((Dk.crash_len x.b).trans HP3.out.mine.len)
          have HG5 := HG.out.stepD HP3.out.mine.disk hd5
          obtain ⟨e0, e1, e2, e3⟩ := HG5.cells
          have HB5 := Lib.hid hB5
          clear hd5 hB5 HG5
          go_wp2_with fail
          refine (rlose_any HB5.out.ref HP3.out.mine.ok.inQ x.b).mono ?_
          rintro e w6 ⟨rfl, hd6⟩
          obtain ⟨F6, hB6⟩ := HB5.out.stepR hd6
          obtain ⟨f3, f4, f5, f6, f7, ff, _⟩ := hB6.ref.facts
          obtain ⟨F7, hB7⟩ := hB6.stepR hB6.ref.onTo
          have HE := Lib.hid hB7
          clear hd6 hB6 hB7
          go_wp2
          go_meet
          exact ⟨rfl, v5, d.crash x.b, F7, kp, HE.out, Dk.crash_lim HLm.out x.b, fun hc => absurd rfl hc⟩
        obtain rfl : M = 7 := by omega
        go_wp2_with fail
        refine (on_any HP3.out.mine.disk).mono ?_
        rintro e w5 ⟨rfl, hd5⟩
        obtain ⟨v5, hB5⟩ := HP3.out.stepD hd5 (Dk.on_ok HP3.out.mine.ok) HP3.out.mine.len
        obtain ⟨f3, f4, f5, f6, f7, ff, _⟩ := hB5.ref.facts
        obtain ⟨F7, hB7⟩ := hB5.stepR hB5.ref.onTo
        have HE := Lib.hid hB7
        clear hd5 hB5 hB7
        go_wp2
        go_meet
        exact ⟨rfl, v5, d.on, F7, kp, HE.out, (Dk.on_lim HLm.out).more, fun hc => absurd rfl hc⟩
      case rest =>
        obtain ⟨rfl, v6, d6, F6, kp6, hP6, hL6, hk6⟩ := hcut
        have HP6 := Lib.hid hP6
        have HL6 := Lib.hid hL6
        have HK6 := Lib.hid hk6
        clear hP6 hL6 hk6 HP3 HG HK HLm c0 c1 c2 c3 hM
        go_wp2_with fail
        refine (counts_any HP6.out.mine.disk).mono ?_
        rintro e w7 ⟨rfl, hd7⟩
        obtain ⟨v7, hB7⟩ := HP6.out.stepD hd7 HP6.out.mine.ok HP6.out.mine.len
        have HB7 := Lib.hid hB7
        obtain ⟨f3, f4, f5, f6, f7, ff, _⟩ := hB7.ref.facts
        simp only [Rk.of] at f5 f6 f7
        clear hd7 hB7 f3 f4 ff HP6
        go_wp2
        go_quiet ((go_at_call 22; refine (off_any (HB7.out.belowed (below_drewN (Below.refl _ _) _)).mine.disk).mono ?_; rintro e w' ⟨rfl, rfl⟩; exact ⟨rfl, _, rfl⟩))
        have HE : Hid (Pair w0 (w7.drewN nq) l q n (k + 1)) := Lib.hid ⟨_, _, _, _, HB7.out.belowed (below_drewN (Below.refl _ _) _), HL6.out, HK6.out⟩
        go_wp2
        go_roundw
        case rel => exact ⟨k + 1, by omega, by go_num, HE.out⟩
        case measure => simp [intOf]; omega
    · have HB1 := Lib.hid HP2.out
      go_wp2_with fail
      refine (on_any HB1.out.mine.disk).mono ?_
      rintro e w5 ⟨rfl, hd5⟩
      obtain ⟨v5, hB5⟩ := HB1.out.stepD hd5 (Dk.on_ok HB1.out.mine.ok) HB1.out.mine.len
      obtain ⟨f3, f4, f5, f6, f7, ff, _⟩ := hB5.ref.facts
      obtain ⟨F7, hB7⟩ := hB5.stepR hB5.ref.offTo
      have HE := Lib.hid hB7
      clear hd5 hB5 hB7 f3 f4 f6 f7
      go_wp2
      generalize w5.setCell ⟨q, 5, none⟩ (.bool false) = W at *
      obtain ⟨_, _, _, _, _, _, lo, lc, f0⟩ := HE.out.ref.facts
      have hLn : (Rk.of { d with off := false } kp).L.length = n := HB1.out.mine.len
      rw [hLn] at f0
      have HLn := Lib.hid hLn
      clear hLn
      go_loop [17, 18, 19] (fun i _ _ => ∃ m : Nat, m ≤ n ∧ i = .int .i64 m) (fun i _ _ => n - (intOf i).toNat)
      case atStart => exact ⟨0, Nat.zero_le _, rfl⟩
      case round =>
        obtain ⟨m, hm, rfl⟩ := hrel
        by_cases hlt2 : m < n
        · obtain ⟨s, hs⟩ : ∃ s, d.on.S.getD m ⟨#[]⟩ = s := ⟨_, rfl⟩
          have HS := Lib.hid hs
          clear hs
          go_wp2_with fail
          refine (my_read HE.out.mine m hlt2 rfl s HS.out).mono ?_
          rintro e w' ⟨rfl, rfl⟩
          go_wp2_with fail
          refine (rnow_any HE.out.ref m (by show m < d.L.length; rw [HB1.out.mine.len]; exact hlt2) s ?_).mono ?_
          · have := over_some HB1.out.mine.ok m (by rw [HB1.out.mine.len]; exact hlt2)
            rw [← HS.out]; exact this
          rintro e w' ⟨rfl, rfl⟩
          go_wp2
          go_round
          case rel => exact ⟨m + 1, by omega, by go_num⟩
          case measure => simp [intOf]; omega
        · go_wp2_with fail
          refine (size_any HE.out.mine.disk).mono ?_
          rintro e w' ⟨rfl, rfl⟩
          rw [HE.out.mine.len]
          have HZB := Lib.hid (HB0.out.trans (HE.out.mine.below.mono HB0.out.size))
          go_wp2
          go_ret
          exact ⟨rfl, HZB.out⟩
end Go.Proofs.Ythomjcndaddbbaa
