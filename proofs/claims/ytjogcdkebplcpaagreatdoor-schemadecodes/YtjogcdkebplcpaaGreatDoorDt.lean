/-
  The document's take, sign by sign: what it takes is what the program's taker takes. Its condition: there is room.
-/
import Derived.Test.YtjogcdkebplcpaaGreatDoorCz
import Derived.Test.YtjogcdkebplcpaaGreatDoorVa
import Derived.Deep.DeepCutAuto
import Derived.Deep.LoopGhost
import Derived.Deep.CutBlock
namespace Go.Proofs.YtjogcdkebplcpaaGreatDoor
open Go.RowKit Sch

def DtC (F : List UInt8) (M : Nat) : Prop := ∀ (n a : Nat) (r : Row) (t' : List UInt8), a ≤ F.length → F.length - a ≤ M → Pn n (F.drop a) = some (r, t') →
  ∀ (B0 p q : Nat) (R : ByteArray) (N : List Int) (T : List ByteArray) (l : List UInt8) (w : World), DS B0 p q R N T l 0 w → l.length ≤ 65536 → N.length + T.length + r.sz * (l.length / 4 + 1) ≤ 1000000000 →
  Calls Tryz.prog 17 #[.string ⟨F.toArray⟩, .int .i64 a, .pointer (some ⟨q, 0, none⟩), .pointer (some ⟨p, 0, none⟩)] w fun e w' => e = .returned (.int .i64 ((F.length - t'.length : Nat) : Int)) ∧ Below B0 w w' ∧ Out B0 p q R N T (tk none r l) w'
theorem out_ofN {B0 p q : Nat} {R : ByteArray} {N : List Int} {T : List ByteArray} {X : Int × List UInt8 × Int} {w : World} (h : DS B0 p q R (N ++ [X.1]) T X.2.1 X.2.2 w) : Out B0 p q R N T (ofN X) w := by
  unfold ofN
  by_cases h0 : X.2.2 = 0
  · rw [if_pos h0]; rw [h0] at h; simpa [Out] using h
  · rw [if_neg h0]; exact ⟨h0, _, _, _, h⟩
theorem out_ofT {B0 p q : Nat} {R : ByteArray} {N : List Int} {T : List ByteArray} {X : ByteArray × List UInt8 × Int} {w : World} (h : DS B0 p q R N (T ++ [X.1]) X.2.1 X.2.2 w) : Out B0 p q R N T (ofT X) w := by
  unfold ofT
  by_cases h0 : X.2.2 = 0
  · rw [if_pos h0]; rw [h0] at h; simpa [Out] using h
  · rw [if_neg h0]; exact ⟨h0, _, _, _, h⟩
theorem armOf_sz (m : Int) (i : Row) : ∀ A : Row, armOf m A = some i → i.sz ≤ A.sz
  | .arm k j r, h => by
    simp only [armOf] at h
    simp only [Sch.Row.sz]
    split at h
    · simp only [Option.some.injEq] at h; subst h; omega
    · have := armOf_sz m i r h; omega
  | .nil, h => by cases h
  | .one _ _, h => by cases h
  | .num _ _ _, h => by cases h
  | .opt _ _ _, h => by cases h
  | .ch _ _, h => by cases h
theorem boolR_bad (l : List UInt8) (he : (X.boolR l 0).2.2 ≠ 0) : (X.boolR l 0).1 = false := by
  unfold X.boolR X.numR X.failE at he ⊢
  by_cases h4 : l.length < 4
  · simp [h4]
  · simp only [if_neg h4] at he ⊢
    split
    · rfl
    · rename_i h5; rw [if_neg h5] at he; simp at he
theorem out_pre {B0 p q : Nat} {R : ByteArray} {N n : List Int} {T t : List ByteArray} {y : Tr} {w : World} (h : Out B0 p q R (N ++ n) (T ++ t) y w) : Out B0 p q R N T (pre n t y) w := by
  cases y with
  | error e => exact h
  | ok z => obtain ⟨a, b, c⟩ := z; simpa [Out, pre] using h
theorem Out.news {B0 p q : Nat} {R : ByteArray} {N : List Int} {T : List ByteArray} {y : Tr} {w w' : World} (h : Out B0 p q R N T y w) (hb : Below w.heap.size w w') : Out B0 p q R N T y w' := by
  cases y with
  | error e => obtain ⟨h0, N', T', l', h1⟩ := h; exact ⟨h0, N', T', l', h1.news hb⟩
  | ok z => obtain ⟨a, b, c⟩ := z; exact DS.news h hb
theorem out_end {B0 p q : Nat} {R : ByteArray} {N n1 NN : List Int} {T t1 TT : List ByteArray} {l : List UInt8} {w : World} (h : DS B0 p q R NN TT l 0 w) (hN : NN = N ++ n1) (hT : TT = T ++ t1) : Out B0 p q R N T (pre n1 t1 (tk none .nil l)) w := by
  subst hN
  subst hT
  refine out_pre ?_
  simpa [Out, tk] using h
set_option maxHeartbeats 400000 in
theorem flag_any (b : Bool) (w : World) : Calls Tryz.prog 28 #[.bool b] w fun r w' => r = .returned (.int .i64 (b2i b)) ∧ w = w' := by
  cases b
  · go_enter Tryz.func28, Tryz.ntmps28
    go_wp2
    go_ret
    exact ⟨rfl, rfl⟩
  · go_enter Tryz.func28, Tryz.ntmps28
    go_wp2
    go_ret
    exact ⟨rfl, rfl⟩

set_option maxRecDepth 100000 in
set_option maxHeartbeats 16000000 in
theorem take_of (F : List UInt8) (hF : F.length ≤ 1000) (M : Nat) (IH : 0 < M → DtC F (M - 1)) : DtC F M := by
  intro n a r t' ha hM hp B0 p q R N T l w hds hl hK
  obtain ⟨S, hS⟩ : ∃ S : ByteArray, S = ⟨F.toArray⟩ := ⟨_, rfl⟩
  have hsz : S.size = F.length := by rw [hS]; show F.toArray.size = _; simp
  have hat : ∀ j (hj : j < S.size) (hj2 : j < F.length), S[j] = F[j] := by
    intro j hj hj2; subst hS; rfl
  have hdig : ∀ (a : Nat) (w : World), a ≤ F.length → Calls Tryz.prog 30 #[.string S, .int .i64 a] w (DPost F (num6 (F.drop a)) w) := fun a w h => by rw [hS]; exact digits_any F a w hF h
  have hsk : ∀ (a : Nat) (w : World), a ≤ F.length → Calls Tryz.prog 26 #[.string S, .int .i64 a, .int .i64 0] w fun r w' => r = .returned (.int .i64 (pl F (Gn 0 (F.drop a)))) ∧ Below w.heap.size w w' := fun a w h1 => by rw [hS]; exact skip_all F hF F.length 0 (by omega) a w h1 (by omega)
  have hcz : ∀ (n : Nat) (s : List Int) (a : Nat) (m : Int) (A : Row) (t' : List UInt8) (w : World), a ≤ F.length → Pz n s (F.drop a) = some (A, t') → Calls Tryz.prog 33 #[.string S, .int .i64 a, .int .i64 m] w fun e w' => ∃ fd, e = .returned (.tuple #[.int .i64 fd, .int .i64 ((F.length - t'.length : Nat) : Int)]) ∧ Below w.heap.size w w' ∧ Arm F n a (armOf m A) fd := fun n s a m A t' w h1 h2 => by rw [hS]; exact choose_any F hF n s a m A t' w h1 h2
  have hih : ∀ (n a : Nat) (r : Row) (t' : List UInt8), a ≤ F.length → F.length - a < M → Pn n (F.drop a) = some (r, t') →
      ∀ (N : List Int) (T : List ByteArray) (l : List UInt8) (w : World), DS B0 p q R N T l 0 w → l.length ≤ 65536 → N.length + T.length + r.sz * (l.length / 4 + 1) ≤ 1000000000 →
      Calls Tryz.prog 17 #[.string S, .int .i64 a, .pointer (some ⟨q, 0, none⟩), .pointer (some ⟨p, 0, none⟩)] w fun e w' => e = .returned (.int .i64 ((F.length - t'.length : Nat) : Int)) ∧ Below B0 w w' ∧ Out B0 p q R N T (tk none r l) w' := fun n a r t' h1 h2 h3 N T l w h4 h5 h6 => by rw [hS]; exact IH (by omega) n a r t' h1 (by omega) h3 B0 p q R N T l w h4 h5 h6
  rw [← hS]
  have HA := Lib.hid hat
  have HDI := Lib.hid hdig
  have HSKC := Lib.hid hsk
  have HCZ := Lib.hid hcz
  have HIH := Lib.hid hih
  have HP := Lib.hid hp
  have HDS := Lib.hid hds
  obtain ⟨x, hx⟩ : ∃ x, x = tk none r l := ⟨_, rfl⟩
  rw [← hx]
  have HX := Lib.hid hx
  obtain ⟨en, hen⟩ : ∃ en : Nat, en = F.length - t'.length := ⟨_, rfl⟩
  rw [← hen]
  have HEN := Lib.hid hen
  have HKK := Lib.hid hK
  have hs1 : S.size ≤ 1000 := by omega
  have hs2 : a ≤ S.size := by omega
  have hs3 : F.length ≤ S.size := by omega
  have hs4 : S.size ≤ F.length := by omega
  clear hat hS hsz hdig hsk hcz hih hp hds hx hen hK IH
  obtain ⟨i3, hi3, hz30, hz31, hz32⟩ := info_parts info3
  obtain ⟨i9, hi9, hz90, hz91, hz92⟩ := info_parts info9
  go_enter Tryz.func17, Tryz.ntmps17
  go_wp2
  go_loopg [1] (S.size - a + 1) (fun k i wr => ∃ (b : Nat) (r2 : Row) (n1 : List Int) (t1 : List ByteArray) (l1 : List UInt8), b ≤ S.size ∧ a ≤ b ∧ i = .int .i64 b ∧ S.size - b < k ∧ Pn n (F.drop b) = some (r2, t') ∧ DS B0 p q R (N ++ n1) (T ++ t1) l1 0 wr ∧ Below B0 w wr ∧ x = pre n1 t1 (tk none r2 l1) ∧ l1.length ≤ l.length ∧ ((N ++ n1).length + (T ++ t1).length) + r2.sz * (l1.length / 4 + 1) ≤ 1000000000)
  case atStart => exact ⟨a, r, [], [], l, hs2, Nat.le_refl _, rfl, by omega, HP.out, by simpa using HDS.out, Below.refl _ _, by rw [pre_nil]; exact HX.out, Nat.le_refl _, by simpa using HKK.out⟩
  case round =>
    rename Nat => kk
    obtain ⟨b, r2, n1, t1, l1, hb, hab, rfl, hk, hpn, hds, hB, hx1, hl1, hK1⟩ := hrel
    have HB := Lib.hid hB
    have HPN := Lib.hid hpn
    have HX1 := Lib.hid hx1
    obtain ⟨NN, hNN⟩ : ∃ NN, NN = N ++ n1 := ⟨_, rfl⟩
    obtain ⟨TT, hTT⟩ : ∃ TT, TT = T ++ t1 := ⟨_, rfl⟩
    rw [← hNN, ← hTT] at hds hK1
    have HNN := Lib.hid hNN
    have HTT := Lib.hid hTT
    have HKK1 := Lib.hid hK1
    have HDS1 := Lib.hid hds
    have hNl : NN.length ≤ 1000000000 := by omega
    have hTl : TT.length ≤ 1000000000 := by omega
    obtain ⟨⟨vN, vT, hv⟩, hr, hq⟩ := hds
    obtain ⟨c0, c1, f0, f1⟩ := hv.cells
    have hpl := hv.lt
    have hpB := hv.hp
    have hnn : some p ≠ vN.ownBlock := fun e => by
      obtain ⟨_, cur, hc⟩ := ownsB_type hv.n e.symm
      exact absurd (blk_type hv.box hc) (by decide)
    have hnt : some p ≠ vT.ownBlock := fun e => by
      obtain ⟨_, cur, hc⟩ := ownsB_type hv.t e.symm
      exact absurd (blk_type hv.box hc) (by decide)
    have HV := Lib.hid hv
    have HR := Lib.hid hr
    clear hB hpn hx1 hNN hTT hv hr HX HDS HP HKK hK1
    by_cases hbs : b < S.size
    · have hbF : b < F.length := by omega
      obtain ⟨c, hcF⟩ : ∃ c, c = F[b] := ⟨_, rfl⟩
      have hat : S[b] = c := by rw [hcF]; exact HA.out b hbs hbF
      have hdr : F.drop b = c :: F.drop (b + 1) := by rw [hcF]; exact drop_at hbF
      have hpc := HPN.out
      rw [hdr] at hpc
      have HPC := Lib.hid hpc
      clear hcF hdr hpc HPN
      go_upto_block 2 with (fail)
      go_cut [1] (fun x1 wc => ∃ (b3 : Nat) (y : Tr) (s3 : Nat) (r3 : Row) (t3 : List UInt8), x1 = .int .i64 b3 ∧ b < b3 ∧ b3 ≤ S.size ∧ F.drop b3 = t3 ∧ Pn n t3 = some (r3, t') ∧ tk none r2 l1 = andT y (tk none r3) ∧ Few s3 l1 y ∧ r2.sz = s3 + r3.sz ∧ Out B0 p q R NN TT y wc ∧ Below B0 w wc)
      case first =>
        by_cases hc : isSign c = true
        · rcases isSign_cases hc with rfl | rfl | rfl | rfl | rfl | rfl | rfl | rfl
          · as_aux_lemma =>
              obtain ⟨r3, rfl, hp3⟩ := Pn_one rfl HPC.out
              clear HPC hc
              obtain ⟨XX, hXX⟩ : ∃ XX, XX = X.numR 4 l1 0 := ⟨_, rfl⟩
              have hstep : tk none (.one 117 r3) l1 = andT (ofN XX) (tk none r3) := by rw [hXX]; rfl
              have hfew : Few 1 l1 (ofN XX) := by rw [hXX]; exact few_one 117 l1
              have hsz3 : Row.sz (.one 117 r3) = 1 + r3.sz := rfl
              obtain ⟨t3, hd3⟩ : ∃ t3, F.drop (b + 1) = t3 := ⟨_, rfl⟩
              rw [hd3] at hp3
              have HXX := Lib.hid hXX
              clear hXX
              have HST := Lib.hid hstep
              have HP3 := Lib.hid hp3
              have HD3 := Lib.hid hd3
              have HFW := Lib.hid hfew
              have HSZ := Lib.hid hsz3
              clear hstep hp3 hd3 hfew hsz3
              go_wp2
              go_region_law (first
                | (refine step_append_lies _ (by rfl) _ _ _ (by rfl) B0 3 i3 _ 1 8 Tryz.underlying23 hi3 hz30 hz31 hz32 rfl (by omega) vN _ _ (by rfl) (hv3.n.alloc _) ⟨w3.heap.size, 0, none⟩ 1 1 [.int .i64 XX.1] (by rfl) (by rfl) (World.news_of_block (cs := #[.int .i64 XX.1]) (t := 3) (fr := (0, 0)) (heap_alloc_new w3 _)) (by simp [Value.oneCell']) (by omega) (by unfold maxLen; omega) (by omega) (by simp; omega) (w3.heap.size + 1) (by simp) ?_; intro g cap w6 hown1 hgrow hat1 hglt; have hfw : w6.frozen? ⟨p, 0, none⟩ = false := (hgrow.frozen_far _ (by simp; omega) hnn).trans ((World.frozen?_alloc_past _ _ _ kl3).trans kf3); have hcw : w6.cell? ⟨p, 0, none⟩ = some vN := (hgrow.cell_far _ (by simp; omega) hnn).trans ((World.cell?_alloc_past _ _ _ kl3).trans kc3))
                | (go_simp; go_at_call 27; refine (X.rnumber_any q R l1 0 4 _ (by exact rl_heap HR.out rfl) (by omega) (by omega)).mono ?_; rintro r0 w3 ⟨rfl, hR3, hO3d⟩; rw [← HXX.out] at hR3 ⊢; have hO3 : X.Only q wr w3 := Only.undrew hO3d; clear hO3d; have hv3 := HV.out.only HR.out hO3; have kc3 := hv3.cells.1; have kf3 := hv3.cells.2.2.1; have kl3 := hv3.lt))
              all_goals
                obtain ⟨hdo, hbl⟩ := DS.appN hv3 hR3 hq hgrow hown1
                generalize w6.setCell ⟨p, 0, none⟩ (.slice (some ⟨g, 0, none⟩) (NN.length + 1) cap) = w7 at *
                have HBY := Lib.hid (HB.out.trans ((hO3.below hq).trans hbl))
                go_wp2
                go_meet
                exact ⟨b + 1, ofN XX, _, r3, _, by go_num, by omega, by omega, HD3.out, HP3.out, HST.out, HFW.out, HSZ.out, out_ofN hdo, HBY.out⟩
          · as_aux_lemma =>
              obtain ⟨r3, rfl, hp3⟩ := Pn_one rfl HPC.out
              clear HPC hc
              obtain ⟨XX, hXX⟩ : ∃ XX, XX = X.numR 8 l1 0 := ⟨_, rfl⟩
              have hstep : tk none (.one 113 r3) l1 = andT (ofN XX) (tk none r3) := by rw [hXX]; rfl
              have hfew : Few 1 l1 (ofN XX) := by rw [hXX]; exact few_one 113 l1
              have hsz3 : Row.sz (.one 113 r3) = 1 + r3.sz := rfl
              obtain ⟨t3, hd3⟩ : ∃ t3, F.drop (b + 1) = t3 := ⟨_, rfl⟩
              rw [hd3] at hp3
              have HXX := Lib.hid hXX
              clear hXX
              have HST := Lib.hid hstep
              have HP3 := Lib.hid hp3
              have HD3 := Lib.hid hd3
              have HFW := Lib.hid hfew
              have HSZ := Lib.hid hsz3
              clear hstep hp3 hd3 hfew hsz3
              go_wp2
              go_region_law (first
                | (refine step_append_lies _ (by rfl) _ _ _ (by rfl) B0 3 i3 _ 1 8 Tryz.underlying23 hi3 hz30 hz31 hz32 rfl (by omega) vN _ _ (by rfl) (hv3.n.alloc _) ⟨w3.heap.size, 0, none⟩ 1 1 [.int .i64 XX.1] (by rfl) (by rfl) (World.news_of_block (cs := #[.int .i64 XX.1]) (t := 3) (fr := (0, 0)) (heap_alloc_new w3 _)) (by simp [Value.oneCell']) (by omega) (by unfold maxLen; omega) (by omega) (by simp; omega) (w3.heap.size + 1) (by simp) ?_; intro g cap w6 hown1 hgrow hat1 hglt; have hfw : w6.frozen? ⟨p, 0, none⟩ = false := (hgrow.frozen_far _ (by simp; omega) hnn).trans ((World.frozen?_alloc_past _ _ _ kl3).trans kf3); have hcw : w6.cell? ⟨p, 0, none⟩ = some vN := (hgrow.cell_far _ (by simp; omega) hnn).trans ((World.cell?_alloc_past _ _ _ kl3).trans kc3))
                | (go_simp; go_at_call 27; refine (X.rnumber_any q R l1 0 8 _ (by exact rl_heap HR.out rfl) (by omega) (by omega)).mono ?_; rintro r0 w3 ⟨rfl, hR3, hO3d⟩; rw [← HXX.out] at hR3 ⊢; have hO3 : X.Only q wr w3 := Only.undrew hO3d; clear hO3d; have hv3 := HV.out.only HR.out hO3; have kc3 := hv3.cells.1; have kf3 := hv3.cells.2.2.1; have kl3 := hv3.lt))
              all_goals
                obtain ⟨hdo, hbl⟩ := DS.appN hv3 hR3 hq hgrow hown1
                generalize w6.setCell ⟨p, 0, none⟩ (.slice (some ⟨g, 0, none⟩) (NN.length + 1) cap) = w7 at *
                have HBY := Lib.hid (HB.out.trans ((hO3.below hq).trans hbl))
                go_wp2
                go_meet
                exact ⟨b + 1, ofN XX, _, r3, _, by go_num, by omega, by omega, HD3.out, HP3.out, HST.out, HFW.out, HSZ.out, out_ofN hdo, HBY.out⟩
          · as_aux_lemma =>
              obtain ⟨r3, rfl, hp3⟩ := Pn_one rfl HPC.out
              clear HPC hc
              obtain ⟨BB, hBB⟩ : ∃ BB, BB = X.boolR l1 0 := ⟨_, rfl⟩
              obtain ⟨XX, hXX⟩ : ∃ XX : Int × List UInt8 × Int, XX = (b2i BB.1, BB.2) := ⟨_, rfl⟩
              have hstep : tk none (.one 98 r3) l1 = andT (ofN XX) (tk none r3) := by rw [hXX, hBB]; rfl
              have hfew : Few 1 l1 (ofN XX) := by rw [hXX, hBB]; exact few_one 98 l1
              have hsz3 : Row.sz (.one 98 r3) = 1 + r3.sz := rfl
              obtain ⟨t3, hd3⟩ : ∃ t3, F.drop (b + 1) = t3 := ⟨_, rfl⟩
              rw [hd3] at hp3
              have HBBQ := Lib.hid hBB
              have HXX := Lib.hid hXX
              clear hBB hXX
              have HST := Lib.hid hstep
              have HP3 := Lib.hid hp3
              have HD3 := Lib.hid hd3
              have HFW := Lib.hid hfew
              have HSZ := Lib.hid hsz3
              clear hstep hp3 hd3 hfew hsz3
              go_wp2
              go_region_law (first
                | (refine step_append_lies _ (by rfl) _ _ _ (by rfl) B0 3 i3 _ 1 8 Tryz.underlying23 hi3 hz30 hz31 hz32 rfl (by omega) vN _ _ (by rfl) (hv3.n.alloc _) ⟨w3.heap.size, 0, none⟩ 1 1 [.int .i64 (b2i BB.1)] (by rfl) (by rfl) (World.news_of_block (cs := #[.int .i64 (b2i BB.1)]) (t := 3) (fr := (0, 0)) (heap_alloc_new w3 _)) (by simp [Value.oneCell']) (by omega) (by unfold maxLen; omega) (by omega) (by simp; omega) (w3.heap.size + 1) (by simp) ?_; intro g cap w6 hown1 hgrow hat1 hglt; have hfw : w6.frozen? ⟨p, 0, none⟩ = false := (hgrow.frozen_far _ (by simp; omega) hnn).trans ((World.frozen?_alloc_past _ _ _ kl3).trans kf3); have hcw : w6.cell? ⟨p, 0, none⟩ = some vN := (hgrow.cell_far _ (by simp; omega) hnn).trans ((World.cell?_alloc_past _ _ _ kl3).trans kc3))
                | (go_simp; go_at_call 29; refine (X.refBool_any q R l1 0 _ (by exact rl_heap HR.out rfl)).mono ?_; rintro r0 w3 ⟨rfl, hR3, hO3d⟩; rw [← HBBQ.out] at hR3 ⊢; have hO3 : X.Only q wr w3 := Only.undrew hO3d; clear hO3d; have hv3 := HV.out.only HR.out hO3; have kc3 := hv3.cells.1; have kf3 := hv3.cells.2.2.1; have kl3 := hv3.lt)
                | (go_simp; go_at_call 28; refine (flag_any BB.1 _).mono ?_; rintro r0 w3' ⟨rfl, rfl⟩))
              all_goals
                obtain ⟨hdo, hbl⟩ := DS.appN hv3 hR3 hq hgrow hown1
                generalize w6.setCell ⟨p, 0, none⟩ (.slice (some ⟨g, 0, none⟩) (NN.length + 1) cap) = w7 at *
                have HBY := Lib.hid (HB.out.trans ((hO3.below hq).trans hbl))
                go_wp2
                go_meet
                exact ⟨b + 1, ofN XX, _, r3, _, by go_num, by omega, by omega, HD3.out, HP3.out, HST.out, HFW.out, HSZ.out, by rw [HXX.out]; exact out_ofN (X := (b2i BB.1, BB.2)) hdo, HBY.out⟩
          · as_aux_lemma =>
              obtain ⟨k, t2, r3, hnum, rfl, hp3⟩ := Pn_num rfl rfl HPC.out
              clear HPC hc
              obtain ⟨hd3, hb3a, hb3b⟩ := num6_drop hnum
              obtain ⟨b3, hb3⟩ : ∃ b3, b3 = F.length - t2.length := ⟨_, rfl⟩
              have hk5 : k ≤ 99999 := num5_leA ((num6_of hnum).1)
              obtain ⟨XX, hXX⟩ : ∃ XX, XX = X.opqR k l1 0 := ⟨_, rfl⟩
              have hstep : tk none (.num 111 k r3) l1 = andT (ofT XX) (tk none r3) := by rw [hXX]; rfl
              have hfew : Few 1 l1 (ofT XX) := by rw [hXX]; exact few_num 111 k l1
              have hsz3 : Row.sz (.num 111 k r3) = 1 + r3.sz := rfl
              have HXX := Lib.hid hXX
              have HNU := Lib.hid hnum
              clear hXX hnum
              go_wp2_with fail
              refine (HDI.out (b + 1) wr (by omega)).mono ?_
              rintro r0 w2 ⟨rfl, hr0⟩
              rw [HNU.out] at hr0
              simp only at hr0
              subst hr0
              rw [← hb3] at hd3 hb3a hb3b ⊢
              clear hb3 HNU
              have HST := Lib.hid hstep
              have HP3 := Lib.hid hp3
              have HD3 := Lib.hid hd3
              have HFW := Lib.hid hfew
              have HSZ := Lib.hid hsz3
              clear hstep hp3 hd3 hfew hsz3
              go_wp2
              go_region_law (first
                | (refine step_append_lies _ (by rfl) _ _ _ (by rfl) B0 9 i9 _ 1 16 Tryz.underlying24 hi9 hz90 hz91 hz92 rfl (by omega) vT _ _ (by rfl) (hv3.t.alloc _) ⟨w3.heap.size, 0, none⟩ 1 1 [.string XX.1] (by rfl) (by rfl) (World.news_of_block (cs := #[.string XX.1]) (t := 9) (fr := (0, 0)) (heap_alloc_new w3 _)) (by simp [Value.oneCell']) (by omega) (by unfold maxLen; omega) (by omega) (by simp; omega) (w3.heap.size + 1) (by simp) ?_; intro g cap w6 hown1 hgrow hat1 hglt; have hfw : w6.frozen? ⟨p, 1, none⟩ = false := (hgrow.frozen_far _ (by simp; omega) hnt).trans ((World.frozen?_alloc_past _ _ _ kl3).trans kf3); have hcw : w6.cell? ⟨p, 1, none⟩ = some vT := (hgrow.cell_far _ (by simp; omega) hnt).trans ((World.cell?_alloc_past _ _ _ kl3).trans kc3))
                | (go_simp; go_at_call 31; refine (X.refMost_any q R l1 0 k _ (by exact rl_heap HR.out rfl)).mono ?_; rintro r0 w3 ⟨rfl, hR3, hO3d⟩; rw [← HXX.out] at hR3 ⊢; have hO3 : X.Only q wr w3 := Only.undrew hO3d; clear hO3d; have hv3 := HV.out.only HR.out hO3; have kc3 := hv3.cells.2.1; have kf3 := hv3.cells.2.2.2; have kl3 := hv3.lt))
              all_goals
                obtain ⟨hdo, hbl⟩ := DS.appT hv3 hR3 hq hgrow hown1
                generalize w6.setCell ⟨p, 1, none⟩ (.slice (some ⟨g, 0, none⟩) (TT.length + 1) cap) = w7 at *
                have HBY := Lib.hid (HB.out.trans ((hO3.below hq).trans hbl))
                go_wp2
                go_meet
                exact ⟨b3, ofT XX, _, r3, _, by go_num, by omega, by omega, HD3.out, HP3.out, HST.out, HFW.out, HSZ.out, out_ofT hdo, HBY.out⟩
          · as_aux_lemma =>
              obtain ⟨k, t2, r3, hnum, rfl, hp3⟩ := Pn_num rfl rfl HPC.out
              clear HPC hc
              obtain ⟨hd3, hb3a, hb3b⟩ := num6_drop hnum
              obtain ⟨b3, hb3⟩ : ∃ b3, b3 = F.length - t2.length := ⟨_, rfl⟩
              have hk5 : k ≤ 99999 := num5_leA ((num6_of hnum).1)
              obtain ⟨XX, hXX⟩ : ∃ XX, XX = X.fixR k l1 0 := ⟨_, rfl⟩
              have hstep : tk none (.num 102 k r3) l1 = andT (ofT XX) (tk none r3) := by rw [hXX]; rfl
              have hfew : Few 1 l1 (ofT XX) := by rw [hXX]; exact few_num 102 k l1
              have hsz3 : Row.sz (.num 102 k r3) = 1 + r3.sz := rfl
              have HXX := Lib.hid hXX
              have HNU := Lib.hid hnum
              clear hXX hnum
              go_wp2_with fail
              refine (HDI.out (b + 1) wr (by omega)).mono ?_
              rintro r0 w2 ⟨rfl, hr0⟩
              rw [HNU.out] at hr0
              simp only at hr0
              subst hr0
              rw [← hb3] at hd3 hb3a hb3b ⊢
              clear hb3 HNU
              have HST := Lib.hid hstep
              have HP3 := Lib.hid hp3
              have HD3 := Lib.hid hd3
              have HFW := Lib.hid hfew
              have HSZ := Lib.hid hsz3
              clear hstep hp3 hd3 hfew hsz3
              go_wp2
              go_region_law (first
                | (refine step_append_lies _ (by rfl) _ _ _ (by rfl) B0 9 i9 _ 1 16 Tryz.underlying24 hi9 hz90 hz91 hz92 rfl (by omega) vT _ _ (by rfl) (hv3.t.alloc _) ⟨w3.heap.size, 0, none⟩ 1 1 [.string XX.1] (by rfl) (by rfl) (World.news_of_block (cs := #[.string XX.1]) (t := 9) (fr := (0, 0)) (heap_alloc_new w3 _)) (by simp [Value.oneCell']) (by omega) (by unfold maxLen; omega) (by omega) (by simp; omega) (w3.heap.size + 1) (by simp) ?_; intro g cap w6 hown1 hgrow hat1 hglt; have hfw : w6.frozen? ⟨p, 1, none⟩ = false := (hgrow.frozen_far _ (by simp; omega) hnt).trans ((World.frozen?_alloc_past _ _ _ kl3).trans kf3); have hcw : w6.cell? ⟨p, 1, none⟩ = some vT := (hgrow.cell_far _ (by simp; omega) hnt).trans ((World.cell?_alloc_past _ _ _ kl3).trans kc3))
                | (go_simp; go_at_call 32; refine (X.refText_any q R l1 0 k _ (by exact rl_heap HR.out rfl) (by omega)).mono ?_; rintro r0 w3 ⟨rfl, hR3, hO3d⟩; rw [← HXX.out] at hR3 ⊢; have hO3 : X.Only q wr w3 := Only.undrew hO3d; clear hO3d; have hv3 := HV.out.only HR.out hO3; have kc3 := hv3.cells.2.1; have kf3 := hv3.cells.2.2.2; have kl3 := hv3.lt))
              all_goals
                obtain ⟨hdo, hbl⟩ := DS.appT hv3 hR3 hq hgrow hown1
                generalize w6.setCell ⟨p, 1, none⟩ (.slice (some ⟨g, 0, none⟩) (TT.length + 1) cap) = w7 at *
                have HBY := Lib.hid (HB.out.trans ((hO3.below hq).trans hbl))
                go_wp2
                go_meet
                exact ⟨b3, ofT XX, _, r3, _, by go_num, by omega, by omega, HD3.out, HP3.out, HST.out, HFW.out, HSZ.out, out_ofT hdo, HBY.out⟩
          · as_aux_lemma =>
              obtain ⟨t2, i, t3, r3, ht1, hn16, hpi, rfl, hp3, hlt3⟩ := Pn_opt rfl rfl rfl HPC.out
              clear HPC hc
              have hb1F : b + 1 < F.length := by
                have h := congrArg List.length ht1
                rw [List.length_drop, List.length_cons] at h
                omega
              have hd2 : F.drop (b + 2) = t2 := by
                rw [drop_at hb1F] at ht1
                exact (List.cons.inj ht1).2
              have he1 := ends_drop ((Pn_ends hpi).trans (by rw [← hd2]; exact List.drop_suffix _ _) : (41 :: t3) <:+ F)
              have hl2 : t2.length = F.length - (b + 2) := by rw [← hd2, List.length_drop]
              have hle3 : t3.length + 1 ≤ t2.length := by omega
              obtain ⟨bq, hbq⟩ : ∃ bq, bq = F.length - (41 :: t3).length := ⟨_, rfl⟩
              rw [← hbq] at he1
              have hbq2 : bq + t3.length + 1 = F.length := by rw [hbq, List.length_cons]; omega
              have hbqF : bq < F.length := by omega
              have hd3 : F.drop (bq + 1) = t3 := by
                rw [drop_at hbqF] at he1
                exact (List.cons.inj he1).2
              have hski := Pn_skip hpi
              have HSKI := Lib.hid hski
              have HPI := Lib.hid hpi
              have HD2 := Lib.hid hd2
              have HBQ := Lib.hid hbq
              clear ht1 he1 hski hpi hd2 hbq
              obtain ⟨BB, hBB⟩ : ∃ BB, BB = X.boolR l1 0 := ⟨_, rfl⟩
              have hbad := boolR_bad l1
              have hlen4 := boolR_len l1
              rw [← hBB] at hbad hlen4
              obtain ⟨YY, hYY⟩ : ∃ YY, YY = maybeT (tk none i) l1 := ⟨_, rfl⟩
              have hstep : tk none (.opt 63 i r3) l1 = andT YY (tk none r3) := by rw [hYY]; rfl
              have hfew : Few (1 + i.sz) l1 YY := by rw [hYY]; exact few_opt 63 i l1
              have hsz3 : Row.sz (.opt 63 i r3) = (1 + i.sz) + r3.sz := rfl
              have hyy : YY = andT (ofN (b2i BB.1, BB.2)) fun l2 => if BB.1 then tk none i l2 else .ok ([], [], l2) := by rw [hYY, hBB]; rfl
              have HYY := Lib.hid hyy
              have HBBQ := Lib.hid hBB
              clear hBB hYY hyy
              have HST := Lib.hid hstep
              have HP3 := Lib.hid hp3
              have HD3 := Lib.hid hd3
              have HFW := Lib.hid hfew
              have HSZ := Lib.hid hsz3
              clear hstep hp3 hd3 hfew hsz3
              go_wp2_with fail
              refine (X.refBool_any q R l1 0 _ (by exact rl_heap HR.out rfl)).mono ?_
              rintro r0 w3 ⟨rfl, hR3, hO3⟩
              rw [← HBBQ.out] at hR3 ⊢
              have hv3 := HV.out.only HR.out hO3
              have kc3 := hv3.cells.1
              have kf3 := hv3.cells.2.2.1
              have kl3 := hv3.lt
              have HV3 := Lib.hid hv3
              have HR3 := Lib.hid hR3
              have HO3 := Lib.hid hO3
              clear hv3 hR3 hO3 HV HR c0 c1 f0 f1 HBBQ
              obtain ⟨b1, l2, e2⟩ := BB
              simp only at hbad hlen4
              by_cases he2 : e2 = 0
              · subst he2
                clear hbad
                cases b1 with
                | false =>
                  go_wp2_with fail
                  refine (flag_any false _).mono ?_
                  rintro r0 w3' ⟨rfl, rfl⟩
                  rw [show b2i false = 0 from rfl]
                  go_wp2_with (at_builtin; refine wpList_append_lies _ rfl (.tmp 122) (.tmp 124) 23 rfl B0 3 i3 _ 1 8 Tryz.underlying23 hi3 hz30 hz31 hz32 rfl (by omega) vN _ _ rfl (HV3.out.n.alloc _) ⟨w3.heap.size, 0, none⟩ 1 1 [.int .i64 0] (by rfl) (by rfl) (World.news_of_block (cs := #[.int .i64 0]) (t := 3) (fr := (0, 0)) (heap_alloc_new w3 _)) (by simp [Value.oneCell']) (by omega) (by unfold maxLen; omega) (by omega) (by simp; omega) (w3.heap.size + 1) (by simp) ?_; intro g cap w6 hown1 hgrow hat1 hglt; have hfw : w6.frozen? ⟨p, 0, none⟩ = false := (hgrow.frozen_far _ (by simp; omega) hnn).trans ((World.frozen?_alloc_past _ _ _ kl3).trans kf3); have hcw : w6.cell? ⟨p, 0, none⟩ = some vN := (hgrow.cell_far _ (by simp; omega) hnn).trans ((World.cell?_alloc_past _ _ _ kl3).trans kc3))
                  obtain ⟨hdo, hbl⟩ := DS.appN HV3.out HR3.out hq hgrow hown1
                  generalize w6.setCell ⟨p, 0, none⟩ (.slice (some ⟨g, 0, none⟩) (NN.length + 1) cap) = w7 at *
                  have HBY7 := Lib.hid (HB.out.trans ((HO3.out.below hq).trans hbl))
                  have HDO7 := Lib.hid hdo
                  have hw7 : B0 ≤ w7.heap.size := by have := rl_lt hdo.2.1; omega
                  clear hown1 hgrow hat1 hglt hfw hcw hbl HV3 HR3 HO3 kc3 kf3 kl3 hdo hnn hnt HDS1
                  have hout7 : Out B0 p q R NN TT YY w7 := by
                    rw [HYY.out]
                    have := HDO7.out
                    simpa [Out, andT, ofN, pre, b2i] using this
                  clear HYY HDO7 HPI
                  go_wp2_with fail
                  refine (HSKC.out (b + 2) w7 (by omega)).mono ?_
                  rintro r0 w9 ⟨rfl, hB9⟩
                  rw [HD2.out, HSKI.out]
                  simp only [pl]
                  rw [← HBQ.out]
                  have HOUT := Lib.hid (hout7.news hB9)
                  have HBY := Lib.hid (HBY7.out.trans (hB9.mono hw7))
                  clear hB9 hout7 hw7
                  go_wp2
                  go_meet
                  exact ⟨bq + 1, YY, _, r3, t3, by go_num, by omega, by omega, HD3.out, HP3.out, HST.out, HFW.out, HSZ.out, HOUT.out, HBY.out⟩
                | true =>
                  go_wp2_with fail
                  refine (flag_any true _).mono ?_
                  rintro r0 w3' ⟨rfl, rfl⟩
                  rw [show b2i true = 1 from rfl]
                  go_wp2_with (at_builtin; refine wpList_append_lies _ rfl (.tmp 122) (.tmp 124) 23 rfl B0 3 i3 _ 1 8 Tryz.underlying23 hi3 hz30 hz31 hz32 rfl (by omega) vN _ _ rfl (HV3.out.n.alloc _) ⟨w3.heap.size, 0, none⟩ 1 1 [.int .i64 1] (by rfl) (by rfl) (World.news_of_block (cs := #[.int .i64 1]) (t := 3) (fr := (0, 0)) (heap_alloc_new w3 _)) (by simp [Value.oneCell']) (by omega) (by unfold maxLen; omega) (by omega) (by simp; omega) (w3.heap.size + 1) (by simp) ?_; intro g cap w6 hown1 hgrow hat1 hglt; have hfw : w6.frozen? ⟨p, 0, none⟩ = false := (hgrow.frozen_far _ (by simp; omega) hnn).trans ((World.frozen?_alloc_past _ _ _ kl3).trans kf3); have hcw : w6.cell? ⟨p, 0, none⟩ = some vN := (hgrow.cell_far _ (by simp; omega) hnn).trans ((World.cell?_alloc_past _ _ _ kl3).trans kc3))
                  obtain ⟨hdo, hbl⟩ := DS.appN HV3.out HR3.out hq hgrow hown1
                  generalize w6.setCell ⟨p, 0, none⟩ (.slice (some ⟨g, 0, none⟩) (NN.length + 1) cap) = w7 at *
                  have HBY7 := Lib.hid (HB.out.trans ((HO3.out.below hq).trans hbl))
                  have HDO7 := Lib.hid hdo
                  have hw7 : B0 ≤ w7.heap.size := by have := rl_lt hdo.2.1; omega
                  clear hown1 hgrow hat1 hglt hfw hcw hbl HV3 HR3 HO3 kc3 kf3 kl3 hdo hnn hnt HDS1
                  have hd7 : DS B0 p q R (NN ++ [1]) TT l2 0 w7 := HDO7.out
                  have HD7 := Lib.hid hd7
                  clear hd7 HDO7
                  have hroom : (NN ++ [1]).length + TT.length + i.sz * (l2.length / 4 + 1) ≤ 1000000000 := by
                    have h1 := HKK1.out
                    rw [HSZ.out, Nat.add_mul, Nat.add_mul] at h1
                    have h2 : i.sz * (l2.length / 4 + 1) ≤ i.sz * (l1.length / 4 + 1) := Nat.mul_le_mul_left _ (by omega)
                    simp only [List.length_append, List.length_singleton]
                    omega
                  have HROOM := Lib.hid hroom
                  clear hroom
                  go_wp2_with fail
                  refine (HIH.out (n + 1) (b + 2) i (41 :: t3) (by omega) (by omega) (by rw [HD2.out]; exact HPI.out) (NN ++ [1]) TT l2 w7 HD7.out (by omega) HROOM.out).mono ?_
                  rintro r0 w8 ⟨rfl, hB8, hO8⟩
                  have hout7 : Out B0 p q R NN TT YY w8 := by
                    rw [HYY.out]
                    have h : Out B0 p q R NN TT (pre [1] [] (tk none i l2)) w8 := out_pre (by simpa using hO8)
                    simpa [andT, ofN, b2i] using h
                  have hw8 : B0 ≤ w8.heap.size := by have := hB8.size; omega
                  have HBY8 := Lib.hid (HBY7.out.trans hB8)
                  clear HYY HD7 HPI hO8 hB8 HROOM HBY7
                  go_wp2_with fail
                  refine (HSKC.out (b + 2) w8 (by omega)).mono ?_
                  rintro r0 w9 ⟨rfl, hB9⟩
                  rw [HD2.out, HSKI.out]
                  simp only [pl]
                  rw [← HBQ.out]
                  have HOUT := Lib.hid (hout7.news hB9)
                  have HBY := Lib.hid (HBY8.out.trans (hB9.mono hw8))
                  clear hB9 hout7 hw8
                  go_wp2
                  go_meet
                  exact ⟨bq + 1, YY, _, r3, t3, by go_num, by omega, by omega, HD3.out, HP3.out, HST.out, HFW.out, HSZ.out, HOUT.out, HBY.out⟩
              · have hb1 : b1 = false := hbad he2
                subst hb1
                go_wp2_with fail
                refine (flag_any false _).mono ?_
                rintro r0 w3' ⟨rfl, rfl⟩
                rw [show b2i false = 0 from rfl]
                go_wp2_with (at_builtin; refine wpList_append_lies _ rfl (.tmp 122) (.tmp 124) 23 rfl B0 3 i3 _ 1 8 Tryz.underlying23 hi3 hz30 hz31 hz32 rfl (by omega) vN _ _ rfl (HV3.out.n.alloc _) ⟨w3.heap.size, 0, none⟩ 1 1 [.int .i64 0] (by rfl) (by rfl) (World.news_of_block (cs := #[.int .i64 0]) (t := 3) (fr := (0, 0)) (heap_alloc_new w3 _)) (by simp [Value.oneCell']) (by omega) (by unfold maxLen; omega) (by omega) (by simp; omega) (w3.heap.size + 1) (by simp) ?_; intro g cap w6 hown1 hgrow hat1 hglt; have hfw : w6.frozen? ⟨p, 0, none⟩ = false := (hgrow.frozen_far _ (by simp; omega) hnn).trans ((World.frozen?_alloc_past _ _ _ kl3).trans kf3); have hcw : w6.cell? ⟨p, 0, none⟩ = some vN := (hgrow.cell_far _ (by simp; omega) hnn).trans ((World.cell?_alloc_past _ _ _ kl3).trans kc3))
                obtain ⟨hdo, hbl⟩ := DS.appN HV3.out HR3.out hq hgrow hown1
                generalize w6.setCell ⟨p, 0, none⟩ (.slice (some ⟨g, 0, none⟩) (NN.length + 1) cap) = w7 at *
                have HBY7 := Lib.hid (HB.out.trans ((HO3.out.below hq).trans hbl))
                have HDO7 := Lib.hid hdo
                have hw7 : B0 ≤ w7.heap.size := by have := rl_lt hdo.2.1; omega
                clear hown1 hgrow hat1 hglt hfw hcw hbl HV3 HR3 HO3 kc3 kf3 kl3 hdo hnn hnt HDS1
                have hout7 : Out B0 p q R NN TT YY w7 := by
                  rw [HYY.out]
                  have h : andT (ofN (b2i false, l2, e2)) (fun l2 => if false = true then tk none i l2 else .ok ([], [], l2)) = .error e2 := by unfold ofN; rw [if_neg (by exact he2)]; rfl
                  rw [h]
                  exact ⟨he2, _, _, _, HDO7.out⟩
                clear HYY HDO7 HPI
                go_wp2_with fail
                refine (HSKC.out (b + 2) w7 (by omega)).mono ?_
                rintro r0 w9 ⟨rfl, hB9⟩
                rw [HD2.out, HSKI.out]
                simp only [pl]
                rw [← HBQ.out]
                have HOUT := Lib.hid (hout7.news hB9)
                have HBY := Lib.hid (HBY7.out.trans (hB9.mono hw7))
                clear hB9 hout7 hw7
                go_wp2
                go_meet
                exact ⟨bq + 1, YY, _, r3, t3, by go_num, by omega, by omega, HD3.out, HP3.out, HST.out, HFW.out, HSZ.out, HOUT.out, HBY.out⟩
          · as_aux_lemma =>
              obtain ⟨t2, i, t3, r3, ht1, hn16, hpi, rfl, hp3, hlt3⟩ := Pn_opt rfl rfl rfl HPC.out
              clear HPC hc
              have hb1F : b + 1 < F.length := by
                have h := congrArg List.length ht1
                rw [List.length_drop, List.length_cons] at h
                omega
              have hd2 : F.drop (b + 2) = t2 := by
                rw [drop_at hb1F] at ht1
                exact (List.cons.inj ht1).2
              have he1 := ends_drop ((Pn_ends hpi).trans (by rw [← hd2]; exact List.drop_suffix _ _) : (41 :: t3) <:+ F)
              have hl2 : t2.length = F.length - (b + 2) := by rw [← hd2, List.length_drop]
              have hle3 : t3.length + 1 ≤ t2.length := by omega
              obtain ⟨bq, hbq⟩ : ∃ bq, bq = F.length - (41 :: t3).length := ⟨_, rfl⟩
              rw [← hbq] at he1
              have hbq2 : bq + t3.length + 1 = F.length := by rw [hbq, List.length_cons]; omega
              have hbqF : bq < F.length := by omega
              have hd3 : F.drop (bq + 1) = t3 := by
                rw [drop_at hbqF] at he1
                exact (List.cons.inj he1).2
              have hski := Pn_skip hpi
              have HSKI := Lib.hid hski
              have HPI := Lib.hid hpi
              have HD2 := Lib.hid hd2
              have HBQ := Lib.hid hbq
              clear ht1 he1 hski hpi hd2 hbq
              obtain ⟨YY, hYY⟩ : ∃ YY, YY = timesT (tk none i) l1 := ⟨_, rfl⟩
              have hstep : tk none (.opt 42 i r3) l1 = andT YY (tk none r3) := by rw [hYY]; rfl
              have hfew : Few (1 + i.sz) l1 YY := by rw [hYY]; exact few_opt 42 i l1
              have hsz3 : Row.sz (.opt 42 i r3) = (1 + i.sz) + r3.sz := rfl
              have hyy : YY = shutT (preT 0 [] [] (times (tk none i) (l1.length + 1) l1)) := by
                rw [hYY, timesT_shut]
                cases times (tk none i) (l1.length + 1) l1 with
                | error e => rfl
                | ok y => obtain ⟨a, b, c, d⟩ := y; simp [preT]
              have hroom : NN.length + 1 + 0 + (TT.length + 0) + i.sz * (l1.length / 4 + 1) ≤ 1000000000 := by
                have h1 := HKK1.out
                rw [hsz3, Nat.add_mul, Nat.add_mul] at h1
                omega
              have HROOM := Lib.hid hroom
              have HYY := Lib.hid hyy
              clear hYY hyy hroom
              have HST := Lib.hid hstep
              have HP3 := Lib.hid hp3
              have HD3 := Lib.hid hd3
              have HFW := Lib.hid hfew
              have HSZ := Lib.hid hsz3
              clear hstep hp3 hd3 hfew hsz3
              have hvN : ∃ ao ac, vN = .slice ao NN.length ac := by
                rcases HV.out.n.2 with ⟨e, e2⟩ | ⟨g, cap, cur, e, _⟩
                · exact ⟨none, 0, by rw [e, e2]⟩
                · exact ⟨_, _, e⟩
              obtain ⟨ao, ac, rfl⟩ := hvN
              have kc3 := c0
              have kf3 := f0
              have kl3 := hpl
              go_wp2_with (at_builtin; refine wpList_append_lies _ rfl (.tmp 152) (.tmp 153) 23 rfl B0 3 i3 _ 1 8 Tryz.underlying23 hi3 hz30 hz31 hz32 rfl (by omega) (.slice ao NN.length ac) _ _ rfl (HV.out.n.alloc _) ⟨wr.heap.size, 0, none⟩ 1 1 [.int .i64 0] (by rfl) (by rfl) (World.news_of_block (cs := #[.int .i64 0]) (t := 3) (fr := (0, 0)) (heap_alloc_new wr _)) (by simp [Value.oneCell']) (by omega) (by unfold maxLen; omega) (by omega) (by simp; omega) (wr.heap.size + 1) (by simp) ?_; intro g cap w6 hown1 hgrow hat1 hglt; have hfw : w6.frozen? ⟨p, 0, none⟩ = false := (hgrow.frozen_far _ (by simp; omega) hnn).trans ((World.frozen?_alloc_past _ _ _ kl3).trans kf3); have hcw : w6.cell? ⟨p, 0, none⟩ = some (.slice ao NN.length ac) := (hgrow.cell_far _ (by simp; omega) hnn).trans ((World.cell?_alloc_past _ _ _ kl3).trans kc3))
              obtain ⟨hdo, hbl⟩ := DS.appN HV.out HR.out hq hgrow hown1
              generalize w6.setCell ⟨p, 0, none⟩ (.slice (some ⟨g, 0, none⟩) (NN.length + 1) cap) = w7 at *
              have HBY7 := Lib.hid (HB.out.trans hbl)
              have HDO7 := Lib.hid hdo
              clear hown1 hgrow hat1 hglt hfw hcw hbl kc3 kf3 kl3 hdo hnn hnt HDS1 HV HR c0 c1 f0 f1
              go_loopg [] (l1.length + 1) (fun k wz => Below B0 w wz ∧ ((∃ (j : Nat) (nn : List Int) (tt : List ByteArray) (l2 : List UInt8), l2.length < k ∧ k ≤ l1.length + 1 ∧ j + k ≤ l1.length + 1 ∧ DS B0 p q R (NN ++ (j : Int) :: nn) (TT ++ tt) l2 0 wz ∧ YY = shutT (preT j nn tt (times (tk none i) k l2)) ∧ NN.length + 1 + nn.length + (TT.length + tt.length) + i.sz * (l2.length / 4 + 1) ≤ 1000000000) ∨ (∃ (e : Int) (N' : List Int) (T' : List ByteArray) (l' : List UInt8), e ≠ 0 ∧ DS B0 p q R N' T' l' e wz ∧ YY = .error e)))
              case atStart =>
                refine ⟨HBY7.out, .inl ⟨0, [], [], l1, by omega, by omega, by omega, by simpa using HDO7.out, HYY.out, HROOM.out⟩⟩
              case round =>
                rename World => wz
                rename Nat => kz
                obtain ⟨hbz, hz⟩ := hrel
                have HBZ := Lib.hid hbz
                clear HYY HROOM HBY7 HDO7 hbz
                rcases hz with ⟨j, nn, tt, l2, hk1, hk2, hjk, hdz, hyz, hrz⟩ | ⟨e, N', T', l', he, hdz, hyz⟩
                · have ce := rl_err hdz.2.1
                  have hll : l2.length ≤ l1.length := by omega
                  have HDZ := Lib.hid hdz
                  have HRZ := Lib.hid hrz
                  obtain ⟨kz', rfl⟩ : ∃ kz', kz = kz' + 1 := ⟨kz - 1, by omega⟩
                  unfold times at hyz
                  obtain ⟨BB, hBB⟩ : ∃ BB, BB = X.boolR l2 0 := ⟨_, rfl⟩
                  have hbad := boolR_bad l2
                  have hlen4 := boolR_len l2
                  have hfour := @boolR_four l2
                  rw [← hBB] at hbad hlen4 hfour hyz
                  have HYZ := Lib.hid hyz
                  have HBBQ := Lib.hid hBB
                  clear hdz hyz hrz hBB
                  go_wp2_with fail
                  refine (X.refBool_any q R l2 0 _ (by exact rl_heap HDZ.out.2.1 rfl)).mono ?_
                  rintro r0 w3 ⟨rfl, hR3, hO3⟩
                  rw [← HBBQ.out] at hR3 ⊢
                  have HD3' := Lib.hid (HDZ.out.only hR3 hO3)
                  have HB3 := Lib.hid (HBZ.out.trans (hO3.below hq))
                  clear hR3 hO3 HBBQ HBZ HDZ ce
                  obtain ⟨b1, l3, e2⟩ := BB
                  simp only at hbad hlen4 hfour
                  by_cases he2 : e2 = 0
                  · subst he2
                    clear hbad
                    have h4 := hfour rfl
                    clear hfour
                    cases b1 with
                    | false =>
                      have hy1 : YY = .ok ((j : Int) :: nn, tt, l3) := by
                        rw [HYZ.out]
                        simp [preT, shutT]
                      have hd1 : DS B0 p q R (NN ++ (j : Int) :: nn) (TT ++ tt) l3 0 w3 := HD3'.out
                      have hout7 : Out B0 p q R NN TT YY w3 := by rw [hy1]; exact hd1
                      have hw3 : B0 ≤ w3.heap.size := by have := rl_lt hd1.2.1; omega
                      clear HYZ HD3' HPI hy1 hd1
                      go_wp2_with fail
                      refine (HSKC.out (b + 2) w3 (by omega)).mono ?_
                      rintro r0 w9 ⟨rfl, hB9⟩
                      rw [HD2.out, HSKI.out]
                      simp only [pl]
                      rw [← HBQ.out]
                      have HOUT := Lib.hid (hout7.news hB9)
                      have HBY := Lib.hid (HB3.out.trans (hB9.mono hw3))
                      clear hB9 hout7 hw3
                      go_wp2
                      go_meet
                      exact ⟨bq + 1, YY, _, r3, t3, by go_num, by omega, by omega, HD3.out, HP3.out, HST.out, HFW.out, HSZ.out, HOUT.out, HBY.out⟩
                    | true =>
                      have hd1 : DS B0 p q R (NN ++ (j : Int) :: nn) (TT ++ tt) l3 0 w3 := HD3'.out
                      obtain ⟨g, cap, b1, b2, b3, b4, b5⟩ := hd1.bump
                      have HB5 := Lib.hid b5
                      have hlen : (NN ++ (j : Int) :: nn).length = NN.length + nn.length + 1 := by simp; omega
                      rw [hlen] at b1 b2
                      have hij : IntKind.i64.wrap ((j : Int) + 1) = (j : Int) + 1 := IntWalk.i64_in _ (by omega)
                      have hi1 : NN.length < NN.length + nn.length + 1 := by omega
                      have hq3 := rl_lt hd1.2.1
                      clear b5 hd1 HD3' hlen
                      go_wp2_with fail
                      obtain ⟨hd4, hb4⟩ := HB5.out ((j : Int) + 1)
                      generalize w3.setCell ⟨g, NN.length, none⟩ (.int .i64 ((j : Int) + 1)) = w4 at *
                      have HD4 := Lib.hid hd4
                      have HB4 := Lib.hid (HB3.out.trans hb4)
                      have hroom4 : (NN ++ ((j : Int) + 1) :: nn).length + (TT ++ tt).length + i.sz * (l3.length / 4 + 1) ≤ 1000000000 := by
                        have h1 := HRZ.out
                        have h2 : i.sz * (l3.length / 4 + 1) ≤ i.sz * (l2.length / 4 + 1) := Nat.mul_le_mul_left _ (by omega)
                        simp only [List.length_append, List.length_cons]
                        omega
                      have HROOM4 := Lib.hid hroom4
                      clear hd4 hb4 HB5 hroom4
                      refine (HIH.out (n + 1) (b + 2) i (41 :: t3) (by omega) (by omega) (by rw [HD2.out]; exact HPI.out) (NN ++ ((j : Int) + 1) :: nn) (TT ++ tt) l3 w4 HD4.out (by omega) HROOM4.out).mono ?_
                      have hfew := few_tk i none l3
                      have hyz := HYZ.out
                      rw [if_neg (by simp), if_pos trivial] at hyz
                      generalize tk none i l3 = z at *
                      rintro r0 w5 ⟨rfl, hB5, hO5⟩
                      have HB5 := Lib.hid (HB4.out.trans hB5)
                      clear hB5 HYZ HD4 HB4 HB3 b1 b2 b3 b4
                      cases z with
                      | error e =>
                        have hy1 : YY = .error e := hyz
                        obtain ⟨he, N', T', l', hd5⟩ := hO5
                        have HD5 := Lib.hid hd5
                        have HY1 := Lib.hid hy1
                        clear hd5 hyz hy1 hfew
                        go_wp2
                        go_roundg kz'
                        case measure => omega
                        case rel => exact ⟨HB5.out, .inr ⟨e, N', T', l', he, HD5.out, HY1.out⟩⟩
                      | ok z =>
                        obtain ⟨n3, t4, l4⟩ := z
                        have hd5 : DS B0 p q R ((NN ++ ((j : Int) + 1) :: nn) ++ n3) ((TT ++ tt) ++ t4) l4 0 w5 := hO5
                        obtain ⟨q1, q2⟩ := hfew n3 t4 l4 rfl
                        have HD5 := Lib.hid hd5
                        have HYZ := Lib.hid hyz
                        have c2 : i.sz * ((l3.length - l4.length) / 4 + 1) + i.sz * (l4.length / 4 + 1) ≤ i.sz * (l2.length / 4 + 1) := by
                          rw [← Nat.mul_add]
                          exact Nat.mul_le_mul_left _ (by omega)
                        clear hd5 hyz hfew hO5
                        go_wp2
                        go_roundg kz'
                        case measure => omega
                        case rel =>
                          refine ⟨HB5.out, .inl ⟨j + 1, nn ++ n3, tt ++ t4, l4, by omega, by omega, by omega, ?_, ?_, by have := HRZ.out; simp only [List.length_append]; omega⟩⟩
                          · have := HD5.out
                            simpa [List.append_assoc] using this
                          · rw [HYZ.out]
                            exact congrArg shutT (preT_step j nn n3 tt t4 _)
                  · have hb1 : b1 = false := hbad he2
                    subst hb1
                    have hy1 : YY = .error e2 := by
                      rw [HYZ.out, if_pos he2]
                      rfl
                    have hd1 : DS B0 p q R (NN ++ (j : Int) :: nn) (TT ++ tt) l3 e2 w3 := HD3'.out
                    have hout7 : Out B0 p q R NN TT YY w3 := by rw [hy1]; exact ⟨he2, _, _, _, hd1⟩
                    have hw3 : B0 ≤ w3.heap.size := by have := rl_lt hd1.2.1; omega
                    clear HYZ HD3' HPI hy1 hd1 hbad hfour
                    go_wp2_with fail
                    refine (HSKC.out (b + 2) w3 (by omega)).mono ?_
                    rintro r0 w9 ⟨rfl, hB9⟩
                    rw [HD2.out, HSKI.out]
                    simp only [pl]
                    rw [← HBQ.out]
                    have HOUT := Lib.hid (hout7.news hB9)
                    have HBY := Lib.hid (HB3.out.trans (hB9.mono hw3))
                    clear hB9 hout7 hw3
                    go_wp2
                    go_meet
                    exact ⟨bq + 1, YY, _, r3, t3, by go_num, by omega, by omega, HD3.out, HP3.out, HST.out, HFW.out, HSZ.out, HOUT.out, HBY.out⟩
                · have ce := rl_err hdz.2.1
                  have he' : (e == 0) = false := by rw [beq_eq_false_iff_ne]; exact he
                  have hout7 : Out B0 p q R NN TT YY wz := by rw [hyz]; exact ⟨he, _, _, _, hdz⟩
                  have hwz : B0 ≤ wz.heap.size := by have := rl_lt hdz.2.1; omega
                  clear hdz hyz HPI
                  go_wp2_with fail
                  refine (HSKC.out (b + 2) wz (by omega)).mono ?_
                  rintro r0 w9 ⟨rfl, hB9⟩
                  rw [HD2.out, HSKI.out]
                  simp only [pl]
                  rw [← HBQ.out]
                  have HOUT := Lib.hid (hout7.news hB9)
                  have HBY := Lib.hid (HBZ.out.trans (hB9.mono hwz))
                  clear hB9 hout7 hwz
                  go_wp2
                  go_meet
                  exact ⟨bq + 1, YY, _, r3, t3, by go_num, by omega, by omega, HD3.out, HP3.out, HST.out, HFW.out, HSZ.out, HOUT.out, HBY.out⟩
          · as_aux_lemma =>
              obtain ⟨A, t2, r3, hn16, hpa, rfl, hp3⟩ := Pn_ch HPC.out
              clear HPC hc
              have hpe := (Pz_ends hpa).length_le
              rw [List.length_drop] at hpe
              have hd3' : F.drop (F.length - t2.length) = t2 := ends_drop ((Pz_ends hpa).trans (List.drop_suffix _ _))
              obtain ⟨b3, hb3⟩ : ∃ b3, b3 = F.length - t2.length := ⟨_, rfl⟩
              have hd3 : F.drop b3 = t2 := by rw [hb3]; exact hd3'
              have hb3a : b < b3 := by omega
              have hb3b : b3 ≤ S.size := by omega
              obtain ⟨XX, hXX⟩ : ∃ XX, XX = X.numR 4 l1 0 := ⟨_, rfl⟩
              have hlen4 := numR_len 4 l1 0
              rw [← hXX] at hlen4
              obtain ⟨YY, hYY⟩ : ∃ YY, YY = armT (fun n l1 => tk (some n) A l1) l1 := ⟨_, rfl⟩
              have hstep : tk none (.ch A r3) l1 = andT YY (tk none r3) := by rw [hYY]; rfl
              have hfew : Few (1 + A.sz) l1 YY := by rw [hYY]; exact few_ch A l1
              have hsz3 : Row.sz (.ch A r3) = (1 + A.sz) + r3.sz := rfl
              have hyy : YY = andT (ofN XX) fun l2 => tk (some XX.1) A l2 := by rw [hYY, hXX]; rfl
              have HYY := Lib.hid hyy
              have HXX := Lib.hid hXX
              have HPA := Lib.hid hpa
              have HB3Q := Lib.hid hb3
              clear hXX hYY hyy hpa hd3' hb3
              have HST := Lib.hid hstep
              have HP3 := Lib.hid hp3
              have HD3 := Lib.hid hd3
              have HFW := Lib.hid hfew
              have HSZ := Lib.hid hsz3
              clear hstep hp3 hd3 hfew hsz3
              go_wp2_with fail
              refine (X.rnumber_any q R l1 0 4 _ (by exact rl_heap HR.out rfl) (by omega) (by omega)).mono ?_
              rintro r0 w3 ⟨rfl, hR3, hO3⟩
              rw [← HXX.out] at hR3 ⊢
              have hv3 := HV.out.only HR.out hO3
              have kc3 := hv3.cells.1
              have kf3 := hv3.cells.2.2.1
              have kl3 := hv3.lt
              have HV3 := Lib.hid hv3
              have HR3 := Lib.hid hR3
              have HO3 := Lib.hid hO3
              clear hv3 hR3 hO3 HV HR c0 c1 f0 f1 HXX
              obtain ⟨m, l2, e2⟩ := XX
              simp only at hlen4
              go_wp2_with (at_builtin; refine wpList_append_lies _ rfl (.tmp 194) (.tmp 196) 23 rfl B0 3 i3 _ 1 8 Tryz.underlying23 hi3 hz30 hz31 hz32 rfl (by omega) vN _ _ rfl (HV3.out.n.alloc _) ⟨w3.heap.size, 0, none⟩ 1 1 [.int .i64 m] (by rfl) (by rfl) (World.news_of_block (cs := #[.int .i64 m]) (t := 3) (fr := (0, 0)) (heap_alloc_new w3 _)) (by simp [Value.oneCell']) (by omega) (by unfold maxLen; omega) (by omega) (by simp; omega) (w3.heap.size + 1) (by simp) ?_; intro g cap w6 hown1 hgrow hat1 hglt; have hfw : w6.frozen? ⟨p, 0, none⟩ = false := (hgrow.frozen_far _ (by simp; omega) hnn).trans ((World.frozen?_alloc_past _ _ _ kl3).trans kf3); have hcw : w6.cell? ⟨p, 0, none⟩ = some vN := (hgrow.cell_far _ (by simp; omega) hnn).trans ((World.cell?_alloc_past _ _ _ kl3).trans kc3))
              obtain ⟨hdo, hbl⟩ := DS.appN HV3.out HR3.out hq hgrow hown1
              generalize w6.setCell ⟨p, 0, none⟩ (.slice (some ⟨g, 0, none⟩) (NN.length + 1) cap) = w7 at *
              have HBY7 := Lib.hid (HB.out.trans ((HO3.out.below hq).trans hbl))
              have HDO7 := Lib.hid hdo
              have hw7 : B0 ≤ w7.heap.size := by have := rl_lt hdo.2.1; omega
              clear hown1 hgrow hat1 hglt hfw hcw hbl HV3 HR3 HO3 kc3 kf3 kl3 hdo hnn hnt HDS1
              refine (HCZ.out (n + 1) [] (b + 1) m A t2 w7 (by omega) HPA.out).mono ?_
              rintro r0 w8 ⟨fd, rfl, hB8, harm⟩
              rw [← HB3Q.out]
              have HDO8 := Lib.hid (HDO7.out.news hB8)
              have HBY8 := Lib.hid (HBY7.out.trans (hB8.mono hw7))
              have hw8 : B0 ≤ w8.heap.size := by have := hB8.size; omega
              have htk : YY = andT (ofN (m, l2, e2)) fun l2 => match armOf m A with | some i => tk none i l2 | none => .error 4 := by
                rw [HYY.out]
                congr 1
                funext l2
                exact tk_arm m l2 A
              have HTKK := Lib.hid htk
              have hsza : ∀ i, armOf m A = some i → i.sz ≤ A.sz := fun i h => armOf_sz m i A h
              clear hB8 HBY7 HDO7 HYY HPA HB3Q htk
              obtain ⟨ar, har⟩ : ∃ ar, ar = armOf m A := ⟨_, rfl⟩
              rw [← har] at harm hsza HTKK
              clear har
              cases ar with
              | none =>
                have hfd : fd = -1 := harm
                subst hfd
                clear harm hsza
                go_wp2_with fail
                refine (X.RL.wrong (d := 4) HDO8.out.2.1).mono ?_
                rintro r0 w9 ⟨rfl, hR9, hO9⟩
                have hd9 := HDO8.out.only hR9 hO9
                have hy : YY = .error (X.failE e2 4) ∧ X.failE e2 4 ≠ 0 := by
                  rw [HTKK.out]
                  unfold ofN X.failE
                  by_cases h0 : e2 = 0
                  · subst h0; exact ⟨rfl, by decide⟩
                  · rw [if_neg (by exact h0), if_neg h0]; exact ⟨rfl, h0⟩
                have hout : Out B0 p q R NN TT YY w9 := by rw [hy.1]; exact ⟨hy.2, _, _, _, hd9⟩
                have HOUT := Lib.hid hout
                have HBY := Lib.hid (HBY8.out.trans (hO9.below hq))
                clear hR9 hO9 hd9 hy hout
                go_wp2
                go_meet
                exact ⟨b3, YY, _, r3, t2, by go_num, by omega, by omega, HD3.out, HP3.out, HST.out, HFW.out, HSZ.out, HOUT.out, HBY.out⟩
              | some i =>
                obtain ⟨bA, d, tA, rfl, hbA1, hbA2, hpA⟩ := harm
                have hszi := hsza i rfl
                have HPAA := Lib.hid hpA
                clear hsza hpA
                have ce := rl_err HDO8.out.2.1
                by_cases he2 : e2 = 0
                · subst he2
                  have hd8 : DS B0 p q R (NN ++ [m]) TT l2 0 w8 := HDO8.out
                  have hroom : (NN ++ [m]).length + TT.length + i.sz * (l2.length / 4 + 1) ≤ 1000000000 := by
                    have h1 := HKK1.out
                    rw [HSZ.out, Nat.add_mul, Nat.add_mul] at h1
                    have h2 : i.sz * (l2.length / 4 + 1) ≤ A.sz * (l1.length / 4 + 1) := Nat.mul_le_mul hszi (by omega)
                    simp only [List.length_append, List.length_singleton]
                    omega
                  have HD8 := Lib.hid hd8
                  have HROOM := Lib.hid hroom
                  clear hd8 hroom HDO8
                  go_wp2_with fail
                  refine (HIH.out (n + 1) bA i (d :: tA) hbA2 (by omega) HPAA.out (NN ++ [m]) TT l2 w8 HD8.out (by omega) HROOM.out).mono ?_
                  rintro r0 w9 ⟨rfl, hB9, hO9⟩
                  have hout : Out B0 p q R NN TT YY w9 := by
                    rw [HTKK.out]
                    have h : Out B0 p q R NN TT (pre [m] [] (tk none i l2)) w9 := out_pre (by simpa using hO9)
                    simpa [andT, ofN] using h
                  have HOUT := Lib.hid hout
                  have HBY := Lib.hid (HBY8.out.trans hB9)
                  clear hout hO9 hB9 HD8 HROOM ce
                  go_wp2
                  go_meet
                  exact ⟨b3, YY, _, r3, t2, by go_num, by omega, by omega, HD3.out, HP3.out, HST.out, HFW.out, HSZ.out, HOUT.out, HBY.out⟩
                · have he' : (e2 == 0) = false := by rw [beq_eq_false_iff_ne]; exact he2
                  have hout : Out B0 p q R NN TT YY w8 := by
                    rw [HTKK.out]
                    unfold ofN
                    rw [if_neg (by exact he2)]
                    exact ⟨he2, _, _, _, HDO8.out⟩
                  have HOUT := Lib.hid hout
                  have HBY := HBY8
                  clear hout HDO8
                  go_wp2
                  go_meet
                  exact ⟨b3, YY, _, r3, t2, by go_num, by omega, by omega, HD3.out, HP3.out, HST.out, HFW.out, HSZ.out, HOUT.out, HBY.out⟩
        · have hc' : isSign c = false := by simpa using hc
          have hne : ∀ d : UInt8, isSign d = true → ((c.toNat : Int) == (d.toNat : Int)) = false := by
            intro d hd
            rw [beq_eq_false_iff_ne]
            intro e
            have e2 : c = d := UInt8.toNat_inj.1 (by omega)
            rw [e2, hd] at hc'
            cases hc'
          have n1' : ((c.toNat : Int) == 117) = false := hne 117 rfl
          have n2' : ((c.toNat : Int) == 113) = false := hne 113 rfl
          have n3' : ((c.toNat : Int) == 98) = false := hne 98 rfl
          have n4' : ((c.toNat : Int) == 111) = false := hne 111 rfl
          have n5' : ((c.toNat : Int) == 102) = false := hne 102 rfl
          have n6' : ((c.toNat : Int) == 63) = false := hne 63 rfl
          have n7' : ((c.toNat : Int) == 42) = false := hne 42 rfl
          have n8' : ((c.toNat : Int) == 60) = false := hne 60 rfl
          have hst := Pn_stop hc' HPC.out
          have hbe : (b : Int) = (en : Int) := by
            have h := HEN.out
            rw [hst.2, List.length_cons, List.length_drop] at h
            omega
          have HST := Lib.hid hst
          have HBE := Lib.hid hbe
          clear hst hbe hne hat hc hc'
          go_wp2
          go_ret
          refine ⟨by rw [← HBE.out]; first | rfl | (congr 2; go_num), HB.out, ?_⟩
          rw [HX1.out, HST.out.1]
          exact out_end HDS1.out HNN.out HTT.out
      case rest =>
        as_aux_lemma =>
          obtain ⟨b3, y, s3, r3, t3, rfl, hb3a, hb3b, hd3, hp3, hstep, hfew, hsz3, hout, hby⟩ := hcut
          rename World => w7
          have HOUT := Lib.hid hout
          have HBY := Lib.hid hby
          clear hout hby HDS1 HV HR hnn hnt c0 c1 f0 f1
          have HTK := Lib.hid hstep
          have HP3 := Lib.hid hp3
          have HD3 := Lib.hid hd3
          have HFW := Lib.hid hfew
          have HSZ := Lib.hid hsz3
          clear hstep hp3 hd3 hfew hsz3
          cases y with
          | ok z =>
            obtain ⟨n2, t2, l2⟩ := z
            have hdo : DS B0 p q R (NN ++ n2) (TT ++ t2) l2 0 w7 := HOUT.out
            have ce := rl_err hdo.2.1
            have HDO := Lib.hid hdo
            have hrm := room_step HFW.out rfl HSZ.out HKK1.out
            have HRM := Lib.hid hrm
            clear hdo hrm HOUT
            go_wp2
            go_roundg (S.size - b3 + 1)
            case measure => omega
            case rel =>
              refine ⟨b3, r3, n1 ++ n2, t1 ++ t2, l2, by omega, by omega, by go_num, by omega, by rw [HD3.out]; exact HP3.out, ?_, HBY.out, ?_, by have := HRM.out.2; omega, ?_⟩
              · rw [← List.append_assoc, ← List.append_assoc, ← HNN.out, ← HTT.out]; exact HDO.out
              · rw [HX1.out, HTK.out]; simp only [andT]; rw [pre_pre]
              · have := HRM.out.1
                rw [← List.append_assoc, ← List.append_assoc, ← HNN.out, ← HTT.out, List.length_append, List.length_append]
                omega
          | error e =>
            obtain ⟨he, N', T', l', hdo⟩ := HOUT.out
            have ce := rl_err hdo.2.1
            have HDO := Lib.hid hdo
            clear hdo HOUT
            have he' : (e != 0) = true := by rw [bne_iff_ne]; exact he
            have hsk3 := Pn_skip HP3.out
            have HSK3 := Lib.hid hsk3
            clear hsk3
            go_wp2_with fail
            refine (HSKC.out b3 w7 (by omega)).mono ?_
            rintro r0 w8 ⟨rfl, hB8⟩
            rw [HD3.out, HSK3.out]
            simp only [pl]
            rw [← HEN.out]
            have HB8 := Lib.hid (HBY.out.trans (hB8.mono (by have := rl_lt HDO.out.2.1; have := HDO.out.2.2; omega)))
            have HD8 := Lib.hid (HDO.out.news hB8)
            clear hB8
            go_wp2
            go_ret
            refine ⟨rfl, HB8.out, ?_⟩
            rw [HX1.out, HTK.out]
            exact ⟨he, N', T', l', HD8.out⟩
    · have hnil : F.drop b = [] := List.drop_eq_nil_of_le (by omega)
      have hst := HPN.out
      rw [hnil, Pn_nil] at hst
      simp only [Option.some.injEq, Prod.mk.injEq] at hst
      obtain ⟨rfl, rfl⟩ := hst
      have hbe : (b : Int) = (en : Int) := by
        have h := HEN.out
        simp only [List.length_nil] at h
        omega
      have HBE := Lib.hid hbe
      clear hbe hnil
      go_wp2
      go_ret
      refine ⟨by rw [← HBE.out]; first | rfl | (congr 2; go_num), HB.out, ?_⟩
      rw [HX1.out]
      exact out_end HDS1.out HNN.out HTT.out
end Go.Proofs.YtjogcdkebplcpaaGreatDoor
