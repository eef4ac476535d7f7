/-
  The document's lay, sign by sign: what it lays out is what the program's layer lays out. Its conditions: what is laid out lies in memory; there is room.
-/
import Derived.Test.YtjogcdkebplcpaaGreatDoorCy
import Derived.Test.YtjogcdkebplcpaaGreatDoorLf
import Derived.Deep.DeepCutAuto
import Derived.Deep.LoopGhost
namespace Go.Proofs.YtjogcdkebplcpaaGreatDoor
open Go.RowKit Sch

theorem lputL_any (B0 q : Nat) (vN vT : Value) (i j : Nat) (b : List UInt8) (vO : Value) (sz : Nat) (bad : Bool) (L : List UInt8) (w : World) (h : LB B0 q vN vT i j b vO sz bad w) (hs : sz + L.length ≤ 1000000000000000) :
    Calls Tryz.prog 38 #[.pointer (some ⟨q, 0, none⟩), .string ⟨L.toArray⟩] w fun e w' => e = .returned (.tuple #[]) ∧ Below B0 w w' ∧ ∃ vO', LB B0 q vN vT i j (putB b sz L) vO' (sz + L.length) bad w' := by
  have e : (⟨L.toArray⟩ : ByteArray).data.toList = L := by simp
  have e2 : (⟨L.toArray⟩ : ByteArray).size = L.length := by rw [← X.dat_len, e]
  have h1 := lput_any B0 q vN vT i j b vO sz bad ⟨L.toArray⟩ w h (by rw [e2]; exact hs)
  rw [putB_le, e, e2] at h1
  exact h1
theorem xy_num (n : Int) (k : Nat) : X.numBytes n k = Y.numBytes n k := rfl
theorem xy_fix (s : ByteArray) : X.fixedOf s = Y.fixedOf s := rfl
theorem xy_opq (s : ByteArray) : X.opaqueOf s = Y.opaqueOf s := rfl
theorem rel_mem {K : Nat} {N0 : List Int} {T0 : List ByteArray} {B : List UInt8} {n : Int} {N : List Int} {T : List ByteArray} {i j : Nat} {b : List UInt8} {sz : Nat} {bad : Bool} (h : Rel K N0 T0 (some (B, n :: N, T)) i j b sz bad) : n ∈ N0 := by
  obtain ⟨h0, h1, h3, h4, h5, h6, h7, h2⟩ := h
  exact List.mem_of_mem_drop (i := i) (by rw [h6]; simp)
theorem arm_wf (m : Int) (i : Row) : ∀ A : Row, armOf m A = some i → wf false A → fullR A → wf true i ∧ fullR i
  | .arm k j r, h, hw, hf => by
    simp only [armOf] at h
    split at h
    · simp only [Option.some.injEq] at h; subst h; exact ⟨hw.1, hf.1⟩
    · exact arm_wf m i r h hw.2 hf.2
  | .nil, h, _, _ => by cases h
  | .one _ _, h, _, _ => by cases h
  | .num _ _ _, h, _, _ => by cases h
  | .opt _ _ _, h, _, _ => by cases h
  | .ch _ _, h, _, _ => by cases h

theorem tk_armL (m : Int) (N : List Int) (T : List ByteArray) : ∀ A : Row, ly (some m) A N T = match armOf m A with | some i => ly none i N T | none => .error 4
  | .arm k i r => by
    simp only [ly, armOf]
    by_cases h : k = m ∨ k = -1
    · rw [if_pos h, if_pos h]
    · rw [if_neg h, if_neg h]; exact tk_armL m N T r
  | .nil => by simp [ly, armOf]
  | .one _ _ => by simp [ly, armOf]
  | .num _ _ _ => by simp [ly, armOf]
  | .opt _ _ _ => by simp [ly, armOf]
  | .ch _ _ => by simp [ly, armOf]
theorem oneL_u (N : List Int) (T : List ByteArray) : oneL 117 N T = numL 0 4294967295 4 N T := by simp [oneL]
theorem oneL_q (N : List Int) (T : List ByteArray) : oneL 113 N T = numL (-9223372036854775808) 9223372036854775807 8 N T := by simp [oneL]
theorem oneL_b (N : List Int) (T : List ByteArray) : oneL 98 N T = numL 0 1 4 N T := by simp [oneL]
/-- What the document's lay is to do. -/
def LyC (F : List UInt8) (M : Nat) (B0 q : Nat) (aN : Option Addr) (cN : Nat) (N0 : List Int) (aT : Option Addr) (cT : Nat) (T0 : List ByteArray) : Prop := ∀ (n a : Nat) (r : Row) (t' : List UInt8), a ≤ F.length → F.length - a ≤ M → Pn n (F.drop a) = some (r, t') → wf true r → fullR r →
  ∀ (K : Nat) (m : Mo) (w : World), ST B0 q aN cN N0 aT cT T0 K m w → K + 16 * (F.length - a) ≤ 500000000000000 →
  Calls Tryz.prog 21 #[.string ⟨F.toArray⟩, .int .i64 a, .pointer (some ⟨q, 0, none⟩)] w fun e w' => e = .returned (.int .i64 ((F.length - t'.length : Nat) : Int)) ∧ Below B0 w w' ∧ ST B0 q aN cN N0 aT cT T0 (K + 16 * (F.length - t'.length - a)) (runM m r) w'

set_option maxRecDepth 100000 in
set_option maxHeartbeats 16000000 in
theorem lay_of (F : List UInt8) (hF : F.length ≤ 1000) (M : Nat) (B0 q : Nat) (aN : Option Addr) (cN : Nat) (N0 : List Int) (aT : Option Addr) (cT : Nat) (T0 : List ByteArray) (hNl : N0.length ≤ 1000000000000) (hTl : T0.length ≤ 1000000000000) (hRG : ∀ x ∈ N0, -9223372036854775808 ≤ x ∧ x ≤ 9223372036854775807)
    (IH : 0 < M → LyC F (M - 1) B0 q aN cN N0 aT cT T0) : LyC F M B0 q aN cN N0 aT cT T0 := by
  intro n a r t' ha hM hp hw hf K m w hst hK
  obtain ⟨S, hS⟩ : ∃ S : ByteArray, S = ⟨F.toArray⟩ := ⟨_, rfl⟩
  have hsz : S.size = F.length := by rw [hS]; show F.toArray.size = _; simp
  have hat : ∀ j (hj : j < S.size) (hj2 : j < F.length), S[j] = F[j] := by
    intro j hj hj2; subst hS; rfl
  have hdig : ∀ (a : Nat) (w : World), a ≤ F.length → Calls Tryz.prog 30 #[.string S, .int .i64 a] w (DPost F (num6 (F.drop a)) w) := fun a w h => by rw [hS]; exact digits_any F a w hF h
  have hsk : ∀ (a : Nat) (w : World), a ≤ F.length → Calls Tryz.prog 26 #[.string S, .int .i64 a, .int .i64 0] w fun r w' => r = .returned (.int .i64 (pl F (Gn 0 (F.drop a)))) ∧ Below w.heap.size w w' := fun a w h1 => by rw [hS]; exact skip_all F hF F.length 0 (by omega) a w h1 (by omega)
  have hcz : ∀ (n : Nat) (s : List Int) (a : Nat) (m : Int) (A : Row) (t' : List UInt8) (w : World), a ≤ F.length → Pz n s (F.drop a) = some (A, t') → Calls Tryz.prog 33 #[.string S, .int .i64 a, .int .i64 m] w fun e w' => ∃ fd, e = .returned (.tuple #[.int .i64 fd, .int .i64 ((F.length - t'.length : Nat) : Int)]) ∧ Below w.heap.size w w' ∧ Arm2 F n a t' (armOf m A) fd := fun n s a m A t' w h1 h2 => by rw [hS]; exact choose2_any F hF n s a m A t' w h1 h2
  have hih : ∀ (n a : Nat) (r : Row) (t' : List UInt8), a ≤ F.length → F.length - a < M → Pn n (F.drop a) = some (r, t') → wf true r → fullR r →
      ∀ (K : Nat) (m : Mo) (w : World), ST B0 q aN cN N0 aT cT T0 K m w → K + 16 * (F.length - a) ≤ 500000000000000 →
      Calls Tryz.prog 21 #[.string S, .int .i64 a, .pointer (some ⟨q, 0, none⟩)] w fun e w' => e = .returned (.int .i64 ((F.length - t'.length : Nat) : Int)) ∧ Below B0 w w' ∧ ST B0 q aN cN N0 aT cT T0 (K + 16 * (F.length - t'.length - a)) (runM m r) w' := fun n a r t' h1 h2 h3 h4 h5 K m w h6 h7 => by rw [hS]; exact IH (by omega) n a r t' h1 (by omega) h3 h4 h5 K m w h6 h7
  rw [← hS]
  have HA := Lib.hid hat
  have HDI := Lib.hid hdig
  have HSKC := Lib.hid hsk
  have HCZ := Lib.hid hcz
  have HIH := Lib.hid hih
  have HP := Lib.hid hp
  have HST := Lib.hid hst
  have HW := Lib.hid hw
  have HF := Lib.hid hf
  have HRG := Lib.hid hRG
  obtain ⟨x, hx⟩ : ∃ x, x = runM m r := ⟨_, rfl⟩
  rw [← hx]
  have HX := Lib.hid hx
  obtain ⟨en, hen⟩ : ∃ en : Nat, en = F.length - t'.length := ⟨_, rfl⟩
  rw [← hen]
  have HEN := Lib.hid hen
  have hs1 : S.size ≤ 1000 := by omega
  have hs2 : a ≤ S.size := by omega
  have hs3 : F.length ≤ S.size := by omega
  have hs4 : S.size ≤ F.length := by omega
  clear hat hS hsz hdig hsk hcz hih hp hst hx hen IH hw hf hRG
  go_enter Tryz.func21, Tryz.ntmps21
  go_wp2
  go_loopg [1] (S.size - a + 1) (fun k i wr => ∃ (b : Nat) (r2 : Row) (m1 : Mo), b ≤ S.size ∧ a ≤ b ∧ i = .int .i64 b ∧ S.size - b < k ∧ Pn n (F.drop b) = some (r2, t') ∧ wf true r2 ∧ fullR r2 ∧ ST B0 q aN cN N0 aT cT T0 (K + 16 * (b - a)) m1 wr ∧ Below B0 w wr ∧ x = runM m1 r2)
  case atStart => exact ⟨a, r, m, hs2, Nat.le_refl _, rfl, by omega, HP.out, HW.out, HF.out, by rw [Nat.sub_self]; exact HST.out, Below.refl _ _, HX.out⟩
  case round =>
    rename Nat => kk
    obtain ⟨b, r2, m1, hb, hab, rfl, hk, hpn, hw, hf, hst, hB, hx1⟩ := hrel
    obtain ⟨hin, hit, ix, jx, bb, vO, sz, bad, hlb, hrl⟩ := hst
    have HB0 := Lib.hid hB
    have HN0 := Lib.hid hin
    have HT0 := Lib.hid hit
    have HL0 := Lib.hid hlb
    have HR := Lib.hid hrl
    have HPN := Lib.hid hpn
    have HX1 := Lib.hid hx1
    have HW2 := Lib.hid hw
    have HF2 := Lib.hid hf
    have hqB : B0 ≤ q := hlb.hq
    have hsz1 := hrl.le
    obtain ⟨K1, hK1⟩ : ∃ K1, K1 = K + 16 * (b - a) := ⟨_, rfl⟩
    rw [← hK1] at HR hsz1
    clear hB hin hit hlb hrl hpn hx1 hw hf HX HST HP HW HF
    by_cases hbs : b < S.size
    · have hbF : b < F.length := by omega
      obtain ⟨c, hcF⟩ : ∃ c, c = F[b] := ⟨_, rfl⟩
      have hat : S[b] = c := by rw [hcF]; exact HA.out b hbs hbF
      have hdr : F.drop b = c :: F.drop (b + 1) := by rw [hcF]; exact drop_at hbF
      have hpc := HPN.out
      rw [hdr] at hpc
      have HPC := Lib.hid hpc
      clear hcF hdr hpc HPN
      by_cases hc : isSign c = true
      · rcases isSign_cases hc with rfl | rfl | rfl | rfl | rfl | rfl | rfl | rfl
        · as_aux_lemma =>
            obtain ⟨r3, rfl, hp3⟩ := Pn_one rfl HPC.out
            clear HPC hc
            have hyy : ∀ N T, ly none (.one 117 r3) N T = andL ((numL 0 4294967295 4) N T) (ly none r3) := fun N T => by rw [← oneL_u]; rfl
            have HW3 := Lib.hid (show wf true r3 from HW2.out.2)
            have HF3 := Lib.hid (show fullR r3 from HF2.out)
            have HP3 := Lib.hid hp3
            clear hp3 HW2 HF2
            rcases num_cases true HR.out with ⟨B, nn, N, T, rfl, rfl, hrg, hs⟩ | ⟨hno, i2, hs⟩
            · have hnum := fun w h1 h2 => lnum_any B0 B0 q aN cN N0 (.slice aT T0.length cT) ix jx bb vO sz false true w h1 h2 hNl
              rw [hs] at hnum
              dsimp only at hnum
              have HNUM := Lib.hid hnum
              clear hnum hs
              go_wp2_with fail
              refine (HNUM.out _ HL0.out HN0.out).mono ?_
              rintro r0 w1 ⟨rfl, hb, hlb⟩
              have hbs1 : B0 ≤ wr.heap.size := by have := HL0.out.lt; omega
              have hbl1 : Below B0 wr w1 := hb
              have HB1 := Lib.hid (HB0.out.trans hbl1)
              have HN1 := Lib.hid (HN0.out.low hbl1)
              have HT1 := Lib.hid (HT0.out.low hbl1)
              have HL1 := Lib.hid (hlb)
              clear hbs1 hbl1 HB0 HN0 HT0 HL0
              clear hb hlb HNUM
              go_wp2_with fail
              refine (X.refUint_any nn _).mono ?_
              rintro r0 w2 ⟨rfl, hb⟩
              have hbs2 : B0 ≤ w1.heap.size := by have := HL1.out.lt; omega
              have hbl2 : Below B0 w1 w2 := hb.mono hbs2
              have HB2 := Lib.hid (HB1.out.trans hbl2)
              have HN2 := Lib.hid (HN1.out.low hbl2)
              have HT2 := Lib.hid (HT1.out.low hbl2)
              have HL2 := Lib.hid (HL1.out.news hb)
              clear hbs2 hbl2 HB1 HN1 HT1 HL1
              clear hb
              go_wp2_with fail
              refine (lputL_any B0 q _ _ (ix + 1) jx (bb) vO (sz) false (X.numBytes nn 4) _ HL2.out (by simp only [X.numBytes_length]; omega)).mono ?_
              rintro r0 w3 ⟨rfl, hb, vO3, hlb⟩
              have hbs3 : B0 ≤ w2.heap.size := by have := HL2.out.lt; omega
              have hbl3 : Below B0 w2 w3 := hb
              have HB3 := Lib.hid (HB2.out.trans hbl3)
              have HN3 := Lib.hid (HN2.out.low hbl3)
              have HT3 := Lib.hid (HT2.out.low hbl3)
              have HL3 := Lib.hid (hlb)
              clear hbs3 hbl3 HB2 HN2 HT2 HL2
              clear hb hlb
              have hrel3 := rel_took HR.out (X.numBytes nn 4) (by rw [X.numBytes_length]; omega)
              have HR3 := Lib.hid hrel3
              have hxx := HX1.out.trans (runM_step _ _ r3 (numL 0 4294967295 4) hyy)
              rw [show stepM (some (B, nn :: N, T)) (numL 0 4294967295 4) = some (B ++ X.numBytes nn 4, N, T) from by simp only [stepM, numL]; rw [if_pos (hrg (by trivial))]; rfl] at hxx
              have HXX := Lib.hid hxx
              clear hrel3 hxx
              go_wp2
              go_roundg (S.size - (b + 1) + 1)
              case measure => omega
              case rel => exact ⟨(b + 1), r3, _, by omega, by omega, by go_num, by omega, HP3.out, HW3.out, HF3.out, ⟨HN3.out, HT3.out, _, _, _, _, _, _, HL3.out, HR3.out.more (by first | omega | (have := HBQ.out; omega))⟩, HB3.out, HXX.out⟩
            · have hnum := fun w h1 h2 => lnum_any B0 B0 q aN cN N0 (.slice aT T0.length cT) ix jx bb vO sz bad true w h1 h2 hNl
              rw [hs] at hnum
              dsimp only at hnum
              have HNUM := Lib.hid hnum
              clear hnum hs
              go_wp2_with fail
              refine (HNUM.out _ HL0.out HN0.out).mono ?_
              rintro r0 w1 ⟨rfl, hb, hlb⟩
              have hbs1 : B0 ≤ wr.heap.size := by have := HL0.out.lt; omega
              have hbl1 : Below B0 wr w1 := hb
              have HB1 := Lib.hid (HB0.out.trans hbl1)
              have HN1 := Lib.hid (HN0.out.low hbl1)
              have HT1 := Lib.hid (HT0.out.low hbl1)
              have HL1 := Lib.hid (hlb)
              clear hbs1 hbl1 HB0 HN0 HT0 HL0
              clear hb hlb HNUM
              go_wp2_with fail
              refine (X.refUint_any 0 _).mono ?_
              rintro r0 w2 ⟨rfl, hb⟩
              have hbs2 : B0 ≤ w1.heap.size := by have := HL1.out.lt; omega
              have hbl2 : Below B0 w1 w2 := hb.mono hbs2
              have HB2 := Lib.hid (HB1.out.trans hbl2)
              have HN2 := Lib.hid (HN1.out.low hbl2)
              have HT2 := Lib.hid (HT1.out.low hbl2)
              have HL2 := Lib.hid (HL1.out.news hb)
              clear hbs2 hbl2 HB1 HN1 HT1 HL1
              clear hb
              go_wp2_with fail
              refine (lputL_any B0 q _ _ i2 jx (bb) vO (sz) true (X.numBytes 0 4) _ HL2.out (by simp only [X.numBytes_length]; omega)).mono ?_
              rintro r0 w3 ⟨rfl, hb, vO3, hlb⟩
              have hbs3 : B0 ≤ w2.heap.size := by have := HL2.out.lt; omega
              have hbl3 : Below B0 w2 w3 := hb
              have HB3 := Lib.hid (HB2.out.trans hbl3)
              have HN3 := Lib.hid (HN2.out.low hbl3)
              have HT3 := Lib.hid (HT2.out.low hbl3)
              have HL3 := Lib.hid (hlb)
              clear hbs3 hbl3 HB2 HN2 HT2 HL2
              clear hb hlb
              have hrel3 := rel_bad HR.out (i' := i2) (j' := jx) (b' := putB (bb) (sz) (X.numBytes 0 4)) (K' := K1 + 16) (X.numBytes 0 4).length (by rw [X.numBytes_length]; omega)
              have HR3 := Lib.hid hrel3
              have hxx := HX1.out.trans (runM_step _ _ r3 (numL 0 4294967295 4) hyy)
              rw [show stepM m1 (numL 0 4294967295 4) = none from hno.step (fun h => by first | (exact ⟨by omega, by omega⟩) | cases h)] at hxx
              have HXX := Lib.hid hxx
              clear hrel3 hxx
              go_wp2
              go_roundg (S.size - (b + 1) + 1)
              case measure => omega
              case rel => exact ⟨(b + 1), r3, _, by omega, by omega, by go_num, by omega, HP3.out, HW3.out, HF3.out, ⟨HN3.out, HT3.out, _, _, _, _, _, _, HL3.out, HR3.out.more (by first | omega | (have := HBQ.out; omega))⟩, HB3.out, HXX.out⟩
        · as_aux_lemma =>
            obtain ⟨r3, rfl, hp3⟩ := Pn_one rfl HPC.out
            clear HPC hc
            have hyy : ∀ N T, ly none (.one 113 r3) N T = andL ((numL (-9223372036854775808) 9223372036854775807 8) N T) (ly none r3) := fun N T => by rw [← oneL_q]; rfl
            have HW3 := Lib.hid (show wf true r3 from HW2.out.2)
            have HF3 := Lib.hid (show fullR r3 from HF2.out)
            have HP3 := Lib.hid hp3
            clear hp3 HW2 HF2
            rcases num_cases false HR.out with ⟨B, nn, N, T, rfl, rfl, hrg, hs⟩ | ⟨hno, i2, hs⟩
            · have hnum := fun w h1 h2 => lnum_any B0 B0 q aN cN N0 (.slice aT T0.length cT) ix jx bb vO sz false false w h1 h2 hNl
              rw [hs] at hnum
              dsimp only at hnum
              have HNUM := Lib.hid hnum
              clear hnum hs
              go_wp2_with fail
              refine (HNUM.out _ HL0.out HN0.out).mono ?_
              rintro r0 w1 ⟨rfl, hb, hlb⟩
              have hbs1 : B0 ≤ wr.heap.size := by have := HL0.out.lt; omega
              have hbl1 : Below B0 wr w1 := hb
              have HB1 := Lib.hid (HB0.out.trans hbl1)
              have HN1 := Lib.hid (HN0.out.low hbl1)
              have HT1 := Lib.hid (HT0.out.low hbl1)
              have HL1 := Lib.hid (hlb)
              clear hbs1 hbl1 HB0 HN0 HT0 HL0
              clear hb hlb HNUM
              go_wp2_with fail
              refine (X.refHyper_any nn _).mono ?_
              rintro r0 w2 ⟨rfl, hb⟩
              have hbs2 : B0 ≤ w1.heap.size := by have := HL1.out.lt; omega
              have hbl2 : Below B0 w1 w2 := hb.mono hbs2
              have HB2 := Lib.hid (HB1.out.trans hbl2)
              have HN2 := Lib.hid (HN1.out.low hbl2)
              have HT2 := Lib.hid (HT1.out.low hbl2)
              have HL2 := Lib.hid (HL1.out.news hb)
              clear hbs2 hbl2 HB1 HN1 HT1 HL1
              clear hb
              go_wp2_with fail
              refine (lputL_any B0 q _ _ (ix + 1) jx (bb) vO (sz) false (X.numBytes nn 8) _ HL2.out (by simp only [X.numBytes_length]; omega)).mono ?_
              rintro r0 w3 ⟨rfl, hb, vO3, hlb⟩
              have hbs3 : B0 ≤ w2.heap.size := by have := HL2.out.lt; omega
              have hbl3 : Below B0 w2 w3 := hb
              have HB3 := Lib.hid (HB2.out.trans hbl3)
              have HN3 := Lib.hid (HN2.out.low hbl3)
              have HT3 := Lib.hid (HT2.out.low hbl3)
              have HL3 := Lib.hid (hlb)
              clear hbs3 hbl3 HB2 HN2 HT2 HL2
              clear hb hlb
              have hrel3 := rel_took HR.out (X.numBytes nn 8) (by rw [X.numBytes_length]; omega)
              have HR3 := Lib.hid hrel3
              have hxx := HX1.out.trans (runM_step _ _ r3 (numL (-9223372036854775808) 9223372036854775807 8) hyy)
              rw [show stepM (some (B, nn :: N, T)) (numL (-9223372036854775808) 9223372036854775807 8) = some (B ++ X.numBytes nn 8, N, T) from by simp only [stepM, numL]; rw [if_pos (HRG.out nn (rel_mem HR.out))]; rfl] at hxx
              have HXX := Lib.hid hxx
              clear hrel3 hxx
              go_wp2
              go_roundg (S.size - (b + 1) + 1)
              case measure => omega
              case rel => exact ⟨(b + 1), r3, _, by omega, by omega, by go_num, by omega, HP3.out, HW3.out, HF3.out, ⟨HN3.out, HT3.out, _, _, _, _, _, _, HL3.out, HR3.out.more (by first | omega | (have := HBQ.out; omega))⟩, HB3.out, HXX.out⟩
            · have hnum := fun w h1 h2 => lnum_any B0 B0 q aN cN N0 (.slice aT T0.length cT) ix jx bb vO sz bad false w h1 h2 hNl
              rw [hs] at hnum
              dsimp only at hnum
              have HNUM := Lib.hid hnum
              clear hnum hs
              go_wp2_with fail
              refine (HNUM.out _ HL0.out HN0.out).mono ?_
              rintro r0 w1 ⟨rfl, hb, hlb⟩
              have hbs1 : B0 ≤ wr.heap.size := by have := HL0.out.lt; omega
              have hbl1 : Below B0 wr w1 := hb
              have HB1 := Lib.hid (HB0.out.trans hbl1)
              have HN1 := Lib.hid (HN0.out.low hbl1)
              have HT1 := Lib.hid (HT0.out.low hbl1)
              have HL1 := Lib.hid (hlb)
              clear hbs1 hbl1 HB0 HN0 HT0 HL0
              clear hb hlb HNUM
              go_wp2_with fail
              refine (X.refHyper_any 0 _).mono ?_
              rintro r0 w2 ⟨rfl, hb⟩
              have hbs2 : B0 ≤ w1.heap.size := by have := HL1.out.lt; omega
              have hbl2 : Below B0 w1 w2 := hb.mono hbs2
              have HB2 := Lib.hid (HB1.out.trans hbl2)
              have HN2 := Lib.hid (HN1.out.low hbl2)
              have HT2 := Lib.hid (HT1.out.low hbl2)
              have HL2 := Lib.hid (HL1.out.news hb)
              clear hbs2 hbl2 HB1 HN1 HT1 HL1
              clear hb
              go_wp2_with fail
              refine (lputL_any B0 q _ _ i2 jx (bb) vO (sz) true (X.numBytes 0 8) _ HL2.out (by simp only [X.numBytes_length]; omega)).mono ?_
              rintro r0 w3 ⟨rfl, hb, vO3, hlb⟩
              have hbs3 : B0 ≤ w2.heap.size := by have := HL2.out.lt; omega
              have hbl3 : Below B0 w2 w3 := hb
              have HB3 := Lib.hid (HB2.out.trans hbl3)
              have HN3 := Lib.hid (HN2.out.low hbl3)
              have HT3 := Lib.hid (HT2.out.low hbl3)
              have HL3 := Lib.hid (hlb)
              clear hbs3 hbl3 HB2 HN2 HT2 HL2
              clear hb hlb
              have hrel3 := rel_bad HR.out (i' := i2) (j' := jx) (b' := putB (bb) (sz) (X.numBytes 0 8)) (K' := K1 + 16) (X.numBytes 0 8).length (by rw [X.numBytes_length]; omega)
              have HR3 := Lib.hid hrel3
              have hxx := HX1.out.trans (runM_step _ _ r3 (numL (-9223372036854775808) 9223372036854775807 8) hyy)
              rw [show stepM m1 (numL (-9223372036854775808) 9223372036854775807 8) = none from hno.step (fun h => by first | (exact ⟨by omega, by omega⟩) | cases h)] at hxx
              have HXX := Lib.hid hxx
              clear hrel3 hxx
              go_wp2
              go_roundg (S.size - (b + 1) + 1)
              case measure => omega
              case rel => exact ⟨(b + 1), r3, _, by omega, by omega, by go_num, by omega, HP3.out, HW3.out, HF3.out, ⟨HN3.out, HT3.out, _, _, _, _, _, _, HL3.out, HR3.out.more (by first | omega | (have := HBQ.out; omega))⟩, HB3.out, HXX.out⟩
        · as_aux_lemma =>
            obtain ⟨r3, rfl, hp3⟩ := Pn_one rfl HPC.out
            clear HPC hc
            have hyy : ∀ N T, ly none (.one 98 r3) N T = andL ((numL 0 1 4) N T) (ly none r3) := fun N T => by rw [← oneL_b]; rfl
            have HW3 := Lib.hid (show wf true r3 from HW2.out.2)
            have HF3 := Lib.hid (show fullR r3 from HF2.out)
            have HP3 := Lib.hid hp3
            clear hp3 HW2 HF2
            rcases num_cases true HR.out with ⟨B, nn, N, T, rfl, rfl, hrg, hs⟩ | ⟨hno, i2, hs⟩
            · by_cases hle : nn ≤ 1
              · have hn1 : ¬ 1 < nn := by omega
                have hnum := fun w h1 h2 => lnum_any B0 B0 q aN cN N0 (.slice aT T0.length cT) ix jx bb vO sz false true w h1 h2 hNl
                rw [hs] at hnum
                dsimp only at hnum
                have HNUM := Lib.hid hnum
                clear hnum hs
                go_wp2_with fail
                refine (HNUM.out _ HL0.out HN0.out).mono ?_
                rintro r0 w1 ⟨rfl, hb, hlb⟩
                have hbs1 : B0 ≤ wr.heap.size := by have := HL0.out.lt; omega
                have hbl1 : Below B0 wr w1 := hb
                have HB1 := Lib.hid (HB0.out.trans hbl1)
                have HN1 := Lib.hid (HN0.out.low hbl1)
                have HT1 := Lib.hid (HT0.out.low hbl1)
                have HL1 := Lib.hid (hlb)
                clear hbs1 hbl1 HB0 HN0 HT0 HL0
                clear hb hlb HNUM
                go_wp2_with fail
                refine (X.refUint_any nn _).mono ?_
                rintro r0 w2 ⟨rfl, hb⟩
                have hbs2 : B0 ≤ w1.heap.size := by have := HL1.out.lt; omega
                have hbl2 : Below B0 w1 w2 := hb.mono hbs2
                have HB2 := Lib.hid (HB1.out.trans hbl2)
                have HN2 := Lib.hid (HN1.out.low hbl2)
                have HT2 := Lib.hid (HT1.out.low hbl2)
                have HL2 := Lib.hid (HL1.out.news hb)
                clear hbs2 hbl2 HB1 HN1 HT1 HL1
                clear hb
                go_wp2_with fail
                refine (lputL_any B0 q _ _ (ix + 1) jx (bb) vO (sz) false (X.numBytes nn 4) _ HL2.out (by simp only [X.numBytes_length]; omega)).mono ?_
                rintro r0 w3 ⟨rfl, hb, vO3, hlb⟩
                have hbs3 : B0 ≤ w2.heap.size := by have := HL2.out.lt; omega
                have hbl3 : Below B0 w2 w3 := hb
                have HB3 := Lib.hid (HB2.out.trans hbl3)
                have HN3 := Lib.hid (HN2.out.low hbl3)
                have HT3 := Lib.hid (HT2.out.low hbl3)
                have HL3 := Lib.hid (hlb)
                clear hbs3 hbl3 HB2 HN2 HT2 HL2
                clear hb hlb
                have hrel3 := rel_took HR.out (X.numBytes nn 4) (by rw [X.numBytes_length]; omega)
                have HR3 := Lib.hid hrel3
                have hxx := HX1.out.trans (runM_step _ _ r3 (numL 0 1 4) hyy)
                rw [show stepM (some (B, nn :: N, T)) (numL 0 1 4) = some (B ++ X.numBytes nn 4, N, T) from by simp only [stepM, numL]; rw [if_pos ⟨(hrg (by trivial)).1, hle⟩]; rfl] at hxx
                have HXX := Lib.hid hxx
                clear hrel3 hxx
                go_wp2
                go_roundg (S.size - (b + 1) + 1)
                case measure => omega
                case rel => exact ⟨(b + 1), r3, _, by omega, by omega, by go_num, by omega, HP3.out, HW3.out, HF3.out, ⟨HN3.out, HT3.out, _, _, _, _, _, _, HL3.out, HR3.out.more (by first | omega | (have := HBQ.out; omega))⟩, HB3.out, HXX.out⟩
              · have hn1 : 1 < nn := by omega
                have hnum := fun w h1 h2 => lnum_any B0 B0 q aN cN N0 (.slice aT T0.length cT) ix jx bb vO sz false true w h1 h2 hNl
                rw [hs] at hnum
                dsimp only at hnum
                have HNUM := Lib.hid hnum
                clear hnum hs
                go_wp2_with fail
                refine (HNUM.out _ HL0.out HN0.out).mono ?_
                rintro r0 w1 ⟨rfl, hb, hlb⟩
                have hbs1 : B0 ≤ wr.heap.size := by have := HL0.out.lt; omega
                have hbl1 : Below B0 wr w1 := hb
                have HB1 := Lib.hid (HB0.out.trans hbl1)
                have HN1 := Lib.hid (HN0.out.low hbl1)
                have HT1 := Lib.hid (HT0.out.low hbl1)
                have HL1 := Lib.hid (hlb)
                clear hbs1 hbl1 HB0 HN0 HT0 HL0
                clear hb hlb HNUM
                have g6 := HL1.out.cells.2.2.2.2.2.2
                have f6 := HL1.out.free 6
                have hset := HL1.out.set 6 (.bool true) (i' := (ix + 1)) (j' := jx) (sz' := sz) (bad' := true) (by simp) HL1.out.len
                have HSET := Lib.hid hset
                clear hset
                go_wp2_with fail
                have hset := HSET.out
                clear HSET g6 f6
                generalize w1.setCell ⟨q, 6, none⟩ (.bool true) = w2 at *
                have hbs2 : B0 ≤ w1.heap.size := by have := HL1.out.lt; omega
                have hbl2 : Below B0 w1 w2 := hset.2
                have HB2 := Lib.hid (HB1.out.trans hbl2)
                have HN2 := Lib.hid (HN1.out.low hbl2)
                have HT2 := Lib.hid (HT1.out.low hbl2)
                have HL2 := Lib.hid (hset.1)
                clear hbs2 hbl2 HB1 HN1 HT1 HL1
                clear hset
                refine (X.refUint_any nn _).mono ?_
                rintro r0 w3 ⟨rfl, hb⟩
                have hbs3 : B0 ≤ w2.heap.size := by have := HL2.out.lt; omega
                have hbl3 : Below B0 w2 w3 := hb.mono hbs3
                have HB3 := Lib.hid (HB2.out.trans hbl3)
                have HN3 := Lib.hid (HN2.out.low hbl3)
                have HT3 := Lib.hid (HT2.out.low hbl3)
                have HL3 := Lib.hid (HL2.out.news hb)
                clear hbs3 hbl3 HB2 HN2 HT2 HL2
                clear hb
                go_wp2_with fail
                refine (lputL_any B0 q _ _ (ix + 1) jx (bb) vO (sz) true (X.numBytes nn 4) _ HL3.out (by simp only [X.numBytes_length]; omega)).mono ?_
                rintro r0 w4 ⟨rfl, hb, vO4, hlb⟩
                have hbs4 : B0 ≤ w3.heap.size := by have := HL3.out.lt; omega
                have hbl4 : Below B0 w3 w4 := hb
                have HB4 := Lib.hid (HB3.out.trans hbl4)
                have HN4 := Lib.hid (HN3.out.low hbl4)
                have HT4 := Lib.hid (HT3.out.low hbl4)
                have HL4 := Lib.hid (hlb)
                clear hbs4 hbl4 HB3 HN3 HT3 HL3
                clear hb hlb
                have hrel3 := rel_bad HR.out (i' := (ix + 1)) (j' := jx) (b' := putB (bb) (sz) (X.numBytes nn 4)) (K' := K1 + 16) (X.numBytes nn 4).length (by rw [X.numBytes_length]; omega)
                have HR3 := Lib.hid hrel3
                have hxx := HX1.out.trans (runM_step _ _ r3 (numL 0 1 4) hyy)
                rw [show stepM (some (B, nn :: N, T)) (numL 0 1 4) = none from by simp only [stepM, numL]; rw [if_neg (by omega)]; rfl] at hxx
                have HXX := Lib.hid hxx
                clear hrel3 hxx
                go_wp2
                go_roundg (S.size - (b + 1) + 1)
                case measure => omega
                case rel => exact ⟨(b + 1), r3, _, by omega, by omega, by go_num, by omega, HP3.out, HW3.out, HF3.out, ⟨HN4.out, HT4.out, _, _, _, _, _, _, HL4.out, HR3.out.more (by first | omega | (have := HBQ.out; omega))⟩, HB4.out, HXX.out⟩
            · have hnum := fun w h1 h2 => lnum_any B0 B0 q aN cN N0 (.slice aT T0.length cT) ix jx bb vO sz bad true w h1 h2 hNl
              rw [hs] at hnum
              dsimp only at hnum
              have HNUM := Lib.hid hnum
              clear hnum hs
              go_wp2_with fail
              refine (HNUM.out _ HL0.out HN0.out).mono ?_
              rintro r0 w1 ⟨rfl, hb, hlb⟩
              have hbs1 : B0 ≤ wr.heap.size := by have := HL0.out.lt; omega
              have hbl1 : Below B0 wr w1 := hb
              have HB1 := Lib.hid (HB0.out.trans hbl1)
              have HN1 := Lib.hid (HN0.out.low hbl1)
              have HT1 := Lib.hid (HT0.out.low hbl1)
              have HL1 := Lib.hid (hlb)
              clear hbs1 hbl1 HB0 HN0 HT0 HL0
              clear hb hlb HNUM
              go_wp2_with fail
              refine (X.refUint_any 0 _).mono ?_
              rintro r0 w2 ⟨rfl, hb⟩
              have hbs2 : B0 ≤ w1.heap.size := by have := HL1.out.lt; omega
              have hbl2 : Below B0 w1 w2 := hb.mono hbs2
              have HB2 := Lib.hid (HB1.out.trans hbl2)
              have HN2 := Lib.hid (HN1.out.low hbl2)
              have HT2 := Lib.hid (HT1.out.low hbl2)
              have HL2 := Lib.hid (HL1.out.news hb)
              clear hbs2 hbl2 HB1 HN1 HT1 HL1
              clear hb
              go_wp2_with fail
              refine (lputL_any B0 q _ _ i2 jx (bb) vO (sz) true (X.numBytes 0 4) _ HL2.out (by simp only [X.numBytes_length]; omega)).mono ?_
              rintro r0 w3 ⟨rfl, hb, vO3, hlb⟩
              have hbs3 : B0 ≤ w2.heap.size := by have := HL2.out.lt; omega
              have hbl3 : Below B0 w2 w3 := hb
              have HB3 := Lib.hid (HB2.out.trans hbl3)
              have HN3 := Lib.hid (HN2.out.low hbl3)
              have HT3 := Lib.hid (HT2.out.low hbl3)
              have HL3 := Lib.hid (hlb)
              clear hbs3 hbl3 HB2 HN2 HT2 HL2
              clear hb hlb
              have hrel3 := rel_bad HR.out (i' := i2) (j' := jx) (b' := putB (bb) (sz) (X.numBytes 0 4)) (K' := K1 + 16) (X.numBytes 0 4).length (by rw [X.numBytes_length]; omega)
              have HR3 := Lib.hid hrel3
              have hxx := HX1.out.trans (runM_step _ _ r3 (numL 0 1 4) hyy)
              rw [show stepM m1 (numL 0 1 4) = none from hno.step (fun h => ⟨by omega, by omega⟩)] at hxx
              have HXX := Lib.hid hxx
              clear hrel3 hxx
              go_wp2
              go_roundg (S.size - (b + 1) + 1)
              case measure => omega
              case rel => exact ⟨(b + 1), r3, _, by omega, by omega, by go_num, by omega, HP3.out, HW3.out, HF3.out, ⟨HN3.out, HT3.out, _, _, _, _, _, _, HL3.out, HR3.out.more (by first | omega | (have := HBQ.out; omega))⟩, HB3.out, HXX.out⟩
        · as_aux_lemma =>
            obtain ⟨k, t2, r3, hnum, rfl, hp3⟩ := Pn_num rfl rfl HPC.out
            clear HPC hc
            obtain ⟨hd3, hb3a, hb3b⟩ := num6_drop hnum
            obtain ⟨b3, hb3⟩ : ∃ b3, b3 = F.length - t2.length := ⟨_, rfl⟩
            have hk5 : k ≤ 99999 := num5_leA ((num6_of hnum).1)
            have hyy : ∀ N T, ly none (.num 111 k r3) N T = andL (txtL 111 k N T) (ly none r3) := fun N T => rfl
            have HW3 := Lib.hid (show wf true r3 from HW2.out.2.2)
            have HF3 := Lib.hid (show fullR r3 from HF2.out)
            have HNU := Lib.hid hnum
            rw [← hb3] at hd3 hb3a hb3b
            have HP3 := Lib.hid (show Pn n (F.drop b3) = some (r3, t') by rw [hd3]; exact hp3)
            clear hnum hp3 hd3 HW2 HF2
            go_wp2_with fail
            refine (HDI.out (b + 1) wr (by omega)).mono ?_
            rintro r0 w0 ⟨rfl, hr0⟩
            rw [HNU.out] at hr0
            simp only at hr0
            subst hr0
            rw [← hb3]
            clear hb3 HNU
            rcases txt_cases HR.out with ⟨B, N, t, T, rfl, rfl, hs⟩ | ⟨hno, j2, hs⟩
            · by_cases hle : t.size ≤ k
              · have hq1 : ¬ ((k : Int) < (t.size : Int)) := by omega
                have hnum := fun w h1 h2 => ltxt_any B0 B0 q (.slice aN N0.length cN) aT cT T0 ix jx bb vO sz false w h1 h2 (Nat.le_refl _) hTl
                rw [hs] at hnum
                dsimp only at hnum
                have HNUM := Lib.hid hnum
                clear hnum hs
                go_wp2_with fail
                refine (HNUM.out _ HL0.out HT0.out).mono ?_
                rintro r0 w1 ⟨rfl, hb, hlb⟩
                have hbs1 : B0 ≤ wr.heap.size := by have := HL0.out.lt; omega
                have hbl1 : Below B0 wr w1 := hb
                have HB1 := Lib.hid (HB0.out.trans hbl1)
                have HN1 := Lib.hid (HN0.out.low hbl1)
                have HT1 := Lib.hid (HT0.out.low hbl1)
                have HL1 := Lib.hid (hlb)
                clear hbs1 hbl1 HB0 HN0 HT0 HL0
                clear hb hlb HNUM
                have hpd := X.pad_lt t.size
                go_wp2_with fail
                refine (X.refOpaque_any t _ (by omega)).mono ?_
                rintro r0 w2 ⟨rfl, hb⟩
                have hbs2 : B0 ≤ w1.heap.size := by have := HL1.out.lt; omega
                have hbl2 : Below B0 w1 w2 := hb.mono hbs2
                have HB2 := Lib.hid (HB1.out.trans hbl2)
                have HN2 := Lib.hid (HN1.out.low hbl2)
                have HT2 := Lib.hid (HT1.out.low hbl2)
                have HL2 := Lib.hid (HL1.out.news hb)
                clear hbs2 hbl2 HB1 HN1 HT1 HL1
                clear hb
                go_wp2_with fail
                refine (lputL_any B0 q _ _ ix (jx + 1) (bb) vO (sz) false (X.opaqueOf t) _ HL2.out (by simp only [X.opaqueOf_length]; omega)).mono ?_
                rintro r0 w3 ⟨rfl, hb, vO3, hlb⟩
                have hbs3 : B0 ≤ w2.heap.size := by have := HL2.out.lt; omega
                have hbl3 : Below B0 w2 w3 := hb
                have HB3 := Lib.hid (HB2.out.trans hbl3)
                have HN3 := Lib.hid (HN2.out.low hbl3)
                have HT3 := Lib.hid (HT2.out.low hbl3)
                have HL3 := Lib.hid (hlb)
                clear hbs3 hbl3 HB2 HN2 HT2 HL2
                clear hb hlb
                have hrel3 := rel_text HR.out (X.opaqueOf t) (by rw [X.opaqueOf_length]; omega)
                have HR3 := Lib.hid hrel3
                have hxx := HX1.out.trans (runM_step _ _ r3 (txtL 111 k) hyy)
                rw [show stepM (some (B, N, t :: T)) (txtL 111 k) = some (B ++ X.opaqueOf t, N, T) from by simp only [stepM, txtL]; rw [if_pos trivial, if_pos hle]; rfl] at hxx
                have HXX := Lib.hid hxx
                clear hrel3 hxx
                go_wp2
                go_roundg (S.size - b3 + 1)
                case measure => omega
                case rel => exact ⟨b3, r3, _, by omega, by omega, by go_num, by omega, HP3.out, HW3.out, HF3.out, ⟨HN3.out, HT3.out, _, _, _, _, _, _, HL3.out, HR3.out.more (by first | omega | (have := HBQ.out; omega))⟩, HB3.out, HXX.out⟩
              · have hq1 : (k : Int) < (t.size : Int) := by omega
                have hnum := fun w h1 h2 => ltxt_any B0 B0 q (.slice aN N0.length cN) aT cT T0 ix jx bb vO sz false w h1 h2 (Nat.le_refl _) hTl
                rw [hs] at hnum
                dsimp only at hnum
                have HNUM := Lib.hid hnum
                clear hnum hs
                go_wp2_with fail
                refine (HNUM.out _ HL0.out HT0.out).mono ?_
                rintro r0 w1 ⟨rfl, hb, hlb⟩
                have hbs1 : B0 ≤ wr.heap.size := by have := HL0.out.lt; omega
                have hbl1 : Below B0 wr w1 := hb
                have HB1 := Lib.hid (HB0.out.trans hbl1)
                have HN1 := Lib.hid (HN0.out.low hbl1)
                have HT1 := Lib.hid (HT0.out.low hbl1)
                have HL1 := Lib.hid (hlb)
                clear hbs1 hbl1 HB0 HN0 HT0 HL0
                clear hb hlb HNUM
                have g6 := HL1.out.cells.2.2.2.2.2.2
                have f6 := HL1.out.free 6
                have hset := HL1.out.set 6 (.bool true) (i' := ix) (j' := (jx + 1)) (sz' := sz) (bad' := true) (by simp) HL1.out.len
                have HSET := Lib.hid hset
                clear hset
                go_wp2_with fail
                have hset := HSET.out
                clear HSET g6 f6
                generalize w1.setCell ⟨q, 6, none⟩ (.bool true) = w2 at *
                have hbs2 : B0 ≤ w1.heap.size := by have := HL1.out.lt; omega
                have hbl2 : Below B0 w1 w2 := hset.2
                have HB2 := Lib.hid (HB1.out.trans hbl2)
                have HN2 := Lib.hid (HN1.out.low hbl2)
                have HT2 := Lib.hid (HT1.out.low hbl2)
                have HL2 := Lib.hid (hset.1)
                clear hbs2 hbl2 HB1 HN1 HT1 HL1
                clear hset
                have hrel3 := rel_bad HR.out (i' := ix) (j' := jx + 1) (b' := bb) (K' := K1 + 16) 0 (by omega)
                have HR3 := Lib.hid hrel3
                have hxx := HX1.out.trans (runM_step _ _ r3 (txtL 111 k) hyy)
                rw [show stepM (some (B, N, t :: T)) (txtL 111 k) = none from by simp only [stepM, txtL]; rw [if_pos trivial, if_neg hle]; rfl] at hxx
                have HXX := Lib.hid hxx
                clear hrel3 hxx
                go_roundg (S.size - b3 + 1)
                case measure => omega
                case rel => exact ⟨b3, r3, _, by omega, by omega, by go_num, by omega, HP3.out, HW3.out, HF3.out, ⟨HN2.out, HT2.out, _, _, _, _, _, _, HL2.out, HR3.out.more (by omega)⟩, HB2.out, HXX.out⟩
            · have hk0 : ¬ ((k : Int) < 0) := by omega
              have hz0 : (⟨#[]⟩ : ByteArray).size = 0 := rfl
              have hnum := fun w h1 h2 => ltxt_any B0 B0 q (.slice aN N0.length cN) aT cT T0 ix jx bb vO sz bad w h1 h2 (Nat.le_refl _) hTl
              rw [hs] at hnum
              dsimp only at hnum
              have HNUM := Lib.hid hnum
              clear hnum hs
              go_wp2_with fail
              refine (HNUM.out _ HL0.out HT0.out).mono ?_
              rintro r0 w1 ⟨rfl, hb, hlb⟩
              have hbs1 : B0 ≤ wr.heap.size := by have := HL0.out.lt; omega
              have hbl1 : Below B0 wr w1 := hb
              have HB1 := Lib.hid (HB0.out.trans hbl1)
              have HN1 := Lib.hid (HN0.out.low hbl1)
              have HT1 := Lib.hid (HT0.out.low hbl1)
              have HL1 := Lib.hid (hlb)
              clear hbs1 hbl1 HB0 HN0 HT0 HL0
              clear hb hlb HNUM
              go_wp2_with fail
              refine (X.refOpaque_any ⟨#[]⟩ _ (by decide)).mono ?_
              rintro r0 w2 ⟨rfl, hb⟩
              have hbs2 : B0 ≤ w1.heap.size := by have := HL1.out.lt; omega
              have hbl2 : Below B0 w1 w2 := hb.mono hbs2
              have HB2 := Lib.hid (HB1.out.trans hbl2)
              have HN2 := Lib.hid (HN1.out.low hbl2)
              have HT2 := Lib.hid (HT1.out.low hbl2)
              have HL2 := Lib.hid (HL1.out.news hb)
              clear hbs2 hbl2 HB1 HN1 HT1 HL1
              clear hb
              have hle0 : (X.opaqueOf ⟨#[]⟩).length ≤ 4 := by decide
              go_wp2_with fail
              refine (lputL_any B0 q _ _ ix j2 bb vO sz true (X.opaqueOf ⟨#[]⟩) _ HL2.out (by omega)).mono ?_
              rintro r0 w3 ⟨rfl, hb, vO3, hlb⟩
              have hbs3 : B0 ≤ w2.heap.size := by have := HL2.out.lt; omega
              have hbl3 : Below B0 w2 w3 := hb
              have HB3 := Lib.hid (HB2.out.trans hbl3)
              have HN3 := Lib.hid (HN2.out.low hbl3)
              have HT3 := Lib.hid (HT2.out.low hbl3)
              have HL3 := Lib.hid (hlb)
              clear hbs3 hbl3 HB2 HN2 HT2 HL2
              clear hb hlb
              have hrel3 := rel_bad HR.out (i' := ix) (j' := j2) (b' := putB (bb) (sz) (X.opaqueOf ⟨#[]⟩)) (K' := K1 + 16) (X.opaqueOf ⟨#[]⟩).length (by omega)
              have HR3 := Lib.hid hrel3
              have hxx := HX1.out.trans (runM_step _ _ r3 (txtL 111 k) hyy)
              rw [show stepM m1 (txtL 111 k) = none from no_txt hno 111 k] at hxx
              have HXX := Lib.hid hxx
              clear hrel3 hxx
              go_wp2
              go_roundg (S.size - b3 + 1)
              case measure => omega
              case rel => exact ⟨b3, r3, _, by omega, by omega, by go_num, by omega, HP3.out, HW3.out, HF3.out, ⟨HN3.out, HT3.out, _, _, _, _, _, _, HL3.out, HR3.out.more (by first | omega | (have := HBQ.out; omega))⟩, HB3.out, HXX.out⟩
        · as_aux_lemma =>
            obtain ⟨k, t2, r3, hnum, rfl, hp3⟩ := Pn_num rfl rfl HPC.out
            clear HPC hc
            obtain ⟨hd3, hb3a, hb3b⟩ := num6_drop hnum
            obtain ⟨b3, hb3⟩ : ∃ b3, b3 = F.length - t2.length := ⟨_, rfl⟩
            have hk5 : k ≤ 99999 := num5_leA ((num6_of hnum).1)
            have hyy : ∀ N T, ly none (.num 102 k r3) N T = andL (txtL 102 k N T) (ly none r3) := fun N T => rfl
            have HW3 := Lib.hid (show wf true r3 from HW2.out.2.2)
            have HF3 := Lib.hid (show fullR r3 from HF2.out)
            have HNU := Lib.hid hnum
            rw [← hb3] at hd3 hb3a hb3b
            have HP3 := Lib.hid (show Pn n (F.drop b3) = some (r3, t') by rw [hd3]; exact hp3)
            clear hnum hp3 hd3 HW2 HF2
            go_wp2_with fail
            refine (HDI.out (b + 1) wr (by omega)).mono ?_
            rintro r0 w0 ⟨rfl, hr0⟩
            rw [HNU.out] at hr0
            simp only at hr0
            subst hr0
            rw [← hb3]
            clear hb3 HNU
            rcases txt_cases HR.out with ⟨B, N, t, T, rfl, rfl, hs⟩ | ⟨hno, j2, hs⟩
            · by_cases hle : t.size = k
              · have hq1 : ¬ ((k : Int) < (t.size : Int)) := by omega
                have hq2 : ((t.size : Int) != (k : Int)) = false := by rw [bne_eq_false_iff_eq]; omega
                have hnum := fun w h1 h2 => ltxt_any B0 B0 q (.slice aN N0.length cN) aT cT T0 ix jx bb vO sz false w h1 h2 (Nat.le_refl _) hTl
                rw [hs] at hnum
                dsimp only at hnum
                have HNUM := Lib.hid hnum
                clear hnum hs
                go_wp2_with fail
                refine (HNUM.out _ HL0.out HT0.out).mono ?_
                rintro r0 w1 ⟨rfl, hb, hlb⟩
                have hbs1 : B0 ≤ wr.heap.size := by have := HL0.out.lt; omega
                have hbl1 : Below B0 wr w1 := hb
                have HB1 := Lib.hid (HB0.out.trans hbl1)
                have HN1 := Lib.hid (HN0.out.low hbl1)
                have HT1 := Lib.hid (HT0.out.low hbl1)
                have HL1 := Lib.hid (hlb)
                clear hbs1 hbl1 HB0 HN0 HT0 HL0
                clear hb hlb HNUM
                have hpd := X.pad_lt t.size
                go_wp2_with fail
                refine (X.refFixed_any t _ (by omega)).mono ?_
                rintro r0 w2 ⟨rfl, hb⟩
                have hbs2 : B0 ≤ w1.heap.size := by have := HL1.out.lt; omega
                have hbl2 : Below B0 w1 w2 := hb.mono hbs2
                have HB2 := Lib.hid (HB1.out.trans hbl2)
                have HN2 := Lib.hid (HN1.out.low hbl2)
                have HT2 := Lib.hid (HT1.out.low hbl2)
                have HL2 := Lib.hid (HL1.out.news hb)
                clear hbs2 hbl2 HB1 HN1 HT1 HL1
                clear hb
                go_wp2_with fail
                refine (lputL_any B0 q _ _ ix (jx + 1) (bb) vO (sz) false (X.fixedOf t) _ HL2.out (by simp only [X.fixedOf_length]; omega)).mono ?_
                rintro r0 w3 ⟨rfl, hb, vO3, hlb⟩
                have hbs3 : B0 ≤ w2.heap.size := by have := HL2.out.lt; omega
                have hbl3 : Below B0 w2 w3 := hb
                have HB3 := Lib.hid (HB2.out.trans hbl3)
                have HN3 := Lib.hid (HN2.out.low hbl3)
                have HT3 := Lib.hid (HT2.out.low hbl3)
                have HL3 := Lib.hid (hlb)
                clear hbs3 hbl3 HB2 HN2 HT2 HL2
                clear hb hlb
                have hrel3 := rel_text HR.out (X.fixedOf t) (by rw [X.fixedOf_length]; omega)
                have HR3 := Lib.hid hrel3
                have hxx := HX1.out.trans (runM_step _ _ r3 (txtL 102 k) hyy)
                rw [show stepM (some (B, N, t :: T)) (txtL 102 k) = some (B ++ X.fixedOf t, N, T) from by simp only [stepM, txtL]; rw [if_neg (by decide), if_pos hle]; rfl] at hxx
                have HXX := Lib.hid hxx
                clear hrel3 hxx
                go_wp2
                go_roundg (S.size - b3 + 1)
                case measure => omega
                case rel => exact ⟨b3, r3, _, by omega, by omega, by go_num, by omega, HP3.out, HW3.out, HF3.out, ⟨HN3.out, HT3.out, _, _, _, _, _, _, HL3.out, HR3.out.more (by first | omega | (have := HBQ.out; omega))⟩, HB3.out, HXX.out⟩
              · by_cases hgt : k < t.size
                · have hq1 : (k : Int) < (t.size : Int) := by omega
                  have hnum := fun w h1 h2 => ltxt_any B0 B0 q (.slice aN N0.length cN) aT cT T0 ix jx bb vO sz false w h1 h2 (Nat.le_refl _) hTl
                  rw [hs] at hnum
                  dsimp only at hnum
                  have HNUM := Lib.hid hnum
                  clear hnum hs
                  go_wp2_with fail
                  refine (HNUM.out _ HL0.out HT0.out).mono ?_
                  rintro r0 w1 ⟨rfl, hb, hlb⟩
                  have hbs1 : B0 ≤ wr.heap.size := by have := HL0.out.lt; omega
                  have hbl1 : Below B0 wr w1 := hb
                  have HB1 := Lib.hid (HB0.out.trans hbl1)
                  have HN1 := Lib.hid (HN0.out.low hbl1)
                  have HT1 := Lib.hid (HT0.out.low hbl1)
                  have HL1 := Lib.hid (hlb)
                  clear hbs1 hbl1 HB0 HN0 HT0 HL0
                  clear hb hlb HNUM
                  have g6 := HL1.out.cells.2.2.2.2.2.2
                  have f6 := HL1.out.free 6
                  have hset := HL1.out.set 6 (.bool true) (i' := ix) (j' := (jx + 1)) (sz' := sz) (bad' := true) (by simp) HL1.out.len
                  have HSET := Lib.hid hset
                  clear hset
                  go_wp2_with fail
                  have hset := HSET.out
                  clear HSET g6 f6
                  generalize w1.setCell ⟨q, 6, none⟩ (.bool true) = w2 at *
                  have hbs2 : B0 ≤ w1.heap.size := by have := HL1.out.lt; omega
                  have hbl2 : Below B0 w1 w2 := hset.2
                  have HB2 := Lib.hid (HB1.out.trans hbl2)
                  have HN2 := Lib.hid (HN1.out.low hbl2)
                  have HT2 := Lib.hid (HT1.out.low hbl2)
                  have HL2 := Lib.hid (hset.1)
                  clear hbs2 hbl2 HB1 HN1 HT1 HL1
                  clear hset
                  have hrel3 := rel_bad HR.out (i' := ix) (j' := jx + 1) (b' := bb) (K' := K1 + 16) 0 (by omega)
                  have HR3 := Lib.hid hrel3
                  have hxx := HX1.out.trans (runM_step _ _ r3 (txtL 102 k) hyy)
                  rw [show stepM (some (B, N, t :: T)) (txtL 102 k) = none from by simp only [stepM, txtL]; rw [if_neg (by decide), if_neg hle]; rfl] at hxx
                  have HXX := Lib.hid hxx
                  clear hrel3 hxx
                  go_roundg (S.size - b3 + 1)
                  case measure => omega
                  case rel => exact ⟨b3, r3, _, by omega, by omega, by go_num, by omega, HP3.out, HW3.out, HF3.out, ⟨HN2.out, HT2.out, _, _, _, _, _, _, HL2.out, HR3.out.more (by omega)⟩, HB2.out, HXX.out⟩
                · have hq1 : ¬ ((k : Int) < (t.size : Int)) := by omega
                  have hq2 : ((t.size : Int) != (k : Int)) = true := by rw [bne_iff_ne]; omega
                  have hnum := fun w h1 h2 => ltxt_any B0 B0 q (.slice aN N0.length cN) aT cT T0 ix jx bb vO sz false w h1 h2 (Nat.le_refl _) hTl
                  rw [hs] at hnum
                  dsimp only at hnum
                  have HNUM := Lib.hid hnum
                  clear hnum hs
                  go_wp2_with fail
                  refine (HNUM.out _ HL0.out HT0.out).mono ?_
                  rintro r0 w1 ⟨rfl, hb, hlb⟩
                  have hbs1 : B0 ≤ wr.heap.size := by have := HL0.out.lt; omega
                  have hbl1 : Below B0 wr w1 := hb
                  have HB1 := Lib.hid (HB0.out.trans hbl1)
                  have HN1 := Lib.hid (HN0.out.low hbl1)
                  have HT1 := Lib.hid (HT0.out.low hbl1)
                  have HL1 := Lib.hid (hlb)
                  clear hbs1 hbl1 HB0 HN0 HT0 HL0
                  clear hb hlb HNUM
                  have g6 := HL1.out.cells.2.2.2.2.2.2
                  have f6 := HL1.out.free 6
                  have hset := HL1.out.set 6 (.bool true) (i' := ix) (j' := (jx + 1)) (sz' := sz) (bad' := true) (by simp) HL1.out.len
                  have HSET := Lib.hid hset
                  clear hset
                  go_wp2_with fail
                  have hset := HSET.out
                  clear HSET g6 f6
                  generalize w1.setCell ⟨q, 6, none⟩ (.bool true) = w2 at *
                  have hbs2 : B0 ≤ w1.heap.size := by have := HL1.out.lt; omega
                  have hbl2 : Below B0 w1 w2 := hset.2
                  have HB2 := Lib.hid (HB1.out.trans hbl2)
                  have HN2 := Lib.hid (HN1.out.low hbl2)
                  have HT2 := Lib.hid (HT1.out.low hbl2)
                  have HL2 := Lib.hid (hset.1)
                  clear hbs2 hbl2 HB1 HN1 HT1 HL1
                  clear hset
                  have hrel3 := rel_bad HR.out (i' := ix) (j' := jx + 1) (b' := bb) (K' := K1 + 16) 0 (by omega)
                  have HR3 := Lib.hid hrel3
                  have hxx := HX1.out.trans (runM_step _ _ r3 (txtL 102 k) hyy)
                  rw [show stepM (some (B, N, t :: T)) (txtL 102 k) = none from by simp only [stepM, txtL]; rw [if_neg (by decide), if_neg hle]; rfl] at hxx
                  have HXX := Lib.hid hxx
                  clear hrel3 hxx
                  go_roundg (S.size - b3 + 1)
                  case measure => omega
                  case rel => exact ⟨b3, r3, _, by omega, by omega, by go_num, by omega, HP3.out, HW3.out, HF3.out, ⟨HN2.out, HT2.out, _, _, _, _, _, _, HL2.out, HR3.out.more (by omega)⟩, HB2.out, HXX.out⟩
            · by_cases hkz : k = 0
              · have hk0 : ¬ ((k : Int) < 0) := by omega
                have hz0 : (⟨#[]⟩ : ByteArray).size = 0 := rfl
                have hq2 : ((0 : Int) != (k : Int)) = false := by rw [bne_eq_false_iff_eq]; omega
                have hnum := fun w h1 h2 => ltxt_any B0 B0 q (.slice aN N0.length cN) aT cT T0 ix jx bb vO sz bad w h1 h2 (Nat.le_refl _) hTl
                rw [hs] at hnum
                dsimp only at hnum
                have HNUM := Lib.hid hnum
                clear hnum hs
                go_wp2_with fail
                refine (HNUM.out _ HL0.out HT0.out).mono ?_
                rintro r0 w1 ⟨rfl, hb, hlb⟩
                have hbs1 : B0 ≤ wr.heap.size := by have := HL0.out.lt; omega
                have hbl1 : Below B0 wr w1 := hb
                have HB1 := Lib.hid (HB0.out.trans hbl1)
                have HN1 := Lib.hid (HN0.out.low hbl1)
                have HT1 := Lib.hid (HT0.out.low hbl1)
                have HL1 := Lib.hid (hlb)
                clear hbs1 hbl1 HB0 HN0 HT0 HL0
                clear hb hlb HNUM
                go_wp2_with fail
                refine (X.refFixed_any ⟨#[]⟩ _ (by decide)).mono ?_
                rintro r0 w2 ⟨rfl, hb⟩
                have hbs2 : B0 ≤ w1.heap.size := by have := HL1.out.lt; omega
                have hbl2 : Below B0 w1 w2 := hb.mono hbs2
                have HB2 := Lib.hid (HB1.out.trans hbl2)
                have HN2 := Lib.hid (HN1.out.low hbl2)
                have HT2 := Lib.hid (HT1.out.low hbl2)
                have HL2 := Lib.hid (HL1.out.news hb)
                clear hbs2 hbl2 HB1 HN1 HT1 HL1
                clear hb
                have hle0 : (X.fixedOf ⟨#[]⟩).length ≤ 4 := by decide
                go_wp2_with fail
                refine (lputL_any B0 q _ _ ix j2 bb vO sz true (X.fixedOf ⟨#[]⟩) _ HL2.out (by omega)).mono ?_
                rintro r0 w3 ⟨rfl, hb, vO3, hlb⟩
                have hbs3 : B0 ≤ w2.heap.size := by have := HL2.out.lt; omega
                have hbl3 : Below B0 w2 w3 := hb
                have HB3 := Lib.hid (HB2.out.trans hbl3)
                have HN3 := Lib.hid (HN2.out.low hbl3)
                have HT3 := Lib.hid (HT2.out.low hbl3)
                have HL3 := Lib.hid (hlb)
                clear hbs3 hbl3 HB2 HN2 HT2 HL2
                clear hb hlb
                have hrel3 := rel_bad HR.out (i' := ix) (j' := j2) (b' := putB (bb) (sz) (X.fixedOf ⟨#[]⟩)) (K' := K1 + 16) (X.fixedOf ⟨#[]⟩).length (by omega)
                have HR3 := Lib.hid hrel3
                have hxx := HX1.out.trans (runM_step _ _ r3 (txtL 102 k) hyy)
                rw [show stepM m1 (txtL 102 k) = none from no_txt hno 102 k] at hxx
                have HXX := Lib.hid hxx
                clear hrel3 hxx
                go_wp2
                go_roundg (S.size - b3 + 1)
                case measure => omega
                case rel => exact ⟨b3, r3, _, by omega, by omega, by go_num, by omega, HP3.out, HW3.out, HF3.out, ⟨HN3.out, HT3.out, _, _, _, _, _, _, HL3.out, HR3.out.more (by first | omega | (have := HBQ.out; omega))⟩, HB3.out, HXX.out⟩
              · have hk0 : ¬ ((k : Int) < 0) := by omega
                have hz0 : (⟨#[]⟩ : ByteArray).size = 0 := rfl
                have hq2 : ((0 : Int) != (k : Int)) = true := by rw [bne_iff_ne]; omega
                have hnum := fun w h1 h2 => ltxt_any B0 B0 q (.slice aN N0.length cN) aT cT T0 ix jx bb vO sz bad w h1 h2 (Nat.le_refl _) hTl
                rw [hs] at hnum
                dsimp only at hnum
                have HNUM := Lib.hid hnum
                clear hnum hs
                go_wp2_with fail
                refine (HNUM.out _ HL0.out HT0.out).mono ?_
                rintro r0 w1 ⟨rfl, hb, hlb⟩
                have hbs1 : B0 ≤ wr.heap.size := by have := HL0.out.lt; omega
                have hbl1 : Below B0 wr w1 := hb
                have HB1 := Lib.hid (HB0.out.trans hbl1)
                have HN1 := Lib.hid (HN0.out.low hbl1)
                have HT1 := Lib.hid (HT0.out.low hbl1)
                have HL1 := Lib.hid (hlb)
                clear hbs1 hbl1 HB0 HN0 HT0 HL0
                clear hb hlb HNUM
                have g6 := HL1.out.cells.2.2.2.2.2.2
                have f6 := HL1.out.free 6
                have hset := HL1.out.set 6 (.bool true) (i' := ix) (j' := j2) (sz' := sz) (bad' := true) (by simp) HL1.out.len
                have HSET := Lib.hid hset
                clear hset
                go_wp2_with fail
                have hset := HSET.out
                clear HSET g6 f6
                generalize w1.setCell ⟨q, 6, none⟩ (.bool true) = w2 at *
                have hbs2 : B0 ≤ w1.heap.size := by have := HL1.out.lt; omega
                have hbl2 : Below B0 w1 w2 := hset.2
                have HB2 := Lib.hid (HB1.out.trans hbl2)
                have HN2 := Lib.hid (HN1.out.low hbl2)
                have HT2 := Lib.hid (HT1.out.low hbl2)
                have HL2 := Lib.hid (hset.1)
                clear hbs2 hbl2 HB1 HN1 HT1 HL1
                clear hset
                have hrel3 := rel_bad HR.out (i' := ix) (j' := j2) (b' := bb) (K' := K1 + 16) 0 (by omega)
                have HR3 := Lib.hid hrel3
                have hxx := HX1.out.trans (runM_step _ _ r3 (txtL 102 k) hyy)
                rw [show stepM m1 (txtL 102 k) = none from no_txt hno 102 k] at hxx
                have HXX := Lib.hid hxx
                clear hrel3 hxx
                go_roundg (S.size - b3 + 1)
                case measure => omega
                case rel => exact ⟨b3, r3, _, by omega, by omega, by go_num, by omega, HP3.out, HW3.out, HF3.out, ⟨HN2.out, HT2.out, _, _, _, _, _, _, HL2.out, HR3.out.more (by omega)⟩, HB2.out, HXX.out⟩
        · as_aux_lemma =>
            obtain ⟨t2, rI, t3, r3, ht1, hn16, hpi, rfl, hp3, hlt3⟩ := Pn_opt rfl rfl rfl HPC.out
            clear HPC hc
            have hb1F : b + 1 < F.length := by
              have h := congrArg List.length ht1
              rw [List.length_drop, List.length_cons] at h
              omega
            have hd2 : F.drop (b + 2) = t2 := by
              rw [drop_at hb1F] at ht1
              exact (List.cons.inj ht1).2
            have he1 := ends_drop ((Pn_ends hpi).trans (by rw [← hd2]; exact List.drop_suffix _ _) : (41 :: t3) <:+ F)
            have hl2 : t2.length = F.length - (b + 2) := by rw [← hd2, List.length_drop]
            have hle3 : t3.length + 1 ≤ t2.length := by omega
            obtain ⟨bq, hbq⟩ : ∃ bq, bq = F.length - (41 :: t3).length := ⟨_, rfl⟩
            rw [← hbq] at he1
            have hbq2 : bq + t3.length + 1 = F.length := by rw [hbq, List.length_cons]; omega
            have hbqF : bq < F.length := by omega
            have hd3 : F.drop (bq + 1) = t3 := by
              rw [drop_at hbqF] at he1
              exact (List.cons.inj he1).2
            have hski := Pn_skip hpi
            have HSKI := Lib.hid hski
            have HPI := Lib.hid hpi
            have HD2 := Lib.hid hd2
            have HBQ := Lib.hid hbq
            clear ht1 he1 hski hpi hd2 hbq
            have HW3 := Lib.hid (show wf true r3 from HW2.out.2.2)
            have HF3 := Lib.hid (show fullR r3 from HF2.out.2.2)
            have HWI := Lib.hid (show wf true rI from HW2.out.2.1)
            have HFI := Lib.hid (show fullR rI from HF2.out.2.1)
            have HEM := Lib.hid (show (63 : UInt8) ≠ 63 → rI.empty = false from HF2.out.1)
            have HP3 := Lib.hid (show Pn n (F.drop (bq + 1)) = some (r3, t') by rw [hd3]; exact hp3)
            clear hp3 hd3 HW2 HF2
            have hyy : ∀ N T, ly none (.opt 63 rI r3) N T = andL (maybeL (ly none rI) N T) (ly none r3) := fun N T => rfl
            rcases num_cases true HR.out with ⟨B, nn, N, T, rfl, rfl, hrg, hs⟩ | ⟨hno, i2, hs⟩
            · by_cases hn0 : nn = 0
              · subst hn0
                have hnum := fun w h1 h2 => lnum_any B0 B0 q aN cN N0 (.slice aT T0.length cT) ix jx bb vO sz false true w h1 h2 hNl
                rw [hs] at hnum
                dsimp only at hnum
                have HNUM := Lib.hid hnum
                clear hnum hs
                go_wp2_with fail
                refine (HNUM.out _ HL0.out HN0.out).mono ?_
                rintro r0 w1 ⟨rfl, hb, hlb⟩
                have hbs1 : B0 ≤ wr.heap.size := by have := HL0.out.lt; omega
                have hbl1 : Below B0 wr w1 := hb
                have HB1 := Lib.hid (HB0.out.trans hbl1)
                have HN1 := Lib.hid (HN0.out.low hbl1)
                have HT1 := Lib.hid (HT0.out.low hbl1)
                have HL1 := Lib.hid (hlb)
                clear hbs1 hbl1 HB0 HN0 HT0 HL0
                clear hb hlb HNUM
                go_wp2_with fail
                refine (X.refUint_any 0 _).mono ?_
                rintro r0 w2 ⟨rfl, hb⟩
                have hbs2 : B0 ≤ w1.heap.size := by have := HL1.out.lt; omega
                have hbl2 : Below B0 w1 w2 := hb.mono hbs2
                have HB2 := Lib.hid (HB1.out.trans hbl2)
                have HN2 := Lib.hid (HN1.out.low hbl2)
                have HT2 := Lib.hid (HT1.out.low hbl2)
                have HL2 := Lib.hid (HL1.out.news hb)
                clear hbs2 hbl2 HB1 HN1 HT1 HL1
                clear hb
                go_wp2_with fail
                refine (lputL_any B0 q _ _ (ix + 1) jx (bb) vO (sz) false (X.numBytes 0 4) _ HL2.out (by simp only [X.numBytes_length]; omega)).mono ?_
                rintro r0 w3 ⟨rfl, hb, vO3, hlb⟩
                have hbs3 : B0 ≤ w2.heap.size := by have := HL2.out.lt; omega
                have hbl3 : Below B0 w2 w3 := hb
                have HB3 := Lib.hid (HB2.out.trans hbl3)
                have HN3 := Lib.hid (HN2.out.low hbl3)
                have HT3 := Lib.hid (HT2.out.low hbl3)
                have HL3 := Lib.hid (hlb)
                clear hbs3 hbl3 HB2 HN2 HT2 HL2
                clear hb hlb
                go_wp2_with fail
                refine (HSKC.out (b + 2) _ (by omega)).mono ?_
                rintro r0 w4 ⟨rfl, hb⟩
                rw [HD2.out, HSKI.out]
                simp only [pl]
                rw [← HBQ.out]
                have hbs4 : B0 ≤ w3.heap.size := by have := HL3.out.lt; omega
                have hbl4 : Below B0 w3 w4 := hb.mono hbs4
                have HB4 := Lib.hid (HB3.out.trans hbl4)
                have HN4 := Lib.hid (HN3.out.low hbl4)
                have HT4 := Lib.hid (HT3.out.low hbl4)
                have HL4 := Lib.hid (HL3.out.news hb)
                clear hbs4 hbl4 HB3 HN3 HT3 HL3
                clear hb
                have hrel3 := rel_took HR.out (X.numBytes 0 4) (by rw [X.numBytes_length]; omega)
                have HR3 := Lib.hid hrel3
                have hxx := HX1.out.trans (runM_step _ _ r3 (maybeL (ly none rI)) hyy)
                rw [show stepM (some (B, 0 :: N, T)) (maybeL (ly none rI)) = some (B ++ X.numBytes 0 4, N, T) from by simp [stepM, maybeL, numL, andL, preL, resM, xy_num]] at hxx
                have HXX := Lib.hid hxx
                clear hrel3 hxx
                go_wp2
                go_roundg (S.size - (bq + 1) + 1)
                case measure => omega
                case rel => exact ⟨(bq + 1), r3, _, by omega, by omega, by go_num, by omega, HP3.out, HW3.out, HF3.out, ⟨HN4.out, HT4.out, _, _, _, _, _, _, HL4.out, HR3.out.more (by first | omega | (have := HBQ.out; omega))⟩, HB4.out, HXX.out⟩
              · by_cases hn1 : nn = 1
                · subst hn1
                  have hnum := fun w h1 h2 => lnum_any B0 B0 q aN cN N0 (.slice aT T0.length cT) ix jx bb vO sz false true w h1 h2 hNl
                  rw [hs] at hnum
                  dsimp only at hnum
                  have HNUM := Lib.hid hnum
                  clear hnum hs
                  go_wp2_with fail
                  refine (HNUM.out _ HL0.out HN0.out).mono ?_
                  rintro r0 w1 ⟨rfl, hb, hlb⟩
                  have hbs1 : B0 ≤ wr.heap.size := by have := HL0.out.lt; omega
                  have hbl1 : Below B0 wr w1 := hb
                  have HB1 := Lib.hid (HB0.out.trans hbl1)
                  have HN1 := Lib.hid (HN0.out.low hbl1)
                  have HT1 := Lib.hid (HT0.out.low hbl1)
                  have HL1 := Lib.hid (hlb)
                  clear hbs1 hbl1 HB0 HN0 HT0 HL0
                  clear hb hlb HNUM
                  go_wp2_with fail
                  refine (X.refUint_any 1 _).mono ?_
                  rintro r0 w2 ⟨rfl, hb⟩
                  have hbs2 : B0 ≤ w1.heap.size := by have := HL1.out.lt; omega
                  have hbl2 : Below B0 w1 w2 := hb.mono hbs2
                  have HB2 := Lib.hid (HB1.out.trans hbl2)
                  have HN2 := Lib.hid (HN1.out.low hbl2)
                  have HT2 := Lib.hid (HT1.out.low hbl2)
                  have HL2 := Lib.hid (HL1.out.news hb)
                  clear hbs2 hbl2 HB1 HN1 HT1 HL1
                  clear hb
                  go_wp2_with fail
                  refine (lputL_any B0 q _ _ (ix + 1) jx (bb) vO (sz) false (X.numBytes 1 4) _ HL2.out (by simp only [X.numBytes_length]; omega)).mono ?_
                  rintro r0 w3 ⟨rfl, hb, vO3, hlb⟩
                  have hbs3 : B0 ≤ w2.heap.size := by have := HL2.out.lt; omega
                  have hbl3 : Below B0 w2 w3 := hb
                  have HB3 := Lib.hid (HB2.out.trans hbl3)
                  have HN3 := Lib.hid (HN2.out.low hbl3)
                  have HT3 := Lib.hid (HT2.out.low hbl3)
                  have HL3 := Lib.hid (hlb)
                  clear hbs3 hbl3 HB2 HN2 HT2 HL2
                  clear hb hlb
                  have g6 := HL3.out.cells.2.2.2.2.2.2
                  have hst2 : ST B0 q aN cN N0 aT cT T0 (K1) (some (B ++ X.numBytes 1 4, N, T)) w3 := ⟨HN3.out, HT3.out, _, _, _, _, _, _, HL3.out, rel_took HR.out (X.numBytes 1 4) (by rw [X.numBytes_length]; omega)⟩
                  have HST2 := Lib.hid hst2
                  clear hst2
                  go_wp2_with fail
                  refine (HIH.out (n + 1) (b + 2) rI (41 :: t3) (by omega) (by omega) (by rw [HD2.out]; exact HPI.out) (HWI.out) (HFI.out) (K1) (some (B ++ X.numBytes 1 4, N, T)) _ HST2.out (by omega)).mono ?_
                  rintro r0 w4 ⟨rfl, hb, hst3⟩
                  obtain ⟨hin, hit, i4, j4, b4, vO4, sz4, bad4, hlb, hrl⟩ := hst3
                  have HB4 := Lib.hid (HB3.out.trans hb)
                  have HN4 := Lib.hid hin
                  have HT4 := Lib.hid hit
                  have HL4 := Lib.hid hlb
                  have HR4 := Lib.hid hrl
                  clear hb hin hit hlb hrl HB3 HN3 HT3 HL3 HST2 g6
                  go_wp2_with fail
                  refine (HSKC.out (b + 2) _ (by omega)).mono ?_
                  rintro r0 w5 ⟨rfl, hb⟩
                  rw [HD2.out, HSKI.out]
                  simp only [pl]
                  rw [← HBQ.out]
                  have hbs5 : B0 ≤ w4.heap.size := by have := HL4.out.lt; omega
                  have hbl5 : Below B0 w4 w5 := hb.mono hbs5
                  have HB5 := Lib.hid (HB4.out.trans hbl5)
                  have HN5 := Lib.hid (HN4.out.low hbl5)
                  have HT5 := Lib.hid (HT4.out.low hbl5)
                  have HL5 := Lib.hid (HL4.out.news hb)
                  clear hbs5 hbl5 HB4 HN4 HT4 HL4
                  clear hb
                  have hrel3 := HR4.out
                  have HR3 := Lib.hid hrel3
                  have hxx := HX1.out.trans (runM_step _ _ r3 (maybeL (ly none rI)) hyy)
                  rw [show stepM (some (B, 1 :: N, T)) (maybeL (ly none rI)) = runM (some (B ++ X.numBytes 1 4, N, T)) rI from by simp only [stepM, maybeL]; rw [resM_and]; rfl] at hxx
                  have HXX := Lib.hid hxx
                  clear hrel3 hxx
                  go_wp2
                  go_roundg (S.size - (bq + 1) + 1)
                  case measure => omega
                  case rel => exact ⟨(bq + 1), r3, _, by omega, by omega, by go_num, by omega, HP3.out, HW3.out, HF3.out, ⟨HN5.out, HT5.out, _, _, _, _, _, _, HL5.out, HR3.out.more (by first | omega | (have := HBQ.out; omega))⟩, HB5.out, HXX.out⟩
                · have hpos : 0 ≤ nn := (hrg (by trivial)).1
                  have hn2 : 1 < nn := by omega
                  have hn3 : (nn == 1) = false := by rw [beq_eq_false_iff_ne]; omega
                  have hnum := fun w h1 h2 => lnum_any B0 B0 q aN cN N0 (.slice aT T0.length cT) ix jx bb vO sz false true w h1 h2 hNl
                  rw [hs] at hnum
                  dsimp only at hnum
                  have HNUM := Lib.hid hnum
                  clear hnum hs
                  go_wp2_with fail
                  refine (HNUM.out _ HL0.out HN0.out).mono ?_
                  rintro r0 w1 ⟨rfl, hb, hlb⟩
                  have hbs1 : B0 ≤ wr.heap.size := by have := HL0.out.lt; omega
                  have hbl1 : Below B0 wr w1 := hb
                  have HB1 := Lib.hid (HB0.out.trans hbl1)
                  have HN1 := Lib.hid (HN0.out.low hbl1)
                  have HT1 := Lib.hid (HT0.out.low hbl1)
                  have HL1 := Lib.hid (hlb)
                  clear hbs1 hbl1 HB0 HN0 HT0 HL0
                  clear hb hlb HNUM
                  have g6 := HL1.out.cells.2.2.2.2.2.2
                  have f6 := HL1.out.free 6
                  have hset := HL1.out.set 6 (.bool true) (i' := (ix + 1)) (j' := jx) (sz' := sz) (bad' := true) (by simp) HL1.out.len
                  have HSET := Lib.hid hset
                  clear hset
                  go_wp2_with fail
                  have hset := HSET.out
                  clear HSET g6 f6
                  generalize w1.setCell ⟨q, 6, none⟩ (.bool true) = w2 at *
                  have hbs2 : B0 ≤ w1.heap.size := by have := HL1.out.lt; omega
                  have hbl2 : Below B0 w1 w2 := hset.2
                  have HB2 := Lib.hid (HB1.out.trans hbl2)
                  have HN2 := Lib.hid (HN1.out.low hbl2)
                  have HT2 := Lib.hid (HT1.out.low hbl2)
                  have HL2 := Lib.hid (hset.1)
                  clear hbs2 hbl2 HB1 HN1 HT1 HL1
                  clear hset
                  refine (X.refUint_any nn _).mono ?_
                  rintro r0 w3 ⟨rfl, hb⟩
                  have hbs3 : B0 ≤ w2.heap.size := by have := HL2.out.lt; omega
                  have hbl3 : Below B0 w2 w3 := hb.mono hbs3
                  have HB3 := Lib.hid (HB2.out.trans hbl3)
                  have HN3 := Lib.hid (HN2.out.low hbl3)
                  have HT3 := Lib.hid (HT2.out.low hbl3)
                  have HL3 := Lib.hid (HL2.out.news hb)
                  clear hbs3 hbl3 HB2 HN2 HT2 HL2
                  clear hb
                  go_wp2_with fail
                  refine (lputL_any B0 q _ _ (ix + 1) jx (bb) vO (sz) true (X.numBytes nn 4) _ HL3.out (by simp only [X.numBytes_length]; omega)).mono ?_
                  rintro r0 w4 ⟨rfl, hb, vO4, hlb⟩
                  have hbs4 : B0 ≤ w3.heap.size := by have := HL3.out.lt; omega
                  have hbl4 : Below B0 w3 w4 := hb
                  have HB4 := Lib.hid (HB3.out.trans hbl4)
                  have HN4 := Lib.hid (HN3.out.low hbl4)
                  have HT4 := Lib.hid (HT3.out.low hbl4)
                  have HL4 := Lib.hid (hlb)
                  clear hbs4 hbl4 HB3 HN3 HT3 HL3
                  clear hb hlb
                  go_wp2_with fail
                  refine (HSKC.out (b + 2) _ (by omega)).mono ?_
                  rintro r0 w5 ⟨rfl, hb⟩
                  rw [HD2.out, HSKI.out]
                  simp only [pl]
                  rw [← HBQ.out]
                  have hbs5 : B0 ≤ w4.heap.size := by have := HL4.out.lt; omega
                  have hbl5 : Below B0 w4 w5 := hb.mono hbs5
                  have HB5 := Lib.hid (HB4.out.trans hbl5)
                  have HN5 := Lib.hid (HN4.out.low hbl5)
                  have HT5 := Lib.hid (HT4.out.low hbl5)
                  have HL5 := Lib.hid (HL4.out.news hb)
                  clear hbs5 hbl5 HB4 HN4 HT4 HL4
                  clear hb
                  have hrel3 := rel_bad HR.out (i' := (ix + 1)) (j' := jx) (b' := putB (bb) (sz) (X.numBytes nn 4)) (K' := K1 + 16) (X.numBytes nn 4).length (by rw [X.numBytes_length]; omega)
                  have HR3 := Lib.hid hrel3
                  have hxx := HX1.out.trans (runM_step _ _ r3 (maybeL (ly none rI)) hyy)
                  rw [show stepM (some (B, nn :: N, T)) (maybeL (ly none rI)) = none from by simp only [stepM, maybeL, numL]; rw [if_neg (by omega)]; rfl] at hxx
                  have HXX := Lib.hid hxx
                  clear hrel3 hxx
                  go_wp2
                  go_roundg (S.size - (bq + 1) + 1)
                  case measure => omega
                  case rel => exact ⟨(bq + 1), r3, _, by omega, by omega, by go_num, by omega, HP3.out, HW3.out, HF3.out, ⟨HN5.out, HT5.out, _, _, _, _, _, _, HL5.out, HR3.out.more (by first | omega | (have := HBQ.out; omega))⟩, HB5.out, HXX.out⟩
            · have hnum := fun w h1 h2 => lnum_any B0 B0 q aN cN N0 (.slice aT T0.length cT) ix jx bb vO sz bad true w h1 h2 hNl
              rw [hs] at hnum
              dsimp only at hnum
              have HNUM := Lib.hid hnum
              clear hnum hs
              go_wp2_with fail
              refine (HNUM.out _ HL0.out HN0.out).mono ?_
              rintro r0 w1 ⟨rfl, hb, hlb⟩
              have hbs1 : B0 ≤ wr.heap.size := by have := HL0.out.lt; omega
              have hbl1 : Below B0 wr w1 := hb
              have HB1 := Lib.hid (HB0.out.trans hbl1)
              have HN1 := Lib.hid (HN0.out.low hbl1)
              have HT1 := Lib.hid (HT0.out.low hbl1)
              have HL1 := Lib.hid (hlb)
              clear hbs1 hbl1 HB0 HN0 HT0 HL0
              clear hb hlb HNUM
              go_wp2_with fail
              refine (X.refUint_any 0 _).mono ?_
              rintro r0 w2 ⟨rfl, hb⟩
              have hbs2 : B0 ≤ w1.heap.size := by have := HL1.out.lt; omega
              have hbl2 : Below B0 w1 w2 := hb.mono hbs2
              have HB2 := Lib.hid (HB1.out.trans hbl2)
              have HN2 := Lib.hid (HN1.out.low hbl2)
              have HT2 := Lib.hid (HT1.out.low hbl2)
              have HL2 := Lib.hid (HL1.out.news hb)
              clear hbs2 hbl2 HB1 HN1 HT1 HL1
              clear hb
              go_wp2_with fail
              refine (lputL_any B0 q _ _ i2 jx (bb) vO (sz) true (X.numBytes 0 4) _ HL2.out (by simp only [X.numBytes_length]; omega)).mono ?_
              rintro r0 w3 ⟨rfl, hb, vO3, hlb⟩
              have hbs3 : B0 ≤ w2.heap.size := by have := HL2.out.lt; omega
              have hbl3 : Below B0 w2 w3 := hb
              have HB3 := Lib.hid (HB2.out.trans hbl3)
              have HN3 := Lib.hid (HN2.out.low hbl3)
              have HT3 := Lib.hid (HT2.out.low hbl3)
              have HL3 := Lib.hid (hlb)
              clear hbs3 hbl3 HB2 HN2 HT2 HL2
              clear hb hlb
              go_wp2_with fail
              refine (HSKC.out (b + 2) _ (by omega)).mono ?_
              rintro r0 w4 ⟨rfl, hb⟩
              rw [HD2.out, HSKI.out]
              simp only [pl]
              rw [← HBQ.out]
              have hbs4 : B0 ≤ w3.heap.size := by have := HL3.out.lt; omega
              have hbl4 : Below B0 w3 w4 := hb.mono hbs4
              have HB4 := Lib.hid (HB3.out.trans hbl4)
              have HN4 := Lib.hid (HN3.out.low hbl4)
              have HT4 := Lib.hid (HT3.out.low hbl4)
              have HL4 := Lib.hid (HL3.out.news hb)
              clear hbs4 hbl4 HB3 HN3 HT3 HL3
              clear hb
              have hrel3 := rel_bad HR.out (i' := i2) (j' := jx) (b' := putB (bb) (sz) (X.numBytes 0 4)) (K' := K1 + 16) (X.numBytes 0 4).length (by rw [X.numBytes_length]; omega)
              have HR3 := Lib.hid hrel3
              have hxx := HX1.out.trans (runM_step _ _ r3 (maybeL (ly none rI)) hyy)
              rw [show stepM m1 (maybeL (ly none rI)) = none from hno.and (least := 0) (most := 1) (size := 4) (fun h => ⟨by omega, by omega⟩) (fun N T N' T' => if N.head? = some 1 then ly none rI N' T' else .ok ([], N', T'))] at hxx
              have HXX := Lib.hid hxx
              clear hrel3 hxx
              go_wp2
              go_roundg (S.size - (bq + 1) + 1)
              case measure => omega
              case rel => exact ⟨(bq + 1), r3, _, by omega, by omega, by go_num, by omega, HP3.out, HW3.out, HF3.out, ⟨HN4.out, HT4.out, _, _, _, _, _, _, HL4.out, HR3.out.more (by first | omega | (have := HBQ.out; omega))⟩, HB4.out, HXX.out⟩
        · as_aux_lemma =>
            obtain ⟨t2, rI, t3, r3, ht1, hn16, hpi, rfl, hp3, hlt3⟩ := Pn_opt rfl rfl rfl HPC.out
            clear HPC hc
            have hb1F : b + 1 < F.length := by
              have h := congrArg List.length ht1
              rw [List.length_drop, List.length_cons] at h
              omega
            have hd2 : F.drop (b + 2) = t2 := by
              rw [drop_at hb1F] at ht1
              exact (List.cons.inj ht1).2
            have he1 := ends_drop ((Pn_ends hpi).trans (by rw [← hd2]; exact List.drop_suffix _ _) : (41 :: t3) <:+ F)
            have hl2 : t2.length = F.length - (b + 2) := by rw [← hd2, List.length_drop]
            have hle3 : t3.length + 1 ≤ t2.length := by omega
            obtain ⟨bq, hbq⟩ : ∃ bq, bq = F.length - (41 :: t3).length := ⟨_, rfl⟩
            rw [← hbq] at he1
            have hbq2 : bq + t3.length + 1 = F.length := by rw [hbq, List.length_cons]; omega
            have hbqF : bq < F.length := by omega
            have hd3 : F.drop (bq + 1) = t3 := by
              rw [drop_at hbqF] at he1
              exact (List.cons.inj he1).2
            have hski := Pn_skip hpi
            have HSKI := Lib.hid hski
            have HPI := Lib.hid hpi
            have HD2 := Lib.hid hd2
            have HBQ := Lib.hid hbq
            clear ht1 he1 hski hpi hd2 hbq
            have HW3 := Lib.hid (show wf true r3 from HW2.out.2.2)
            have HF3 := Lib.hid (show fullR r3 from HF2.out.2.2)
            have HWI := Lib.hid (show wf true rI from HW2.out.2.1)
            have HFI := Lib.hid (show fullR rI from HF2.out.2.1)
            have HEM := Lib.hid (show (42 : UInt8) ≠ 63 → rI.empty = false from HF2.out.1)
            have HP3 := Lib.hid (show Pn n (F.drop (bq + 1)) = some (r3, t') by rw [hd3]; exact hp3)
            clear hp3 hd3 HW2 HF2
            have hyy : ∀ N T, ly none (.opt 42 rI r3) N T = andL (timesL (ly none rI) N T) (ly none r3) := fun N T => rfl
            rcases num_cases false HR.out with ⟨B, nn, N, T, rfl, rfl, hrg, hs⟩ | ⟨hno, i2, hs⟩
            · by_cases hneg : nn < 0
              · have hn9 : nn < 0 := by omega
                have hn8 : ¬ 0 < nn := by omega
                have hnum := fun w h1 h2 => lnum_any B0 B0 q aN cN N0 (.slice aT T0.length cT) ix jx bb vO sz false false w h1 h2 hNl
                rw [hs] at hnum
                dsimp only at hnum
                have HNUM := Lib.hid hnum
                clear hnum hs
                go_wp2_with fail
                refine (HNUM.out _ HL0.out HN0.out).mono ?_
                rintro r0 w1 ⟨rfl, hb, hlb⟩
                have hbs1 : B0 ≤ wr.heap.size := by have := HL0.out.lt; omega
                have hbl1 : Below B0 wr w1 := hb
                have HB1 := Lib.hid (HB0.out.trans hbl1)
                have HN1 := Lib.hid (HN0.out.low hbl1)
                have HT1 := Lib.hid (HT0.out.low hbl1)
                have HL1 := Lib.hid (hlb)
                clear hbs1 hbl1 HB0 HN0 HT0 HL0
                clear hb hlb HNUM
                have g6 := HL1.out.cells.2.2.2.2.2.2
                have f6 := HL1.out.free 6
                have hset := HL1.out.set 6 (.bool true) (i' := (ix + 1)) (j' := jx) (sz' := sz) (bad' := true) (by simp) HL1.out.len
                have HSET := Lib.hid hset
                clear hset
                go_wp2_with fail
                have hset := HSET.out
                clear HSET g6 f6
                generalize w1.setCell ⟨q, 6, none⟩ (.bool true) = w2 at *
                have hbs2 : B0 ≤ w1.heap.size := by have := HL1.out.lt; omega
                have hbl2 : Below B0 w1 w2 := hset.2
                have HB2 := Lib.hid (HB1.out.trans hbl2)
                have HN2 := Lib.hid (HN1.out.low hbl2)
                have HT2 := Lib.hid (HT1.out.low hbl2)
                have HL2 := Lib.hid (hset.1)
                clear hbs2 hbl2 HB1 HN1 HT1 HL1
                clear hset
                go_loopg [13] 1 (fun kz x13 wz => x13 = .int .i64 0 ∧ 0 < kz ∧ w2 = wz)
                case atStart => exact ⟨rfl, by omega, rfl⟩
                case round =>
                  obtain ⟨rfl, hkz, rfl⟩ := hrel
                  go_wp2_with fail
                  refine (X.refUint_any 0 _).mono ?_
                  rintro r0 w3 ⟨rfl, hb⟩
                  have hbs3 : B0 ≤ w2.heap.size := by have := HL2.out.lt; omega
                  have hbl3 : Below B0 w2 w3 := hb.mono hbs3
                  have HB3 := Lib.hid (HB2.out.trans hbl3)
                  have HN3 := Lib.hid (HN2.out.low hbl3)
                  have HT3 := Lib.hid (HT2.out.low hbl3)
                  have HL3 := Lib.hid (HL2.out.news hb)
                  clear hbs3 hbl3 HB2 HN2 HT2 HL2
                  clear hb
                  go_wp2_with fail
                  refine (lputL_any B0 q _ _ (ix + 1) jx (bb) vO (sz) true (X.numBytes 0 4) _ HL3.out (by simp only [X.numBytes_length]; omega)).mono ?_
                  rintro r0 w4 ⟨rfl, hb, vO4, hlb⟩
                  have hbs4 : B0 ≤ w3.heap.size := by have := HL3.out.lt; omega
                  have hbl4 : Below B0 w3 w4 := hb
                  have HB4 := Lib.hid (HB3.out.trans hbl4)
                  have HN4 := Lib.hid (HN3.out.low hbl4)
                  have HT4 := Lib.hid (HT3.out.low hbl4)
                  have HL4 := Lib.hid (hlb)
                  clear hbs4 hbl4 HB3 HN3 HT3 HL3
                  clear hb hlb
                  go_wp2_with fail
                  refine (HSKC.out (b + 2) _ (by omega)).mono ?_
                  rintro r0 w5 ⟨rfl, hb⟩
                  rw [HD2.out, HSKI.out]
                  simp only [pl]
                  rw [← HBQ.out]
                  have hbs5 : B0 ≤ w4.heap.size := by have := HL4.out.lt; omega
                  have hbl5 : Below B0 w4 w5 := hb.mono hbs5
                  have HB5 := Lib.hid (HB4.out.trans hbl5)
                  have HN5 := Lib.hid (HN4.out.low hbl5)
                  have HT5 := Lib.hid (HT4.out.low hbl5)
                  have HL5 := Lib.hid (HL4.out.news hb)
                  clear hbs5 hbl5 HB4 HN4 HT4 HL4
                  clear hb
                  have hrel3 := rel_bad HR.out (i' := (ix + 1)) (j' := jx) (b' := putB (bb) (sz) (X.numBytes 0 4)) (K' := K1 + 16) (X.numBytes 0 4).length (by rw [X.numBytes_length]; omega)
                  have HR3 := Lib.hid hrel3
                  have hxx := HX1.out.trans (runM_step _ _ r3 (timesL (ly none rI)) hyy)
                  rw [show stepM (some (B, nn :: N, T)) (timesL (ly none rI)) = none from by simp only [stepM, timesL]; rw [if_neg (by omega)]; rfl] at hxx
                  have HXX := Lib.hid hxx
                  clear hrel3 hxx
                  go_wp2
                  go_roundg (S.size - (bq + 1) + 1)
                  case measure => omega
                  case rel => exact ⟨(bq + 1), r3, _, by omega, by omega, by go_num, by omega, HP3.out, HW3.out, HF3.out, ⟨HN5.out, HT5.out, _, _, _, _, _, _, HL5.out, HR3.out.more (by first | omega | (have := HBQ.out; omega))⟩, HB5.out, HXX.out⟩
              · have hn9 : ¬ nn < 0 := by omega
                have hnum := fun w h1 h2 => lnum_any B0 B0 q aN cN N0 (.slice aT T0.length cT) ix jx bb vO sz false false w h1 h2 hNl
                rw [hs] at hnum
                dsimp only at hnum
                have HNUM := Lib.hid hnum
                clear hnum hs
                go_wp2_with fail
                refine (HNUM.out _ HL0.out HN0.out).mono ?_
                rintro r0 w1 ⟨rfl, hb, hlb⟩
                have hbs1 : B0 ≤ wr.heap.size := by have := HL0.out.lt; omega
                have hbl1 : Below B0 wr w1 := hb
                have HB1 := Lib.hid (HB0.out.trans hbl1)
                have HN1 := Lib.hid (HN0.out.low hbl1)
                have HT1 := Lib.hid (HT0.out.low hbl1)
                have HL1 := Lib.hid (hlb)
                clear hbs1 hbl1 HB0 HN0 HT0 HL0
                clear hb hlb HNUM
                have hrt := rel_took HR.out [] (by simp)
                simp only [List.append_nil, List.length_nil, Nat.add_zero] at hrt
                have hpb : putB bb sz [] = bb := by unfold putB; simp
                rw [hpb] at hrt
                have hrgn := HRG.out nn (rel_mem HR.out)
                obtain ⟨kn, hkn⟩ : ∃ kn : Nat, nn = kn := ⟨nn.toNat, by omega⟩
                obtain ⟨xx, hxx0⟩ : ∃ xx, xx = stepM (some (B, nn :: N, T)) (timesL (ly none rI)) := ⟨_, rfl⟩
                have hxx1 : xx = resM B (repL (ly none rI) (kn - 0) N T) := by
                  rw [hxx0]
                  simp only [stepM, timesL]
                  rw [if_pos (by omega), hkn]
                  rfl
                have hxx2 := HX1.out.trans (runM_step _ _ r3 (timesL (ly none rI)) hyy)
                rw [← hxx0] at hxx2
                have HXX2 := Lib.hid hxx2
                have HS0 := Lib.hid (show ST B0 q aN cN N0 aT cT T0 K1 (some (B, N, T)) w1 from ⟨HN1.out, HT1.out, _, _, _, _, _, _, HL1.out, hrt⟩)
                have HXX1 := Lib.hid hxx1
                have hem : rI.empty = false := HEM.out (by decide)
                have HCH := Lib.hid (fun N T => cheap_ly rI none true HWI.out HFI.out N T)
                subst hkn
                clear hxx0 hxx1 hxx2 hrt hpb HN1 HT1 HL1 HR hrg hyy
                go_wp2
                go_loopg [13] (kn + 1) (fun kz x13 wz => Below B0 w wz ∧ ∃ ij : Nat, ij ≤ kn ∧ x13 = .int .i64 ij ∧ kn - ij < kz ∧ ∃ (m2 : Mo) (K2 : Nat), ST B0 q aN cN N0 aT cT T0 K2 m2 wz ∧ ((∃ B2 N2 T2, m2 = some (B2, N2, T2) ∧ K1 = K2 ∧ xx = resM B2 (repL (ly none rI) (kn - ij) N2 T2)) ∨ (m2 = none ∧ xx = none ∧ K2 = K1 + 16 * (bq - b))))
                case atStart => exact ⟨HB1.out, 0, Nat.zero_le _, rfl, by omega, _, _, HS0.out, .inl ⟨B, N, T, rfl, rfl, HXX1.out⟩⟩
                case round =>
                  rename World => wz
                  rename Nat => kz
                  obtain ⟨hbz, ij, hij, rfl, hkz, m2, K2, hst2, hcase⟩ := hrel
                  obtain ⟨hin, hit, i4, j4, b4, vO4, sz4, bad4, hlb, hrl⟩ := hst2
                  have HBZ := Lib.hid hbz
                  have HNZ := Lib.hid hin
                  have HTZ := Lib.hid hit
                  have HLZ := Lib.hid hlb
                  have HRZ := Lib.hid hrl
                  have g6 := hlb.cells.2.2.2.2.2.2
                  clear hbz hin hit hlb hrl HB1 HS0 HXX1
                  rcases hcase with ⟨B2, N2, T2, rfl, rfl, hx3⟩ | ⟨rfl, hx3, rfl⟩
                  · have hb4 : bad4 = false := HRZ.out.1
                    have hs4 := HRZ.out.le
                    subst hb4
                    have HX3 := Lib.hid hx3
                    clear hx3
                    by_cases hlt : ij < kn
                    · go_wp2_with fail
                      refine (X.refUint_any 1 _).mono ?_
                      rintro r0 w1 ⟨rfl, hb⟩
                      have hbs1 : B0 ≤ wz.heap.size := by have := HLZ.out.lt; omega
                      have hbl1 : Below B0 wz w1 := hb.mono hbs1
                      have HB1 := Lib.hid (HBZ.out.trans hbl1)
                      have HN1 := Lib.hid (HNZ.out.low hbl1)
                      have HT1 := Lib.hid (HTZ.out.low hbl1)
                      have HL1 := Lib.hid (HLZ.out.news hb)
                      clear hbs1 hbl1 HBZ HNZ HTZ HLZ
                      clear hb
                      go_wp2_with fail
                      refine (lputL_any B0 q _ _ i4 j4 (b4) vO4 (sz4) false (X.numBytes 1 4) _ HL1.out (by simp only [X.numBytes_length]; omega)).mono ?_
                      rintro r0 w2 ⟨rfl, hb, vO2, hlb⟩
                      have hbs2 : B0 ≤ w1.heap.size := by have := HL1.out.lt; omega
                      have hbl2 : Below B0 w1 w2 := hb
                      have HB2 := Lib.hid (HB1.out.trans hbl2)
                      have HN2 := Lib.hid (HN1.out.low hbl2)
                      have HT2 := Lib.hid (HT1.out.low hbl2)
                      have HL2 := Lib.hid (hlb)
                      clear hbs2 hbl2 HB1 HN1 HT1 HL1
                      clear hb hlb
                      have hrp := rel_put HRZ.out (X.numBytes 1 4) (K' := K1 + 4) (by rw [X.numBytes_length]; omega)
                      have hst2 : ST B0 q aN cN N0 aT cT T0 (K1 + 4) (some (B2 ++ X.numBytes 1 4, N2, T2)) w2 := ⟨HN2.out, HT2.out, _, _, _, _, _, _, HL2.out, hrp⟩
                      have HST2 := Lib.hid hst2
                      clear hst2
                      go_wp2_with fail
                      refine (HIH.out (n + 1) (b + 2) rI (41 :: t3) (by omega) (by omega) (by rw [HD2.out]; exact HPI.out) (HWI.out) (HFI.out) (K1 + 4) (some (B2 ++ X.numBytes 1 4, N2, T2)) _ HST2.out (by omega)).mono ?_
                      rintro r0 w3 ⟨rfl, hb, hst3⟩
                      have hcheap := HCH.out N2 T2
                      have hworth := HRZ.out.2.2.2.2.2.2.2
                      have hxr : xx = stepM (runM (some (B2 ++ X.numBytes 1 4, N2, T2)) rI) (repL (ly none rI) (kn - (ij + 1))) := by
                        rw [HX3.out, show kn - ij = (kn - (ij + 1)) + 1 by omega]
                        show resM B2 (preL (Y.numBytes 1 4) (andL (ly none rI N2 T2) (repL (ly none rI) (kn - (ij + 1))))) = stepM (resM (B2 ++ X.numBytes 1 4) (ly none rI N2 T2)) (repL (ly none rI) (kn - (ij + 1)))
                        rw [← resM_and]
                        cases andL (ly none rI N2 T2) (repL (ly none rI) (kn - (ij + 1))) with
                        | error e => rfl
                        | ok z => obtain ⟨c1, c2, c3⟩ := z; simp [preL, resM, xy_num]
                      obtain ⟨hin, hit, i5, j5, b5, vO5, sz5, bad5, hlb, hrl⟩ := hst3
                      have HB9 := Lib.hid (HB2.out.trans hb)
                      have HN9 := Lib.hid hin
                      have HT9 := Lib.hid hit
                      have HL9 := Lib.hid hlb
                      have hnew : ∃ (m2 : Mo) (K2 : Nat), Rel K2 N0 T0 m2 i5 j5 b5 sz5 bad5 ∧ ((∃ B2 N2 T2, m2 = some (B2, N2, T2) ∧ K1 = K2 ∧ xx = resM B2 (repL (ly none rI) (kn - (ij + 1)) N2 T2)) ∨ (m2 = none ∧ xx = none ∧ K2 = K1 + 16 * (bq - b))) := by
                        cases hy : ly none rI N2 T2 with
                        | error e =>
                          have hm3 : runM (some (B2 ++ X.numBytes 1 4, N2, T2)) rI = none := by simp only [runM, stepM]; rw [hy]; rfl
                          rw [hm3] at hrl hxr
                          exact ⟨none, _, hrl.more (by have := HBQ.out; omega), .inr ⟨rfl, hxr, rfl⟩⟩
                        | ok z =>
                          obtain ⟨b6, N6, T6⟩ := z
                          have hm3 : runM (some (B2 ++ X.numBytes 1 4, N2, T2)) rI = some ((B2 ++ X.numBytes 1 4) ++ b6, N6, T6) := by simp only [runM, stepM]; rw [hy]; rfl
                          rw [hm3] at hrl hxr
                          have hc6 := hcheap b6 N6 T6 hy
                          rw [if_pos (by simp [hem])] at hc6
                          refine ⟨_, K1, ?_, .inl ⟨_, N6, T6, rfl, rfl, hxr⟩⟩
                          obtain ⟨h0, h1, h3, h4, h5, h6, h7, h2⟩ := hrl
                          refine ⟨h0, h1, h3, h4, h5, h6, h7, ?_⟩
                          simp only [List.length_append, X.numBytes_length]
                          omega
                      have HNEW := Lib.hid hnew
                      clear hnew hcheap hworth hxr hb hin hit hlb hrl hrp HST2 HX3 HRZ HB2 HN2 HT2 HL2 HCH g6
                      go_wp2
                      go_roundg (kn - ij)
                      case measure => omega
                      case rel =>
                        obtain ⟨m5, K5, h5, h6⟩ := HNEW.out
                        exact ⟨HB9.out, ij + 1, by omega, by go_num, by omega, m5, K5, ⟨HN9.out, HT9.out, _, _, _, _, _, _, HL9.out, h5⟩, h6⟩
                    · have hke : kn - ij = 0 := by omega
                      have hx4 := HX3.out
                      rw [hke] at hx4
                      have HX4 := Lib.hid hx4
                      clear hx4 hke HX3 g6
                      go_wp2_with fail
                      refine (X.refUint_any 0 _).mono ?_
                      rintro r0 w1 ⟨rfl, hb⟩
                      have hbs1 : B0 ≤ wz.heap.size := by have := HLZ.out.lt; omega
                      have hbl1 : Below B0 wz w1 := hb.mono hbs1
                      have HB1 := Lib.hid (HBZ.out.trans hbl1)
                      have HN1 := Lib.hid (HNZ.out.low hbl1)
                      have HT1 := Lib.hid (HTZ.out.low hbl1)
                      have HL1 := Lib.hid (HLZ.out.news hb)
                      clear hbs1 hbl1 HBZ HNZ HTZ HLZ
                      clear hb
                      go_wp2_with fail
                      refine (lputL_any B0 q _ _ i4 j4 (b4) vO4 (sz4) false (X.numBytes 0 4) _ HL1.out (by simp only [X.numBytes_length]; omega)).mono ?_
                      rintro r0 w2 ⟨rfl, hb, vO2, hlb⟩
                      have hbs2 : B0 ≤ w1.heap.size := by have := HL1.out.lt; omega
                      have hbl2 : Below B0 w1 w2 := hb
                      have HB2 := Lib.hid (HB1.out.trans hbl2)
                      have HN2 := Lib.hid (HN1.out.low hbl2)
                      have HT2 := Lib.hid (HT1.out.low hbl2)
                      have HL2 := Lib.hid (hlb)
                      clear hbs2 hbl2 HB1 HN1 HT1 HL1
                      clear hb hlb
                      go_wp2_with fail
                      refine (HSKC.out (b + 2) _ (by omega)).mono ?_
                      rintro r0 w3 ⟨rfl, hb⟩
                      rw [HD2.out, HSKI.out]
                      simp only [pl]
                      rw [← HBQ.out]
                      have hbs3 : B0 ≤ w2.heap.size := by have := HL2.out.lt; omega
                      have hbl3 : Below B0 w2 w3 := hb.mono hbs3
                      have HB3 := Lib.hid (HB2.out.trans hbl3)
                      have HN3 := Lib.hid (HN2.out.low hbl3)
                      have HT3 := Lib.hid (HT2.out.low hbl3)
                      have HL3 := Lib.hid (HL2.out.news hb)
                      clear hbs3 hbl3 HB2 HN2 HT2 HL2
                      clear hb
                      have hrel3 := rel_put HRZ.out (X.numBytes 0 4) (K' := K1 + 4) (by rw [X.numBytes_length]; omega)
                      have HR3 := Lib.hid hrel3
                      have hxx := HXX2.out
                      rw [show xx = some (B2 ++ X.numBytes 0 4, N2, T2) from HX4.out] at hxx
                      have HXX := Lib.hid hxx
                      clear hrel3 hxx
                      go_wp2
                      go_roundg (S.size - (bq + 1) + 1)
                      case measure => omega
                      case rel => exact ⟨(bq + 1), r3, _, by omega, by omega, by go_num, by omega, HP3.out, HW3.out, HF3.out, ⟨HN3.out, HT3.out, _, _, _, _, _, _, HL3.out, HR3.out.more (by first | omega | (have := HBQ.out; omega))⟩, HB3.out, HXX.out⟩
                  · have hb4 : bad4 = true := HRZ.out.1
                    have hs4 := HRZ.out.le
                    subst hb4
                    have HX3 := Lib.hid hx3
                    clear hx3
                    have hdr : ij < kn ∨ ¬ ij < kn := Nat.lt_or_ge ij kn |>.imp id (fun h => by omega)
                    rcases hdr with hlt | hlt
                    · go_wp2_with fail
                      refine (X.refUint_any 0 _).mono ?_
                      rintro r0 w1 ⟨rfl, hb⟩
                      have hbs1 : B0 ≤ wz.heap.size := by have := HLZ.out.lt; omega
                      have hbl1 : Below B0 wz w1 := hb.mono hbs1
                      have HB1 := Lib.hid (HBZ.out.trans hbl1)
                      have HN1 := Lib.hid (HNZ.out.low hbl1)
                      have HT1 := Lib.hid (HTZ.out.low hbl1)
                      have HL1 := Lib.hid (HLZ.out.news hb)
                      clear hbs1 hbl1 HBZ HNZ HTZ HLZ
                      clear hb
                      go_wp2_with fail
                      refine (lputL_any B0 q _ _ i4 j4 (b4) vO4 (sz4) true (X.numBytes 0 4) _ HL1.out (by simp only [X.numBytes_length]; omega)).mono ?_
                      rintro r0 w2 ⟨rfl, hb, vO2, hlb⟩
                      have hbs2 : B0 ≤ w1.heap.size := by have := HL1.out.lt; omega
                      have hbl2 : Below B0 w1 w2 := hb
                      have HB2 := Lib.hid (HB1.out.trans hbl2)
                      have HN2 := Lib.hid (HN1.out.low hbl2)
                      have HT2 := Lib.hid (HT1.out.low hbl2)
                      have HL2 := Lib.hid (hlb)
                      clear hbs2 hbl2 HB1 HN1 HT1 HL1
                      clear hb hlb
                      go_wp2_with fail
                      refine (HSKC.out (b + 2) _ (by omega)).mono ?_
                      rintro r0 w3 ⟨rfl, hb⟩
                      rw [HD2.out, HSKI.out]
                      simp only [pl]
                      rw [← HBQ.out]
                      have hbs3 : B0 ≤ w2.heap.size := by have := HL2.out.lt; omega
                      have hbl3 : Below B0 w2 w3 := hb.mono hbs3
                      have HB3 := Lib.hid (HB2.out.trans hbl3)
                      have HN3 := Lib.hid (HN2.out.low hbl3)
                      have HT3 := Lib.hid (HT2.out.low hbl3)
                      have HL3 := Lib.hid (HL2.out.news hb)
                      clear hbs3 hbl3 HB2 HN2 HT2 HL2
                      clear hb
                      have hrel3 := rel_bad HRZ.out (i' := i4) (j' := j4) (b' := putB (b4) (sz4) (X.numBytes 0 4)) (K' := K1 + 16 * (bq - b) + 16) (X.numBytes 0 4).length (by rw [X.numBytes_length]; omega)
                      have HR3 := Lib.hid hrel3
                      have hxx := HXX2.out
                      rw [show xx = none from HX3.out] at hxx
                      have HXX := Lib.hid hxx
                      clear hrel3 hxx
                      go_wp2
                      go_roundg (S.size - (bq + 1) + 1)
                      case measure => omega
                      case rel => exact ⟨(bq + 1), r3, _, by omega, by omega, by go_num, by omega, HP3.out, HW3.out, HF3.out, ⟨HN3.out, HT3.out, _, _, _, _, _, _, HL3.out, HR3.out.more (by first | omega | (have := HBQ.out; omega))⟩, HB3.out, HXX.out⟩
                    · go_wp2_with fail
                      refine (X.refUint_any 0 _).mono ?_
                      rintro r0 w1 ⟨rfl, hb⟩
                      have hbs1 : B0 ≤ wz.heap.size := by have := HLZ.out.lt; omega
                      have hbl1 : Below B0 wz w1 := hb.mono hbs1
                      have HB1 := Lib.hid (HBZ.out.trans hbl1)
                      have HN1 := Lib.hid (HNZ.out.low hbl1)
                      have HT1 := Lib.hid (HTZ.out.low hbl1)
                      have HL1 := Lib.hid (HLZ.out.news hb)
                      clear hbs1 hbl1 HBZ HNZ HTZ HLZ
                      clear hb
                      go_wp2_with fail
                      refine (lputL_any B0 q _ _ i4 j4 (b4) vO4 (sz4) true (X.numBytes 0 4) _ HL1.out (by simp only [X.numBytes_length]; omega)).mono ?_
                      rintro r0 w2 ⟨rfl, hb, vO2, hlb⟩
                      have hbs2 : B0 ≤ w1.heap.size := by have := HL1.out.lt; omega
                      have hbl2 : Below B0 w1 w2 := hb
                      have HB2 := Lib.hid (HB1.out.trans hbl2)
                      have HN2 := Lib.hid (HN1.out.low hbl2)
                      have HT2 := Lib.hid (HT1.out.low hbl2)
                      have HL2 := Lib.hid (hlb)
                      clear hbs2 hbl2 HB1 HN1 HT1 HL1
                      clear hb hlb
                      go_wp2_with fail
                      refine (HSKC.out (b + 2) _ (by omega)).mono ?_
                      rintro r0 w3 ⟨rfl, hb⟩
                      rw [HD2.out, HSKI.out]
                      simp only [pl]
                      rw [← HBQ.out]
                      have hbs3 : B0 ≤ w2.heap.size := by have := HL2.out.lt; omega
                      have hbl3 : Below B0 w2 w3 := hb.mono hbs3
                      have HB3 := Lib.hid (HB2.out.trans hbl3)
                      have HN3 := Lib.hid (HN2.out.low hbl3)
                      have HT3 := Lib.hid (HT2.out.low hbl3)
                      have HL3 := Lib.hid (HL2.out.news hb)
                      clear hbs3 hbl3 HB2 HN2 HT2 HL2
                      clear hb
                      have hrel3 := rel_bad HRZ.out (i' := i4) (j' := j4) (b' := putB (b4) (sz4) (X.numBytes 0 4)) (K' := K1 + 16 * (bq - b) + 16) (X.numBytes 0 4).length (by rw [X.numBytes_length]; omega)
                      have HR3 := Lib.hid hrel3
                      have hxx := HXX2.out
                      rw [show xx = none from HX3.out] at hxx
                      have HXX := Lib.hid hxx
                      clear hrel3 hxx
                      go_wp2
                      go_roundg (S.size - (bq + 1) + 1)
                      case measure => omega
                      case rel => exact ⟨(bq + 1), r3, _, by omega, by omega, by go_num, by omega, HP3.out, HW3.out, HF3.out, ⟨HN3.out, HT3.out, _, _, _, _, _, _, HL3.out, HR3.out.more (by first | omega | (have := HBQ.out; omega))⟩, HB3.out, HXX.out⟩
            · have hnum := fun w h1 h2 => lnum_any B0 B0 q aN cN N0 (.slice aT T0.length cT) ix jx bb vO sz bad false w h1 h2 hNl
              rw [hs] at hnum
              dsimp only at hnum
              have HNUM := Lib.hid hnum
              clear hnum hs
              go_wp2_with fail
              refine (HNUM.out _ HL0.out HN0.out).mono ?_
              rintro r0 w1 ⟨rfl, hb, hlb⟩
              have hbs1 : B0 ≤ wr.heap.size := by have := HL0.out.lt; omega
              have hbl1 : Below B0 wr w1 := hb
              have HB1 := Lib.hid (HB0.out.trans hbl1)
              have HN1 := Lib.hid (HN0.out.low hbl1)
              have HT1 := Lib.hid (HT0.out.low hbl1)
              have HL1 := Lib.hid (hlb)
              clear hbs1 hbl1 HB0 HN0 HT0 HL0
              clear hb hlb HNUM
              go_wp2
              go_loopg [13] 1 (fun kz x13 wz => x13 = .int .i64 0 ∧ 0 < kz ∧ w1 = wz)
              case atStart => exact ⟨rfl, by omega, rfl⟩
              case round =>
                obtain ⟨rfl, hkz, rfl⟩ := hrel
                go_wp2_with fail
                refine (X.refUint_any 0 _).mono ?_
                rintro r0 w2 ⟨rfl, hb⟩
                have hbs2 : B0 ≤ w1.heap.size := by have := HL1.out.lt; omega
                have hbl2 : Below B0 w1 w2 := hb.mono hbs2
                have HB2 := Lib.hid (HB1.out.trans hbl2)
                have HN2 := Lib.hid (HN1.out.low hbl2)
                have HT2 := Lib.hid (HT1.out.low hbl2)
                have HL2 := Lib.hid (HL1.out.news hb)
                clear hbs2 hbl2 HB1 HN1 HT1 HL1
                clear hb
                go_wp2_with fail
                refine (lputL_any B0 q _ _ i2 jx (bb) vO (sz) true (X.numBytes 0 4) _ HL2.out (by simp only [X.numBytes_length]; omega)).mono ?_
                rintro r0 w3 ⟨rfl, hb, vO3, hlb⟩
                have hbs3 : B0 ≤ w2.heap.size := by have := HL2.out.lt; omega
                have hbl3 : Below B0 w2 w3 := hb
                have HB3 := Lib.hid (HB2.out.trans hbl3)
                have HN3 := Lib.hid (HN2.out.low hbl3)
                have HT3 := Lib.hid (HT2.out.low hbl3)
                have HL3 := Lib.hid (hlb)
                clear hbs3 hbl3 HB2 HN2 HT2 HL2
                clear hb hlb
                go_wp2_with fail
                refine (HSKC.out (b + 2) _ (by omega)).mono ?_
                rintro r0 w4 ⟨rfl, hb⟩
                rw [HD2.out, HSKI.out]
                simp only [pl]
                rw [← HBQ.out]
                have hbs4 : B0 ≤ w3.heap.size := by have := HL3.out.lt; omega
                have hbl4 : Below B0 w3 w4 := hb.mono hbs4
                have HB4 := Lib.hid (HB3.out.trans hbl4)
                have HN4 := Lib.hid (HN3.out.low hbl4)
                have HT4 := Lib.hid (HT3.out.low hbl4)
                have HL4 := Lib.hid (HL3.out.news hb)
                clear hbs4 hbl4 HB3 HN3 HT3 HL3
                clear hb
                have hrel3 := rel_bad HR.out (i' := i2) (j' := jx) (b' := putB (bb) (sz) (X.numBytes 0 4)) (K' := K1 + 16) (X.numBytes 0 4).length (by rw [X.numBytes_length]; omega)
                have HR3 := Lib.hid hrel3
                have hxx := HX1.out.trans (runM_step _ _ r3 (timesL (ly none rI)) hyy)
                rw [show stepM m1 (timesL (ly none rI)) = none from hno.times (ly none rI)] at hxx
                have HXX := Lib.hid hxx
                clear hrel3 hxx
                go_wp2
                go_roundg (S.size - (bq + 1) + 1)
                case measure => omega
                case rel => exact ⟨(bq + 1), r3, _, by omega, by omega, by go_num, by omega, HP3.out, HW3.out, HF3.out, ⟨HN4.out, HT4.out, _, _, _, _, _, _, HL4.out, HR3.out.more (by first | omega | (have := HBQ.out; omega))⟩, HB4.out, HXX.out⟩
        · as_aux_lemma =>
            obtain ⟨A, t2, r3, hn16, hpa, rfl, hp3⟩ := Pn_ch HPC.out
            clear HPC hc
            have hpe := (Pz_ends hpa).length_le
            rw [List.length_drop] at hpe
            have hd3' : F.drop (F.length - t2.length) = t2 := ends_drop ((Pz_ends hpa).trans (List.drop_suffix _ _))
            obtain ⟨b3, hb3⟩ : ∃ b3, b3 = F.length - t2.length := ⟨_, rfl⟩
            have hb3a : b < b3 := by omega
            have hb3b : b3 ≤ S.size := by omega
            have hyy : ∀ N T, ly none (.ch A r3) N T = andL (armL (fun n N T => ly (some n) A N T) N T) (ly none r3) := fun N T => rfl
            have HW3 := Lib.hid (show wf true r3 from HW2.out.2)
            have HF3 := Lib.hid (show fullR r3 from HF2.out.2)
            have HWA := Lib.hid (show wf false A from HW2.out.1)
            have HFA := Lib.hid (show fullR A from HF2.out.1)
            have HPA := Lib.hid hpa
            have HB3Q := Lib.hid hb3
            have HP3 := Lib.hid (show Pn n (F.drop b3) = some (r3, t') by rw [hb3, hd3']; exact hp3)
            clear hp3 hpa hd3' hb3 HW2 HF2
            rcases num_cases true HR.out with ⟨B, nn, N, T, rfl, rfl, hrg, hs⟩ | ⟨hno, i2, hs⟩
            · have hnum := fun w h1 h2 => lnum_any B0 B0 q aN cN N0 (.slice aT T0.length cT) ix jx bb vO sz false true w h1 h2 hNl
              rw [hs] at hnum
              dsimp only at hnum
              have HNUM := Lib.hid hnum
              clear hnum hs
              go_wp2_with fail
              refine (HNUM.out _ HL0.out HN0.out).mono ?_
              rintro r0 w1 ⟨rfl, hb, hlb⟩
              have hbs1 : B0 ≤ wr.heap.size := by have := HL0.out.lt; omega
              have hbl1 : Below B0 wr w1 := hb
              have HB1 := Lib.hid (HB0.out.trans hbl1)
              have HN1 := Lib.hid (HN0.out.low hbl1)
              have HT1 := Lib.hid (HT0.out.low hbl1)
              have HL1 := Lib.hid (hlb)
              clear hbs1 hbl1 HB0 HN0 HT0 HL0
              clear hb hlb HNUM
              go_wp2_with fail
              refine (X.refUint_any nn _).mono ?_
              rintro r0 w2 ⟨rfl, hb⟩
              have hbs2 : B0 ≤ w1.heap.size := by have := HL1.out.lt; omega
              have hbl2 : Below B0 w1 w2 := hb.mono hbs2
              have HB2 := Lib.hid (HB1.out.trans hbl2)
              have HN2 := Lib.hid (HN1.out.low hbl2)
              have HT2 := Lib.hid (HT1.out.low hbl2)
              have HL2 := Lib.hid (HL1.out.news hb)
              clear hbs2 hbl2 HB1 HN1 HT1 HL1
              clear hb
              go_wp2_with fail
              refine (lputL_any B0 q _ _ (ix + 1) jx (bb) vO (sz) false (X.numBytes nn 4) _ HL2.out (by simp only [X.numBytes_length]; omega)).mono ?_
              rintro r0 w3 ⟨rfl, hb, vO3, hlb⟩
              have hbs3 : B0 ≤ w2.heap.size := by have := HL2.out.lt; omega
              have hbl3 : Below B0 w2 w3 := hb
              have HB3 := Lib.hid (HB2.out.trans hbl3)
              have HN3 := Lib.hid (HN2.out.low hbl3)
              have HT3 := Lib.hid (HT2.out.low hbl3)
              have HL3 := Lib.hid (hlb)
              clear hbs3 hbl3 HB2 HN2 HT2 HL2
              clear hb hlb
              go_wp2_with fail
              refine (HCZ.out (n + 1) [] (b + 1) nn A t2 _ (by omega) HPA.out).mono ?_
              rintro r0 w4 ⟨fd, rfl, hb, harm⟩
              rw [← HB3Q.out]
              have hbs4 : B0 ≤ w3.heap.size := by have := HL3.out.lt; omega
              have hbl4 : Below B0 w3 w4 := hb.mono hbs4
              have HB4 := Lib.hid (HB3.out.trans hbl4)
              have HN4 := Lib.hid (HN3.out.low hbl4)
              have HT4 := Lib.hid (HT3.out.low hbl4)
              have HL4 := Lib.hid (HL3.out.news hb)
              clear hbs4 hbl4 HB3 HN3 HT3 HL3
              clear hb
              obtain ⟨ar, har⟩ : ∃ ar, ar = armOf nn A := ⟨_, rfl⟩
              rw [← har] at harm
              have HAR := Lib.hid har
              clear har
              cases ar with
              | none =>
                have hfd : fd = -1 := harm
                subst hfd
                clear harm
                have g6 := HL4.out.cells.2.2.2.2.2.2
                have f6 := HL4.out.free 6
                have hset := HL4.out.set 6 (.bool true) (i' := (ix + 1)) (j' := jx) (sz' := sz + (X.numBytes nn 4).length) (bad' := true) (by simp) HL4.out.len
                have HSET := Lib.hid hset
                clear hset
                go_wp2_with fail
                have hset := HSET.out
                clear HSET g6 f6
                generalize w4.setCell ⟨q, 6, none⟩ (.bool true) = w5 at *
                have hbs5 : B0 ≤ w4.heap.size := by have := HL4.out.lt; omega
                have hbl5 : Below B0 w4 w5 := hset.2
                have HB5 := Lib.hid (HB4.out.trans hbl5)
                have HN5 := Lib.hid (HN4.out.low hbl5)
                have HT5 := Lib.hid (HT4.out.low hbl5)
                have HL5 := Lib.hid (hset.1)
                clear hbs5 hbl5 HB4 HN4 HT4 HL4
                clear hset
                have hrel3 := rel_bad HR.out (i' := (ix + 1)) (j' := jx) (b' := putB (bb) (sz) (X.numBytes nn 4)) (K' := K1 + 16) (X.numBytes nn 4).length (by rw [X.numBytes_length]; omega)
                have HR3 := Lib.hid hrel3
                have hxx := HX1.out.trans (runM_step _ _ r3 (armL (fun n N T => ly (some n) A N T)) hyy)
                rw [show stepM (some (B, nn :: N, T)) (armL (fun n N T => ly (some n) A N T)) = stepM (some (B ++ X.numBytes nn 4, N, T)) (ly (some nn) A) from by simp only [stepM, armL]; rw [resM_and]; simp only [numL, List.headD_cons]; rw [if_pos (hrg (by trivial))]; rfl, show stepM (some (B ++ X.numBytes nn 4, N, T)) (ly (some nn) A) = none from by simp only [stepM]; rw [tk_armL, ← HAR.out]; rfl] at hxx
                have HXX := Lib.hid hxx
                clear hrel3 hxx
                go_roundg (S.size - b3 + 1)
                case measure => omega
                case rel => exact ⟨b3, r3, _, by omega, by omega, by go_num, by omega, HP3.out, HW3.out, HF3.out, ⟨HN5.out, HT5.out, _, _, _, _, _, _, HL5.out, HR3.out.more (by omega)⟩, HB5.out, HXX.out⟩
              | some rI =>
                obtain ⟨bA, d, tA, rfl, hbA1, hbA2, hpA, htA⟩ := harm
                have hwi := arm_wf nn rI A HAR.out.symm HWA.out HFA.out
                have HWI := Lib.hid hwi
                have HPAA := Lib.hid hpA
                clear hwi hpA
                have g6 := HL4.out.cells.2.2.2.2.2.2
                have hdle := (Pn_ends HPAA.out).length_le
                rw [List.length_drop] at hdle
                have hst2 : ST B0 q aN cN N0 aT cT T0 (K1) (some (B ++ X.numBytes nn 4, N, T)) w4 := ⟨HN4.out, HT4.out, _, _, _, _, _, _, HL4.out, rel_took HR.out (X.numBytes nn 4) (by rw [X.numBytes_length]; omega)⟩
                have HST2 := Lib.hid hst2
                clear hst2
                go_wp2_with fail
                refine (HIH.out (n + 1) bA rI (d :: tA) (by omega) (by omega) (HPAA.out) (HWI.out.1) (HWI.out.2) (K1) (some (B ++ X.numBytes nn 4, N, T)) _ HST2.out (by omega)).mono ?_
                rintro r0 w5 ⟨rfl, hb, hst3⟩
                obtain ⟨hin, hit, i4, j4, b4, vO4, sz4, bad4, hlb, hrl⟩ := hst3
                have HB5 := Lib.hid (HB4.out.trans hb)
                have HN5 := Lib.hid hin
                have HT5 := Lib.hid hit
                have HL5 := Lib.hid hlb
                have HR4 := Lib.hid hrl
                clear hb hin hit hlb hrl HB4 HN4 HT4 HL4 HST2 g6
                have hsl : (d :: tA).length = tA.length + 1 := rfl
                have hend : K1 + 16 * (F.length - (d :: tA).length - bA) ≤ K + 16 * (b3 - a) := by have := HB3Q.out; rw [hsl]; omega
                have hrel3 := HR4.out.more hend
                have HR3 := Lib.hid hrel3
                have hxx := HX1.out.trans (runM_step _ _ r3 (armL (fun n N T => ly (some n) A N T)) hyy)
                rw [show stepM (some (B, nn :: N, T)) (armL (fun n N T => ly (some n) A N T)) = stepM (some (B ++ X.numBytes nn 4, N, T)) (ly (some nn) A) from by simp only [stepM, armL]; rw [resM_and]; simp only [numL, List.headD_cons]; rw [if_pos (hrg (by trivial))]; rfl, show stepM (some (B ++ X.numBytes nn 4, N, T)) (ly (some nn) A) = runM (some (B ++ X.numBytes nn 4, N, T)) rI from by simp only [stepM, runM]; rw [tk_armL, ← HAR.out]] at hxx
                have HXX := Lib.hid hxx
                clear hrel3 hxx
                go_wp2
                go_roundg (S.size - b3 + 1)
                case measure => omega
                case rel => exact ⟨b3, r3, _, by omega, by omega, by go_num, by omega, HP3.out, HW3.out, HF3.out, ⟨HN5.out, HT5.out, _, _, _, _, _, _, HL5.out, HR3.out.more (by first | omega | (have := HBQ.out; omega))⟩, HB5.out, HXX.out⟩
            · have hnum := fun w h1 h2 => lnum_any B0 B0 q aN cN N0 (.slice aT T0.length cT) ix jx bb vO sz bad true w h1 h2 hNl
              rw [hs] at hnum
              dsimp only at hnum
              have HNUM := Lib.hid hnum
              clear hnum hs
              go_wp2_with fail
              refine (HNUM.out _ HL0.out HN0.out).mono ?_
              rintro r0 w1 ⟨rfl, hb, hlb⟩
              have hbs1 : B0 ≤ wr.heap.size := by have := HL0.out.lt; omega
              have hbl1 : Below B0 wr w1 := hb
              have HB1 := Lib.hid (HB0.out.trans hbl1)
              have HN1 := Lib.hid (HN0.out.low hbl1)
              have HT1 := Lib.hid (HT0.out.low hbl1)
              have HL1 := Lib.hid (hlb)
              clear hbs1 hbl1 HB0 HN0 HT0 HL0
              clear hb hlb HNUM
              go_wp2_with fail
              refine (X.refUint_any 0 _).mono ?_
              rintro r0 w2 ⟨rfl, hb⟩
              have hbs2 : B0 ≤ w1.heap.size := by have := HL1.out.lt; omega
              have hbl2 : Below B0 w1 w2 := hb.mono hbs2
              have HB2 := Lib.hid (HB1.out.trans hbl2)
              have HN2 := Lib.hid (HN1.out.low hbl2)
              have HT2 := Lib.hid (HT1.out.low hbl2)
              have HL2 := Lib.hid (HL1.out.news hb)
              clear hbs2 hbl2 HB1 HN1 HT1 HL1
              clear hb
              go_wp2_with fail
              refine (lputL_any B0 q _ _ i2 jx (bb) vO (sz) true (X.numBytes 0 4) _ HL2.out (by simp only [X.numBytes_length]; omega)).mono ?_
              rintro r0 w3 ⟨rfl, hb, vO3, hlb⟩
              have hbs3 : B0 ≤ w2.heap.size := by have := HL2.out.lt; omega
              have hbl3 : Below B0 w2 w3 := hb
              have HB3 := Lib.hid (HB2.out.trans hbl3)
              have HN3 := Lib.hid (HN2.out.low hbl3)
              have HT3 := Lib.hid (HT2.out.low hbl3)
              have HL3 := Lib.hid (hlb)
              clear hbs3 hbl3 HB2 HN2 HT2 HL2
              clear hb hlb
              go_wp2_with fail
              refine (HCZ.out (n + 1) [] (b + 1) 0 A t2 _ (by omega) HPA.out).mono ?_
              rintro r0 w4 ⟨fd, rfl, hb, harm⟩
              rw [← HB3Q.out]
              have hbs4 : B0 ≤ w3.heap.size := by have := HL3.out.lt; omega
              have hbl4 : Below B0 w3 w4 := hb.mono hbs4
              have HB4 := Lib.hid (HB3.out.trans hbl4)
              have HN4 := Lib.hid (HN3.out.low hbl4)
              have HT4 := Lib.hid (HT3.out.low hbl4)
              have HL4 := Lib.hid (HL3.out.news hb)
              clear hbs4 hbl4 HB3 HN3 HT3 HL3
              clear hb
              obtain ⟨ar, har⟩ : ∃ ar, ar = armOf 0 A := ⟨_, rfl⟩
              rw [← har] at harm
              have HAR := Lib.hid har
              clear har
              cases ar with
              | none =>
                have hfd : fd = -1 := harm
                subst hfd
                clear harm
                have g6 := HL4.out.cells.2.2.2.2.2.2
                have f6 := HL4.out.free 6
                have hset := HL4.out.set 6 (.bool true) (i' := i2) (j' := jx) (sz' := sz + (X.numBytes 0 4).length) (bad' := true) (by simp) HL4.out.len
                have HSET := Lib.hid hset
                clear hset
                go_wp2_with fail
                have hset := HSET.out
                clear HSET g6 f6
                generalize w4.setCell ⟨q, 6, none⟩ (.bool true) = w5 at *
                have hbs5 : B0 ≤ w4.heap.size := by have := HL4.out.lt; omega
                have hbl5 : Below B0 w4 w5 := hset.2
                have HB5 := Lib.hid (HB4.out.trans hbl5)
                have HN5 := Lib.hid (HN4.out.low hbl5)
                have HT5 := Lib.hid (HT4.out.low hbl5)
                have HL5 := Lib.hid (hset.1)
                clear hbs5 hbl5 HB4 HN4 HT4 HL4
                clear hset
                have hrel3 := rel_bad HR.out (i' := i2) (j' := jx) (b' := putB (bb) (sz) (X.numBytes 0 4)) (K' := K1 + 16) (X.numBytes 0 4).length (by rw [X.numBytes_length]; omega)
                have HR3 := Lib.hid hrel3
                have hxx := HX1.out.trans (runM_step _ _ r3 (armL (fun n N T => ly (some n) A N T)) hyy)
                rw [show stepM m1 (armL (fun n N T => ly (some n) A N T)) = none from hno.and (least := 0) (most := 4294967295) (size := 4) (fun h => ⟨by omega, by omega⟩) (fun N T N' T' => ly (some (N.headD 0)) A N' T')] at hxx
                have HXX := Lib.hid hxx
                clear hrel3 hxx
                go_roundg (S.size - b3 + 1)
                case measure => omega
                case rel => exact ⟨b3, r3, _, by omega, by omega, by go_num, by omega, HP3.out, HW3.out, HF3.out, ⟨HN5.out, HT5.out, _, _, _, _, _, _, HL5.out, HR3.out.more (by omega)⟩, HB5.out, HXX.out⟩
              | some rI =>
                obtain ⟨bA, d, tA, rfl, hbA1, hbA2, hpA, htA⟩ := harm
                have g6 := HL4.out.cells.2.2.2.2.2.2
                have hrel3 := rel_bad HR.out (i' := i2) (j' := jx) (b' := putB (bb) (sz) (X.numBytes 0 4)) (K' := K1 + 16) (X.numBytes 0 4).length (by rw [X.numBytes_length]; omega)
                have HR3 := Lib.hid hrel3
                have hxx := HX1.out.trans (runM_step _ _ r3 (armL (fun n N T => ly (some n) A N T)) hyy)
                rw [show stepM m1 (armL (fun n N T => ly (some n) A N T)) = none from hno.and (least := 0) (most := 4294967295) (size := 4) (fun h => ⟨by omega, by omega⟩) (fun N T N' T' => ly (some (N.headD 0)) A N' T')] at hxx
                have HXX := Lib.hid hxx
                clear hrel3 hxx
                go_wp2
                go_roundg (S.size - b3 + 1)
                case measure => omega
                case rel => exact ⟨b3, r3, _, by omega, by omega, by go_num, by omega, HP3.out, HW3.out, HF3.out, ⟨HN4.out, HT4.out, _, _, _, _, _, _, HL4.out, HR3.out.more (by first | omega | (have := HBQ.out; omega))⟩, HB4.out, HXX.out⟩
      · have hc' : isSign c = false := by simpa using hc
        have hne : ∀ d : UInt8, isSign d = true → (((S[b]).toNat : Int) == (d.toNat : Int)) = false := by
          intro d hd
          rw [beq_eq_false_iff_ne, hat]
          intro e
          have e2 : c = d := UInt8.toNat_inj.1 (by omega)
          rw [e2, hd] at hc'
          cases hc'
        have n1' : (((S[b]).toNat : Int) == 117) = false := hne 117 rfl
        have n2' : (((S[b]).toNat : Int) == 113) = false := hne 113 rfl
        have n3' : (((S[b]).toNat : Int) == 98) = false := hne 98 rfl
        have n4' : (((S[b]).toNat : Int) == 111) = false := hne 111 rfl
        have n5' : (((S[b]).toNat : Int) == 102) = false := hne 102 rfl
        have n6' : (((S[b]).toNat : Int) == 63) = false := hne 63 rfl
        have n7' : (((S[b]).toNat : Int) == 42) = false := hne 42 rfl
        have n8' : (((S[b]).toNat : Int) == 60) = false := hne 60 rfl
        have hst := Pn_stop hc' HPC.out
        have hbe : b = en := by
          have h := HEN.out
          rw [hst.2, List.length_cons, List.length_drop] at h
          omega
        have HST := Lib.hid hst
        subst hbe
        clear hst hne hat hc hc'
        go_wp2
        go_ret
        refine ⟨by first | rfl | (congr 2; go_num), HB0.out, ?_⟩
        rw [HX1.out, HST.out.1, runM_nil, ← hK1]
        exact ⟨HN0.out, HT0.out, _, _, _, _, _, _, HL0.out, HR.out⟩
    · have hnil : F.drop b = [] := List.drop_eq_nil_of_le (by omega)
      have hst := HPN.out
      rw [hnil, Pn_nil] at hst
      simp only [Option.some.injEq, Prod.mk.injEq] at hst
      obtain ⟨rfl, rfl⟩ := hst
      have hbe : b = en := by
        have h := HEN.out
        simp only [List.length_nil] at h
        omega
      subst hbe
      clear hnil
      go_wp2
      go_ret
      refine ⟨by first | rfl | (congr 2; go_num), HB0.out, ?_⟩
      rw [HX1.out, runM_nil, ← hK1]
      exact ⟨HN0.out, HT0.out, _, _, _, _, _, _, HL0.out, HR.out⟩
end Go.Proofs.YtjogcdkebplcpaaGreatDoor
