/-
  Several texts in one (Ee, Rl, Dz, Ea, Ew): SchemaEncodes walk and what it stands on. Their conditions: as each says.
-/
import Derived.Test.YtjogcdkebplcpaaGreatDoorLe
import Derived.Test.YtjogcdkebplcpaaGreatDoorRk
import Derived.Test.YtjogcdkebplcpaaGreatDoorEn
import Derived.Test.YtjogcdkebplcpaaGreatDoorSr
import Derived.Deep.DeepCutAuto
import Derived.Deep.LoopGhost
import Derived.Deep.AppendSrc
import Derived.Deep.OwnRows
import Derived.OwnWalk
import Derived.Deep.RegionHeld3
namespace Go.Proofs.YtjogcdkebplcpaaGreatDoor
open Go.RowKit Sch

theorem lay_all (F : List UInt8) (hF : F.length ≤ 1000) (B0 q : Nat) (aN : Option Addr) (cN : Nat) (N0 : List Int) (aT : Option Addr) (cT : Nat) (T0 : List ByteArray) (hNl : N0.length ≤ 1000000000000) (hTl : T0.length ≤ 1000000000000) (hRG : ∀ x ∈ N0, -9223372036854775808 ≤ x ∧ x ≤ 9223372036854775807) : ∀ M, LyC F M B0 q aN cN N0 aT cT T0
  | 0 => lay_of F hF 0 B0 q aN cN N0 aT cT T0 hNl hTl hRG (fun h => absurd h (by omega))
  | M + 1 => lay_of F hF (M + 1) B0 q aN cN N0 aT cT T0 hNl hTl hRG (fun _ => lay_all F hF B0 q aN cN N0 aT cT T0 hNl hTl hRG M)
theorem form_row2 {F : List UInt8} {r : Row} (h : form num6 F = some r) : F.length ≤ 1000 ∧ Pn 0 F = some (r, []) := by
  unfold form at h
  split at h
  · cases h
  · rename_i hl
    refine ⟨by omega, ?_⟩
    unfold Pn
    split at h
    · rename_i r' he
      simp only [Option.some.injEq] at h
      subst h
      exact he
    · cases h
theorem own_text {P : Program} {w : World} {v : Value} {l : List UInt8} (h : w.ownsRow 0 5 1 v l.length (X.cellsOf l)) (src dst : TypeId) (hs : P.underlying src = some (.slice 5)) (he : P.underlying 5 = some (.int .u8)) (hd : P.underlying dst = some .string) :
    (convert src dst v).run P w = .ok (.string ⟨l.toArray⟩) w := by
  have hl := h
  rcases h.2 with ⟨rfl, h0⟩ | ⟨g, cap, cur, rfl, _, hg, _⟩
  · have : l = [] := List.eq_nil_of_length_eq_zero h0
    subst this
    exact run_convert_bytes_nil w src 5 hs he 0 0 dst hd
  · refine run_convert_bytes_back w src dst 5 _ cap l hs he hd fun j hj => ?_
    exact hl.cells (g := g) rfl j _ (by simp [X.cellsOf, List.getElem?_eq_getElem hj])
theorem Below.drewX (B : Nat) (w : World) : Below B w w.drew := ⟨rfl, rfl, rfl, Nat.le_refl _, fun _ _ => rfl⟩
/-- What doesn't fit is told by one number. -/
theorem andL_four {x : Lr} {f : List Int → List ByteArray → Lr} (h : ∀ e, x = .error e → e = 4) (hf : ∀ N T e, f N T = .error e → e = 4) (e : Int) (he : andL x f = .error e) : e = 4 := by
  cases x with
  | error e' => simp only [andL, Except.error.injEq] at he; subst he; exact h _ rfl
  | ok z =>
    obtain ⟨b, N, T⟩ := z
    simp only [andL] at he
    cases hx : f N T with
    | error e' => rw [hx] at he; simp only [preL, Except.error.injEq] at he; subst he; exact hf _ _ _ hx
    | ok y => rw [hx] at he; simp [preL] at he
theorem numL_four {least most : Int} {size : Nat} {N : List Int} {T : List ByteArray} (e : Int) (h : numL least most size N T = .error e) : e = 4 := by
  cases N with
  | nil => simp only [numL, Except.error.injEq] at h; exact h.symm
  | cons n N =>
    simp only [numL] at h
    split at h
    · cases h
    · simp only [Except.error.injEq] at h; exact h.symm
theorem rep_four {f : List Int → List ByteArray → Lr} (hf : ∀ N T e, f N T = .error e → e = 4) : ∀ (k : Nat) (N : List Int) (T : List ByteArray) (e : Int), repL f k N T = .error e → e = 4
  | 0, _, _, _, h => by simp [repL] at h
  | k + 1, N, T, e, h => by
    simp only [repL] at h
    cases hx : andL (f N T) (repL f k) with
    | error e' =>
      rw [hx] at h
      simp only [preL, Except.error.injEq] at h
      subst h
      exact andL_four (fun e h => hf N T e h) (fun N T e h => rep_four hf k N T e h) _ hx
    | ok y => rw [hx] at h; simp [preL] at h
theorem ly_four : ∀ (r : Row) (m : Option Int) (N : List Int) (T : List ByteArray) (e : Int), ly m r N T = .error e → e = 4
  | .nil, none, _, _, _, h => by simp [ly] at h
  | .one c r, none, N, T, e, h => by
    simp only [ly] at h
    refine andL_four (fun e h => ?_) (fun N T e h => ly_four r none N T e h) e h
    unfold oneL at h
    split at h
    · exact numL_four e h
    · split at h <;> exact numL_four e h
  | .num c k r, none, N, T, e, h => by
    simp only [ly] at h
    refine andL_four (fun e h => ?_) (fun N T e h => ly_four r none N T e h) e h
    cases T with
    | nil => simp only [txtL, Except.error.injEq] at h; exact h.symm
    | cons s T =>
      simp only [txtL] at h
      split at h
      · split at h
        · cases h
        · simp only [Except.error.injEq] at h; exact h.symm
      · split at h
        · cases h
        · simp only [Except.error.injEq] at h; exact h.symm
  | .opt c i r, none, N, T, e, h => by
    simp only [ly] at h
    refine andL_four (fun e h => ?_) (fun N T e h => ly_four r none N T e h) e h
    split at h
    · refine andL_four (fun e h => numL_four e h) (fun N' T' e h => ?_) e h
      split at h
      · exact ly_four i none N' T' e h
      · cases h
    · cases N with
      | nil => simp only [timesL, Except.error.injEq] at h; exact h.symm
      | cons n N =>
        simp only [timesL] at h
        split at h
        · exact rep_four (fun N T e h => ly_four i none N T e h) _ _ _ e h
        · simp only [Except.error.injEq] at h; exact h.symm
  | .ch a r, none, N, T, e, h => by
    simp only [ly] at h
    refine andL_four (fun e h => ?_) (fun N T e h => ly_four r none N T e h) e h
    exact andL_four (fun e h => numL_four e h) (fun N' T' e h => ly_four a (some _) N' T' e h) e h
  | .arm k i r, some n, N, T, e, h => by
    simp only [ly] at h
    split at h
    · exact ly_four i none N T e h
    · exact ly_four r (some n) N T e h
  | .arm _ _ _, none, _, _, _, h => by simp only [ly, Except.error.injEq] at h; exact h.symm
  | .nil, some _, _, _, _, h => by simp only [ly, Except.error.injEq] at h; exact h.symm
  | .one _ _, some _, _, _, _, h => by simp only [ly, Except.error.injEq] at h; exact h.symm
  | .num _ _ _, some _, _, _, _, h => by simp only [ly, Except.error.injEq] at h; exact h.symm
  | .opt _ _ _, some _, _, _, _, h => by simp only [ly, Except.error.injEq] at h; exact h.symm
  | .ch _ _, some _, _, _, _, h => by simp only [ly, Except.error.injEq] at h; exact h.symm

set_option maxRecDepth 100000 in
set_option maxHeartbeats 4000000 in
theorem refenc_any (F : List UInt8) (B : Nat) (aN : Option Addr) (cN : Nat) (N0 : List Int) (aT : Option Addr) (cT : Nat) (T0 : List ByteArray) (w : World) (hB : B ≤ w.heap.size) (hN : ItsAt B w aN N0) (hT : StsAt B w aT T0) (hw : worth N0 T0 ≤ 400000000000000) (hRG : ∀ x ∈ N0, -9223372036854775808 ≤ x ∧ x ≤ 9223372036854775807) (x : Except Int (List UInt8)) (hx : encO F N0 T0 = x) :
    Calls Tryz.prog 10 #[.string ⟨F.toArray⟩, .agg #[.slice aN N0.length cN, .slice aT T0.length cT]] w (EnTo w x) := by
  have hck := fun w => refCheck_any ⟨F.toArray⟩ w
  have hdt : (⟨F.toArray⟩ : ByteArray).data.toList = F := by simp
  rw [hdt] at hck
  obtain ⟨S, hS⟩ : ∃ S : ByteArray, S = ⟨F.toArray⟩ := ⟨_, rfl⟩
  have hwl : N0.length ≤ 1000000000000 ∧ T0.length ≤ 1000000000000 := by unfold worth at hw; omega
  have hly : ∀ (r : Row), form num6 F = some r → ∀ (B0 q : Nat) (w : World), ST B0 q aN cN N0 aT cT T0 (worth N0 T0) (some ([], N0, T0)) w →
      Calls Tryz.prog 21 #[.string S, .int .i64 0, .pointer (some ⟨q, 0, none⟩)] w fun e w' => e = .returned (.int .i64 ((F.length - ([] : List UInt8).length : Nat) : Int)) ∧ Below B0 w w' ∧ ST B0 q aN cN N0 aT cT T0 (worth N0 T0 + 16 * (F.length - ([] : List UInt8).length - 0)) (runM (some ([], N0, T0)) r) w' := by
    intro r hr B0 q w hst
    rw [hS]
    obtain ⟨h1, h2⟩ := form_row2 hr
    have h5 : form num5 F = some r := by rw [← form_56]; exact hr
    exact lay_all F h1 B0 q aN cN N0 aT cT T0 hwl.1 hwl.2 hRG F.length 0 0 r [] (Nat.zero_le _) (by omega) h2 (wf_form h5).1 (full_form h5) (worth N0 T0) _ w hst (by omega)
  rw [← hS]
  rw [← hS] at hck
  unfold encO at hx
  rw [← form_56] at hx
  have HCK := Lib.hid hck
  have HLY := Lib.hid hly
  have HN := Lib.hid hN
  have HT := Lib.hid hT
  clear hck hly hS hdt hRG hN hT
  cases hf : form num6 F with
  | none =>
    rw [hf] at hx HCK
    simp only at hx
    subst hx
    go_enter Tryz.func10, Tryz.ntmps10
    go_wp2_with fail
    refine (HCK.out _).mono ?_
    rintro e w1 ⟨rfl, hB1⟩
    have HB1 := Lib.hid (((Below.refl w.heap.size w).alloc (Nat.le_refl _) (.cells #[.slice aN N0.length cN, .slice aT T0.length cT] 30)).trans (hB1.mono (by simp)))
    clear hB1 HLY
    simp only [Option.isSome_none]
    go_wp2
    go_ret2
    exact ⟨HB1.out, rfl⟩
  | some r =>
    rw [hf] at hx HCK
    simp only at hx
    have HF := Lib.hid hf
    have HX := Lib.hid hx
    clear hf hx
    go_enter Tryz.func10, Tryz.ntmps10
    go_wp2_with fail
    refine (HCK.out _).mono ?_
    rintro e w1 ⟨rfl, hB1⟩
    have hg := (hB1.block w.heap.size (by simp)).trans (heap_alloc_new w (.cells #[.slice aN N0.length cN, .slice aT T0.length cT] 30))
    have hbw : Below w.heap.size w w1 := ((Below.refl w.heap.size w).alloc (Nat.le_refl _) (.cells #[.slice aN N0.length cN, .slice aT T0.length cT] 30)).trans (hB1.mono (by simp))
    have HB1 := Lib.hid hbw
    have HN1 := Lib.hid (HN.out.up (hbw.mono hB) (show B ≤ w1.heap.size by have := hbw.size; omega))
    have HT1 := Lib.hid (HT.out.up (hbw.mono hB) (show B ≤ w1.heap.size by have := hbw.size; omega))
    have HG := Lib.hid hg
    have k0 : w1.cell? ⟨w.heap.size, 0, none⟩ = some (.slice aN N0.length cN) := by rw [cell_of_row _ _ _ _ _ _ hg]; rfl
    have k1 : w1.cell? ⟨w.heap.size, 1, none⟩ = some (.slice aT T0.length cT) := by rw [cell_of_row _ _ _ _ _ _ hg]; rfl
    have hw1 : w.heap.size < w1.heap.size := (Array.getElem?_eq_some_iff.1 hg).1
    clear hB1 hbw hg HCK HN HT
    simp only [Option.isSome_some]
    go_wp2_with fail
    have hst : ST w1.heap.size w1.heap.size aN cN N0 aT cT T0 (worth N0 T0) (some ([], N0, T0)) (w1.alloc (.cells #[.slice aN N0.length cN, .slice aT T0.length cT, .int .i64 0, .int .i64 0, .slice none 0 0, .int .i64 0, .bool false] 56)) := by
      have hb := (Below.refl w1.heap.size w1).alloc (Nat.le_refl _) (.cells #[.slice aN N0.length cN, .slice aT T0.length cT, .int .i64 0, .int .i64 0, .slice none 0 0, .int .i64 0, .bool false] 56)
      refine ⟨HN1.out.low hb, HT1.out.low hb, 0, 0, [], .slice none 0 0, 0, false, ⟨heap_alloc_new w1 _, ⟨rfl, .inl ⟨rfl, rfl⟩⟩, (fun k hk => by cases hk), Nat.le_refl _, Nat.le_refl _⟩, rfl, rfl, fun _ => rfl, Nat.zero_le _, Nat.zero_le _, rfl, rfl, ?_⟩
      simp
    have hb2 : Below w1.heap.size w1 (w1.alloc (.cells #[.slice aN N0.length cN, .slice aT T0.length cT, .int .i64 0, .int .i64 0, .slice none 0 0, .int .i64 0, .bool false] 56)) := (Below.refl w1.heap.size w1).alloc (Nat.le_refl _) _
    generalize w1.alloc (.cells #[.slice aN N0.length cN, .slice aT T0.length cT, .int .i64 0, .int .i64 0, .slice none 0 0, .int .i64 0, .bool false] 56) = w2 at *
    refine (HLY.out r HF.out w1.heap.size w1.heap.size w2 hst).mono ?_
    rintro e w3 ⟨rfl, hb3, hst3⟩
    obtain ⟨_, _, ix, jx, bb, vO, sz, bad, hlb, hrl⟩ := hst3
    have hkeep : w3.heap[w.heap.size]? = some (.cells #[.slice aN N0.length cN, .slice aT T0.length cT] 30 (0, 0)) := (hb3.block _ hw1).trans ((hb2.block _ hw1).trans HG.out)
    have d0 : w3.cell? ⟨w.heap.size, 0, none⟩ = some (.slice aN N0.length cN) := by rw [cell_of_row _ _ _ _ _ _ hkeep]; rfl
    have d1 : w3.cell? ⟨w.heap.size, 1, none⟩ = some (.slice aT T0.length cT) := by rw [cell_of_row _ _ _ _ _ _ hkeep]; rfl
    have HB3 := Lib.hid (HB1.out.trans ((hb2.trans hb3).mono (by omega)))
    obtain ⟨c0, c1, c2, c3, c4, c5, c6⟩ := hlb.cells
    have HO := Lib.hid hlb.out
    have hx2 := HX.out
    unfold laidO at hx2
    have hrm : runM (some ([], N0, T0)) r = resM [] (ly none r N0 T0) := rfl
    rw [hrm] at hrl
    have hwn : N0.length ≤ 1000000000000 := hwl.1
    have hwt : T0.length ≤ 1000000000000 := hwl.2
    clear hst hb2 hb3 HLY HF HX HB1 HG k0 k1 hkeep hlb HN1 HT1 hrm hwl
    cases hy : ly none r N0 T0 with
    | error e =>
      have he : e = 4 := ly_four r none N0 T0 e hy
      subst he
      rw [hy] at hrl hx2
      simp only at hx2
      obtain ⟨hbd, _⟩ := hrl
      subst hbd
      have HX2 := Lib.hid hx2.symm
      clear hx2 hy
      go_wp2
      go_region
      go_wp2
      go_ret2
      refine ⟨HB3.out.trans (Below.drewX _ _), ?_⟩
      rw [HX2.out]
      rfl
    | ok z =>
      obtain ⟨b2, N2, T2⟩ := z
      rw [hy] at hrl hx2
      obtain ⟨hbd, h1, h3, h4, h5, h6, h7, h2⟩ := hrl
      subst hbd
      simp only [List.nil_append] at h1 h3
      subst h1
      simp only at hx2
      have hl6 := congrArg List.length h6
      have hl7 := congrArg List.length h7
      rw [List.length_drop] at hl6 hl7
      by_cases hn2 : N2 = []
      · subst hn2
        simp only [List.length_nil] at hl6
        have hni : decide (ix < N0.length) = false := decide_eq_false (by omega)
        by_cases ht2 : T2 = []
        · subst ht2
          simp only [List.length_nil] at hl7
          have hnj : decide (jx < T0.length) = false := decide_eq_false (by omega)
          simp only [and_self, if_true] at hx2
          by_cases hbig : 65536 < b2.length
          · rw [if_pos hbig] at hx2
            have hbi : (65536 : Int) < (b2.length : Int) := by omega
            have HX2 := Lib.hid hx2.symm
            clear hx2 hy h2 h3 h4 h5 h6 h7 hl6 hl7
            go_wp2
            go_region
            go_wp2
            go_ret2
            refine ⟨HB3.out.trans (Below.drewX _ _), ?_⟩
            rw [HX2.out]
            rfl
          · rw [if_neg hbig] at hx2
            have hbi : ¬ (65536 : Int) < (b2.length : Int) := by omega
            have hbb : bb = b2 := h3 (by omega)
            subst hbb
            have HX2 := Lib.hid hx2.symm
            have hcv := own_text (P := Tryz.prog) HO.out 54 9 Tryz.underlying54 Tryz.underlying5 Tryz.underlying9
            have hcv2 : (convert 54 9 vO).run Tryz.prog w3.drew = .ok (.string ⟨bb.toArray⟩) w3.drew := own_text (P := Tryz.prog) (ownsB_kept HO.out (w' := w3.drew) fun k _ => rfl) 54 9 Tryz.underlying54 Tryz.underlying5 Tryz.underlying9
            clear hx2 hy h2 h3 h4 h5 h6 h7 hl6 hl7 hcv
            go_wp2
            go_region
            go_wp2
            go_ret2
            refine ⟨HB3.out.trans (Below.drewX _ _), ?_⟩
            rw [HX2.out]
            rfl
        · have hl0 : 0 < T2.length := List.length_pos_iff.2 ht2
          rw [if_neg (fun e => ht2 e.2)] at hx2
          have hnj : decide (jx < T0.length) = true := decide_eq_true (by omega)
          have HX2 := Lib.hid hx2.symm
          clear hx2 hy h2 h3 h4 h5 h6 h7 hl6 hl7
          go_wp2
          go_region
          go_wp2
          go_ret2
          refine ⟨HB3.out.trans (Below.drewX _ _), ?_⟩
          rw [HX2.out]
          rfl
      · have hl0 : 0 < N2.length := List.length_pos_iff.2 hn2
        rw [if_neg (fun e => hn2 e.1)] at hx2
        have hni : decide (ix < N0.length) = true := decide_eq_true (by omega)
        have HX2 := Lib.hid hx2.symm
        clear hx2 hy h2 h3 h4 h5 h6 h7 hl6 hl7
        go_wp2
        go_region
        go_wp2
        go_ret2
        refine ⟨HB3.out.trans (Below.drewX _ _), ?_⟩
        rw [HX2.out]
        rfl
end Go.Proofs.YtjogcdkebplcpaaGreatDoor
namespace Go.Proofs.YtjogcdkebplcpaaGreatDoor
open Go.RowKit Sch
theorem rput4 {n : Int} (h : 0 ≤ n ∧ n ≤ 4294967295) (l : List UInt8) : X.numR 4 (Y.numBytes n 4 ++ l) 0 = (n, l, 0) := by
  show X.numR 4 ([Y.byteAt n 24, Y.byteAt n 16, Y.byteAt n 8, Y.byteAt n 0] ++ l) 0 = (n, l, 0)
  unfold X.numR
  rw [if_neg (by simp)]
  have hbe : X.be (List.take 4 ([Y.byteAt n 24, Y.byteAt n 16, Y.byteAt n 8, Y.byteAt n 0] ++ l)) = 256 * (256 * (256 * (256 * 0 + (Y.byteAt n 24).toNat) + (Y.byteAt n 16).toNat) + (Y.byteAt n 8).toNat) + (Y.byteAt n 0).toNat := rfl
  rw [hbe]
  have h0 := Y.byteAt_toNat n 0
  have h1 := Y.byteAt_toNat n 8
  have h2 := Y.byteAt_toNat n 16
  have h3 := Y.byteAt_toNat n 24
  simp only [Int.reducePow] at h0 h1 h2 h3
  have hw : IntKind.i64.wrap ((256 * (256 * (256 * (256 * 0 + (Y.byteAt n 24).toNat) + (Y.byteAt n 16).toNat) + (Y.byteAt n 8).toNat) + (Y.byteAt n 0).toNat : Nat) : Int) = n := by
    rw [IntKind.wrap_i64]
    omega
  rw [hw]
  rfl
theorem rput8 {n : Int} (h : -9223372036854775808 ≤ n ∧ n ≤ 9223372036854775807) (l : List UInt8) : X.numR 8 (Y.numBytes n 8 ++ l) 0 = (n, l, 0) := by
  show X.numR 8 ([Y.byteAt n 56, Y.byteAt n 48, Y.byteAt n 40, Y.byteAt n 32, Y.byteAt n 24, Y.byteAt n 16, Y.byteAt n 8, Y.byteAt n 0] ++ l) 0 = (n, l, 0)
  unfold X.numR
  rw [if_neg (by simp)]
  have hbe : X.be (List.take 8 ([Y.byteAt n 56, Y.byteAt n 48, Y.byteAt n 40, Y.byteAt n 32, Y.byteAt n 24, Y.byteAt n 16, Y.byteAt n 8, Y.byteAt n 0] ++ l)) =
      256 * (256 * (256 * (256 * (256 * (256 * (256 * (256 * 0 + (Y.byteAt n 56).toNat) + (Y.byteAt n 48).toNat) + (Y.byteAt n 40).toNat) + (Y.byteAt n 32).toNat) + (Y.byteAt n 24).toNat) + (Y.byteAt n 16).toNat) + (Y.byteAt n 8).toNat) + (Y.byteAt n 0).toNat := rfl
  rw [hbe]
  have h0 := Y.byteAt_toNat n 0
  have h1 := Y.byteAt_toNat n 8
  have h2 := Y.byteAt_toNat n 16
  have h3 := Y.byteAt_toNat n 24
  have h4 := Y.byteAt_toNat n 32
  have h5 := Y.byteAt_toNat n 40
  have h6 := Y.byteAt_toNat n 48
  have h7 := Y.byteAt_toNat n 56
  simp only [Int.reducePow] at h0 h1 h2 h3 h4 h5 h6 h7
  have hw : IntKind.i64.wrap ((256 * (256 * (256 * (256 * (256 * (256 * (256 * (256 * 0 + (Y.byteAt n 56).toNat) + (Y.byteAt n 48).toNat) + (Y.byteAt n 40).toNat) + (Y.byteAt n 32).toNat) + (Y.byteAt n 24).toNat) + (Y.byteAt n 16).toNat) + (Y.byteAt n 8).toNat) + (Y.byteAt n 0).toNat : Nat) : Int) = n := by
    rw [IntKind.wrap_i64]
    generalize (Y.byteAt n 56).toNat = c7 at *
    generalize (Y.byteAt n 48).toNat = c6 at *
    generalize (Y.byteAt n 40).toNat = c5 at *
    generalize (Y.byteAt n 32).toNat = c4 at *
    generalize (Y.byteAt n 24).toNat = c3 at *
    generalize (Y.byteAt n 16).toNat = c2 at *
    generalize (Y.byteAt n 8).toNat = c1 at *
    generalize (Y.byteAt n 0).toNat = c0 at *
    have d1 : n / 256 = n / 1 / 256 := by omega
    have d2 : n / 65536 = n / 256 / 256 := by omega
    have d3 : n / 16777216 = n / 65536 / 256 := by omega
    have d4 : n / 4294967296 = n / 16777216 / 256 := by omega
    have d5 : n / 1099511627776 = n / 4294967296 / 256 := by omega
    have d6 : n / 281474976710656 = n / 1099511627776 / 256 := by omega
    have d7 : n / 72057594037927936 = n / 281474976710656 / 256 := by omega
    generalize n / 256 = m1 at *
    generalize n / 65536 = m2 at *
    generalize n / 16777216 = m3 at *
    generalize n / 4294967296 = m4 at *
    generalize n / 1099511627776 = m5 at *
    generalize n / 281474976710656 = m6 at *
    generalize n / 72057594037927936 = m7 at *
    omega
  rw [hw]
  rfl
theorem rputB {b : Bool} (l : List UInt8) : X.boolR (Y.numBytes (b2i b) 4 ++ l) 0 = (b, l, 0) := by
  unfold X.boolR
  rw [rput4 (by cases b <;> decide)]
  cases b <;> rfl
theorem rput0 (l : List UInt8) : X.boolR (Y.numBytes 0 4 ++ l) 0 = (false, l, 0) := rputB (b := false) l
theorem rput1 (l : List UInt8) : X.boolR (Y.numBytes 1 4 ++ l) 0 = (true, l, 0) := rputB (b := true) l
theorem rputF (s : ByteArray) (l : List UInt8) : X.fixR s.size (Y.fixedOf s ++ l) 0 = (s, l, 0) := by
  have e0 : s.data.toList.length = s.size := by simp
  have h1 : (Y.fixedOf s ++ l).take s.size = s.data.toList := by unfold Y.fixedOf; rw [List.append_assoc, ← e0, List.take_left]
  have h2 : (Y.fixedOf s ++ l).drop s.size = List.replicate (Y.pad s.size) 0 ++ l := by unfold Y.fixedOf; rw [List.append_assoc, ← e0, List.drop_left]
  have hlen : (Y.fixedOf s ++ l).length = s.size + Y.pad s.size + l.length := by unfold Y.fixedOf; simp; omega
  rw [X.fixR_nat, if_neg (by rw [hlen, pad_xy]; omega), if_pos, h1]
  · have h3 : (Y.fixedOf s ++ l).drop (s.size + X.pad s.size) = l := by
      rw [← List.drop_drop, h2, pad_xy]
      have := List.drop_left (l₁ := List.replicate (Y.pad s.size) (0 : UInt8)) (l₂ := l)
      rwa [List.length_replicate] at this
    rw [h3]
  · rw [h2, pad_xy]
    have := List.take_left (l₁ := List.replicate (Y.pad s.size) (0 : UInt8)) (l₂ := l)
    rw [List.length_replicate] at this
    rw [this]
    simp
theorem rputO {s : ByteArray} {k : Nat} (hs : s.size ≤ k) (hk : k ≤ 99999) (l : List UInt8) : X.opqR k (Y.opaqueOf s ++ l) 0 = (s, l, 0) := by
  unfold X.opqR Y.opaqueOf
  rw [List.append_assoc, rput4 (by omega), if_neg (show ¬ ((k : Int) < 0) by omega), if_neg (by show ¬ ((k : Int) < (s.size : Int)); omega)]
  exact rputF s l

/-- What f lays out, g takes as it was. -/
def Lnv (f : List Int → List ByteArray → Lr) (g : List UInt8 → Tr) : Prop :=
  ∀ N T y N' T', f N T = .ok (y, N', T') → ∃ n t, N = n ++ N' ∧ T = t ++ T' ∧ ∀ z, g (y ++ z) = .ok (n, t, z)
theorem lnv_and {f f' : List Int → List ByteArray → Lr} {g g' : List UInt8 → Tr} (h : Lnv f g) (h' : Lnv f' g') : Lnv (fun N T => andL (f N T) f') (fun l => andT (g l) g') := by
  intro N T y N' T' e
  dsimp only at e
  cases hx : f N T with
  | error e' => rw [hx] at e; simp [andL] at e
  | ok q =>
    obtain ⟨y1, N1, T1⟩ := q
    rw [hx] at e
    simp only [andL] at e
    obtain ⟨n1, t1, a1, b1, c1⟩ := h _ _ _ _ _ hx
    cases hy : f' N1 T1 with
    | error e' => rw [hy] at e; simp [preL] at e
    | ok q =>
      obtain ⟨y2, N2, T2⟩ := q
      rw [hy] at e
      simp only [preL, Except.ok.injEq, Prod.mk.injEq] at e
      obtain ⟨rfl, rfl, rfl⟩ := e
      obtain ⟨n2, t2, a2, b2, c2⟩ := h' _ _ _ _ _ hy
      refine ⟨n1 ++ n2, t1 ++ t2, by rw [a1, a2, List.append_assoc], by rw [b1, b2, List.append_assoc], fun z => ?_⟩
      dsimp only
      rw [List.append_assoc, c1]
      simp only [andT, c2, pre]
theorem lnv_num4 : Lnv (fun N T => numL 0 4294967295 4 N T) (fun l => ofN (X.numR 4 l 0)) := by
  intro N T y N' T' e
  cases N with
  | nil => simp [numL] at e
  | cons n N =>
    unfold numL at e; dsimp only at e
    split at e
    · rename_i hn
      simp only [Except.ok.injEq, Prod.mk.injEq] at e
      obtain ⟨rfl, rfl, rfl⟩ := e
      refine ⟨[n], [], rfl, rfl, fun z => ?_⟩
      dsimp only
      rw [rput4 hn]
      rfl
    · cases e
theorem lnv_bool : Lnv (fun N T => numL 0 1 4 N T) (fun l => ofN (boolN l)) := by
  intro N T y N' T' e
  cases N with
  | nil => simp [numL] at e
  | cons n N =>
    unfold numL at e; dsimp only at e
    split at e
    · rename_i hn
      simp only [Except.ok.injEq, Prod.mk.injEq] at e
      obtain ⟨rfl, rfl, rfl⟩ := e
      refine ⟨[n], [], rfl, rfl, fun z => ?_⟩
      obtain ⟨b, rfl⟩ : ∃ b, n = b2i b := by
        by_cases h1 : n = 1
        · exact ⟨true, h1⟩
        · exact ⟨false, by show n = 0; omega⟩
      dsimp only
      unfold boolN
      rw [rputB]
      rfl
    · cases e
theorem lnv_one (c : UInt8) : Lnv (oneL c) (oneT c) := by
  by_cases h1 : c = 117
  · have e1 : oneT c = fun l => ofN (X.numR 4 l 0) := by funext l; unfold oneT; rw [if_pos h1]
    have e2 : oneL c = fun N T => numL 0 4294967295 4 N T := by funext N T; unfold oneL; rw [if_pos h1]
    rw [e1, e2]
    exact lnv_num4
  · by_cases h2 : c = 113
    · have e1 : oneT c = fun l => ofN (X.numR 8 l 0) := by funext l; unfold oneT; rw [if_neg h1, if_pos h2]
      have e2 : oneL c = fun N T => numL (-9223372036854775808) 9223372036854775807 8 N T := by funext N T; unfold oneL; rw [if_neg h1, if_pos h2]
      rw [e1, e2]
      intro N T y N' T' e
      cases N with
      | nil => simp [numL] at e
      | cons n N =>
        unfold numL at e; dsimp only at e
        split at e
        · rename_i hn
          simp only [Except.ok.injEq, Prod.mk.injEq] at e
          obtain ⟨rfl, rfl, rfl⟩ := e
          refine ⟨[n], [], rfl, rfl, fun z => ?_⟩
          dsimp only
          rw [rput8 hn]
          rfl
        · cases e
    · have e1 : oneT c = fun l => ofN (boolN l) := by funext l; unfold oneT; rw [if_neg h1, if_neg h2]
      have e2 : oneL c = fun N T => numL 0 1 4 N T := by funext N T; unfold oneL; rw [if_neg h1, if_neg h2]
      rw [e1, e2]
      exact lnv_bool
theorem lnv_txt (c : UInt8) {k : Nat} (hk : k ≤ 99999) : Lnv (txtL c k) (numT c k) := by
  intro N T y N' T' e
  cases T with
  | nil => simp [txtL] at e
  | cons s T =>
    unfold txtL at e; dsimp only at e
    split at e
    · rename_i hc
      split at e
      · rename_i hs
        simp only [Except.ok.injEq, Prod.mk.injEq] at e
        obtain ⟨rfl, rfl, rfl⟩ := e
        refine ⟨[], [s], rfl, rfl, fun z => ?_⟩
        unfold numT
        rw [if_pos hc, rputO hs hk]
        rfl
      · cases e
    · rename_i hc
      split at e
      · rename_i hs
        simp only [Except.ok.injEq, Prod.mk.injEq] at e
        obtain ⟨rfl, rfl, rfl⟩ := e
        refine ⟨[], [s], rfl, rfl, fun z => ?_⟩
        unfold numT
        rw [if_neg hc, ← hs, rputF]
        rfl
      · cases e
theorem lnv_maybe {f : List Int → List ByteArray → Lr} {g : List UInt8 → Tr} (h : Lnv f g) : Lnv (maybeL f) (maybeT g) := by
  intro N T y N' T' e
  unfold maybeL at e
  cases N with
  | nil => simp [numL, andL] at e
  | cons n N =>
    unfold numL at e; dsimp only at e
    split at e
    · rename_i hn
      simp only [andL] at e
      by_cases h1 : n = 1
      · subst h1
        rw [if_pos (by rfl)] at e
        cases hy : f N T with
        | error e' => rw [hy] at e; simp [preL] at e
        | ok q =>
          obtain ⟨y2, N2, T2⟩ := q
          rw [hy] at e
          simp only [preL, Except.ok.injEq, Prod.mk.injEq] at e
          obtain ⟨rfl, rfl, rfl⟩ := e
          obtain ⟨n2, t2, a2, b2, c2⟩ := h _ _ _ _ _ hy
          refine ⟨1 :: n2, t2, by rw [a2]; rfl, b2, fun z => ?_⟩
          unfold maybeT boolN ofN
          rw [List.append_assoc, rput1]
          dsimp only
          rw [if_pos rfl]
          simp only [andT, if_true, c2, pre]
          rfl
      · have h0 : n = 0 := by omega
        subst h0
        rw [if_neg (by simp)] at e
        simp only [preL, Except.ok.injEq, Prod.mk.injEq] at e
        obtain ⟨rfl, rfl, rfl⟩ := e
        refine ⟨[0], [], rfl, rfl, fun z => ?_⟩
        unfold maybeT boolN ofN
        rw [List.append_nil, rput0]
        dsimp only
        rw [if_pos rfl]
        simp only [andT, Bool.false_eq_true, if_false, pre]
        rfl
    · simp [andL] at e
theorem lnv_rep {f : List Int → List ByteArray → Lr} {g : List UInt8 → Tr} (h : Lnv f g) : ∀ (j : Nat) N T y N' T', repL f j N T = .ok (y, N', T') →
    4 * j + 4 ≤ y.length ∧ ∃ n t, N = n ++ N' ∧ T = t ++ T' ∧ ∀ z k, j < k → times g k (y ++ z) = .ok (j, n, t, z)
  | 0, N, T, y, N', T', e => by
    simp only [repL, Except.ok.injEq, Prod.mk.injEq] at e
    obtain ⟨rfl, rfl, rfl⟩ := e
    refine ⟨by rw [Y.numBytes_length]; omega, [], [], rfl, rfl, fun z k hk => ?_⟩
    obtain ⟨k, rfl⟩ : ∃ m, k = m + 1 := ⟨k - 1, by omega⟩
    unfold times
    rw [rput0]
    rfl
  | j + 1, N, T, y, N', T', e => by
    simp only [repL] at e
    cases hx : f N T with
    | error e' => rw [hx] at e; simp [andL, preL] at e
    | ok q =>
      obtain ⟨y1, N1, T1⟩ := q
      rw [hx] at e
      simp only [andL] at e
      cases hy : repL f j N1 T1 with
      | error e' => rw [hy] at e; simp [preL] at e
      | ok q =>
        obtain ⟨y2, N2, T2⟩ := q
        rw [hy] at e
        simp only [preL, Except.ok.injEq, Prod.mk.injEq] at e
        obtain ⟨rfl, rfl, rfl⟩ := e
        obtain ⟨n1, t1, a1, b1, c1⟩ := h _ _ _ _ _ hx
        obtain ⟨d2, n2, t2, a2, b2, c2⟩ := lnv_rep h j N1 T1 y2 N2 T2 hy
        refine ⟨by rw [List.length_append, List.length_append, Y.numBytes_length]; omega, n1 ++ n2, t1 ++ t2, by rw [a1, a2, List.append_assoc], by rw [b1, b2, List.append_assoc], fun z k hk => ?_⟩
        obtain ⟨k, rfl⟩ : ∃ m, k = m + 1 := ⟨k - 1, by omega⟩
        unfold times
        rw [List.append_assoc, List.append_assoc, rput1]
        dsimp only
        rw [if_neg (by simp), if_pos rfl, c1]
        dsimp only
        rw [c2 z k (by omega)]
theorem lnv_times {f : List Int → List ByteArray → Lr} {g : List UInt8 → Tr} (h : Lnv f g) : Lnv (timesL f) (timesT g) := by
  intro N T y N' T' e
  cases N with
  | nil => simp [timesL] at e
  | cons n N =>
    unfold timesL at e; dsimp only at e
    split at e
    · rename_i hn
      obtain ⟨d, n1, t1, a1, b1, c1⟩ := lnv_rep h _ _ _ _ _ _ e
      refine ⟨n :: n1, t1, by rw [a1]; rfl, b1, fun z => ?_⟩
      unfold timesT
      rw [c1 z _ (by rw [List.length_append]; omega)]
      dsimp only
      rw [Int.toNat_of_nonneg hn.1]
    · cases e
theorem back_ly : ∀ (r : Row) (m : Option Int) (b : Bool), wf b r → Lnv (ly m r) (tk m r)
  | .nil, none, _, _ => fun N T y N' T' e => by
    simp only [ly, Except.ok.injEq, Prod.mk.injEq] at e
    obtain ⟨rfl, rfl, rfl⟩ := e
    exact ⟨[], [], rfl, rfl, fun z => rfl⟩
  | .one c r, none, true, hw => by
    have := lnv_and (lnv_one c) (back_ly r none true hw.2)
    intro N T y N' T' e
    obtain ⟨n, t, a, b, d⟩ := this N T y N' T' (by simpa only [ly] using e)
    exact ⟨n, t, a, b, fun z => by rw [tk]; exact d z⟩
  | .num c k r, none, true, hw => by
    have := lnv_and (lnv_txt c hw.2.1) (back_ly r none true hw.2.2)
    intro N T y N' T' e
    obtain ⟨n, t, a, b, d⟩ := this N T y N' T' (by simpa only [ly] using e)
    exact ⟨n, t, a, b, fun z => by rw [tk]; exact d z⟩
  | .opt c i r, none, true, hw => by
    by_cases hc : c = 63
    · have := lnv_and (lnv_maybe (back_ly i none true hw.2.1)) (back_ly r none true hw.2.2)
      intro N T y N' T' e
      simp only [ly, if_pos hc] at e
      obtain ⟨n, t, a, b, d⟩ := this N T y N' T' e
      exact ⟨n, t, a, b, fun z => by rw [tk, if_pos hc]; exact d z⟩
    · have := lnv_and (lnv_times (back_ly i none true hw.2.1)) (back_ly r none true hw.2.2)
      intro N T y N' T' e
      simp only [ly, if_neg hc] at e
      obtain ⟨n, t, a, b, d⟩ := this N T y N' T' e
      exact ⟨n, t, a, b, fun z => by rw [tk, if_neg hc]; exact d z⟩
  | .ch a r, none, true, hw => by
    have ha : Lnv (armL fun n N' T' => ly (some n) a N' T') (armT fun n l1 => tk (some n) a l1) := by
      intro N T y N' T' e
      unfold armL at e
      cases N with
      | nil => simp [numL, andL] at e
      | cons n N =>
        unfold numL at e; dsimp only at e
        split at e
        · rename_i hn
          simp only [andL, List.headD_cons] at e
          cases hy : ly (some n) a N T with
          | error e' => rw [hy] at e; simp [preL] at e
          | ok q =>
            obtain ⟨y2, N2, T2⟩ := q
            rw [hy] at e
            simp only [preL, Except.ok.injEq, Prod.mk.injEq] at e
            obtain ⟨rfl, rfl, rfl⟩ := e
            obtain ⟨n2, t2, a2, b2, c2⟩ := back_ly a (some n) false hw.1 _ _ _ _ _ hy
            refine ⟨n :: n2, t2, by rw [a2]; rfl, b2, fun z => ?_⟩
            unfold armT ofN
            rw [List.append_assoc, rput4 hn]
            dsimp only
            rw [if_pos rfl]
            simp only [andT, c2, pre]
            rfl
        · simp [andL] at e
    have := lnv_and ha (back_ly r none true hw.2)
    intro N T y N' T' e
    obtain ⟨n, t, a, b, d⟩ := this N T y N' T' (by simpa only [ly] using e)
    exact ⟨n, t, a, b, fun z => by rw [tk]; exact d z⟩
  | .arm k i r, some n, false, hw => by
    intro N T y N' T' e
    simp only [ly] at e
    by_cases hk : k = n ∨ k = -1
    · rw [if_pos hk] at e
      obtain ⟨n', t, a, b, d⟩ := back_ly i none true hw.1 _ _ _ _ _ e
      exact ⟨n', t, a, b, fun z => by rw [tk, if_pos hk]; exact d z⟩
    · rw [if_neg hk] at e
      obtain ⟨n', t, a, b, d⟩ := back_ly r (some n) false hw.2 _ _ _ _ _ e
      exact ⟨n', t, a, b, fun z => by rw [tk, if_neg hk]; exact d z⟩
  | .arm _ _ _, none, _, _ => fun _ _ _ _ _ e => by simp [ly] at e
  | .nil, some _, _, _ => fun _ _ _ _ _ e => by simp [ly] at e
  | .one _ _, some _, _, _ => fun _ _ _ _ _ e => by simp [ly] at e
  | .num _ _ _, some _, _, _ => fun _ _ _ _ _ e => by simp [ly] at e
  | .opt _ _ _, some _, _, _ => fun _ _ _ _ _ e => by simp [ly] at e
  | .ch _ _, some _, _, _ => fun _ _ _ _ _ e => by simp [ly] at e
  | .one _ _, none, false, hw => absurd hw (by simp [wf])
  | .num _ _ _, none, false, hw => absurd hw (by simp [wf])
  | .opt _ _ _, none, false, hw => absurd hw (by simp [wf])
  | .ch _ _, none, false, hw => absurd hw (by simp [wf])
  | .arm _ _ _, some _, true, hw => absurd hw (by simp [wf])
end Go.Proofs.YtjogcdkebplcpaaGreatDoor
namespace Go.Proofs.YtjogcdkebplcpaaGreatDoor
open Go.RowKit Sch
theorem its_of {w : World} {B : Nat} {v : Value} {n : List Int} (h : w.ownsRow B 3 1 v n.length (ints n)) : ∃ ao c, v = .slice ao n.length c ∧ ItsAt w.heap.size w ao n ∧ n.length ≤ c ∧ c ≤ 9223372036854775807 := by
  have hh := h
  rcases h.2 with ⟨e, e2⟩ | ⟨g, cap, cur, e, _, hg, hc, hm, _⟩
  · exact ⟨none, 0, by rw [e, e2], fun i hi => by omega, by omega, by omega⟩
  · subst e
    refine ⟨_, cap, rfl, fun i hi => ⟨g, 0, rfl, (Array.getElem?_eq_some_iff.1 hg).1, ?_⟩, hc, by unfold maxLen at hm; omega⟩
    have := cellAt0 hh i (.int .i64 n[i]) (by simp [ints, hi])
    simpa using this
theorem sts_of {w : World} {B : Nat} {v : Value} {n : List ByteArray} (h : w.ownsRow B 9 1 v n.length (strs n)) : ∃ ao c, v = .slice ao n.length c ∧ StsAt w.heap.size w ao n ∧ n.length ≤ c ∧ c ≤ 9223372036854775807 := by
  have hh := h
  rcases h.2 with ⟨e, e2⟩ | ⟨g, cap, cur, e, _, hg, hc, hm, _⟩
  · exact ⟨none, 0, by rw [e, e2], fun i hi => by omega, by omega, by omega⟩
  · subst e
    refine ⟨_, cap, rfl, fun i hi => ⟨g, 0, rfl, (Array.getElem?_eq_some_iff.1 hg).1, ?_⟩, hc, by unfold maxLen at hm; omega⟩
    have := cellAt0 hh i (.string n[i]) (by simp [strs, hi])
    simpa using this
theorem its_at {B : Nat} {w : World} {ao : Option Addr} {n : List Int} (h : ItsAt B w ao n) {j : Nat} (hj : j < n.length) : ∃ g o, ao = some ⟨g, o, none⟩ ∧ w.cell? ⟨g, o + j, none⟩ = some (.int .i64 n[j]) := by
  obtain ⟨g, o, e, _, hc⟩ := h j hj
  exact ⟨g, o, e, hc⟩
theorem sts_at {B : Nat} {w : World} {ao : Option Addr} {n : List ByteArray} (h : StsAt B w ao n) {j : Nat} (hj : j < n.length) : ∃ g o, ao = some ⟨g, o, none⟩ ∧ w.cell? ⟨g, o + j, none⟩ = some (.string n[j]) := by
  obtain ⟨g, o, e, _, hc⟩ := h j hj
  exact ⟨g, o, e, hc⟩

set_option maxRecDepth 100000 in
set_option maxHeartbeats 4000000 in
theorem same_yes (n : List Int) (t : List ByteArray) (aN bN aT bT : Option Addr) (cN dN cT dT B : Nat) (w : World) (hB : B ≤ w.heap.size) (h1 : ItsAt B w aN n) (h2 : ItsAt B w bN n) (h3 : StsAt B w aT t) (h4 : StsAt B w bT t) (hn : n.length ≤ 1000000000) (ht : t.length ≤ 1000000000) :
    Calls Tryz.prog 8 #[.agg #[.slice aN n.length cN, .slice aT t.length cT], .agg #[.slice bN n.length dN, .slice bT t.length dT]] w fun e w' => e = .returned (.bool true) ∧ Below w.heap.size w w' := by
  have hbb := ((Below.refl w.heap.size w).alloc (Nat.le_refl _) (.cells #[.slice aN n.length cN, .slice aT t.length cT] 26)).alloc (by simp) (.cells #[.slice bN n.length dN, .slice bT t.length dT] 30)
  have hA : ((w.alloc (.cells #[.slice aN n.length cN, .slice aT t.length cT] 26)).alloc (.cells #[.slice bN n.length dN, .slice bT t.length dT] 30)).heap[w.heap.size]? = some (.cells #[.slice aN n.length cN, .slice aT t.length cT] 26 (0, 0)) := (Below.heap_alloc _ _ _ (by simp)).trans (heap_alloc_new w _)
  have hC : ((w.alloc (.cells #[.slice aN n.length cN, .slice aT t.length cT] 26)).alloc (.cells #[.slice bN n.length dN, .slice bT t.length dT] 30)).heap[w.heap.size + 1]? = some (.cells #[.slice bN n.length dN, .slice bT t.length dT] 30 (0, 0)) := by
    have h := heap_alloc_new (w.alloc (.cells #[.slice aN n.length cN, .slice aT t.length cT] 26)) (.cells #[.slice bN n.length dN, .slice bT t.length dT] 30)
    simpa using h
  have b1 := h1.up (hbb.mono hB) (Nat.le_refl B)
  have b2 := h2.up (hbb.mono hB) (Nat.le_refl B)
  have b3 := h3.up (hbb.mono hB) (Nat.le_refl B)
  have b4 := h4.up (hbb.mono hB) (Nat.le_refl B)
  have a0 : ((w.alloc (.cells #[.slice aN n.length cN, .slice aT t.length cT] 26)).alloc (.cells #[.slice bN n.length dN, .slice bT t.length dT] 30)).cell? ⟨w.heap.size, 0, none⟩ = some (.slice aN n.length cN) := by rw [cell_of_row _ _ _ _ _ _ hA]; rfl
  have a1 : ((w.alloc (.cells #[.slice aN n.length cN, .slice aT t.length cT] 26)).alloc (.cells #[.slice bN n.length dN, .slice bT t.length dT] 30)).cell? ⟨w.heap.size, 1, none⟩ = some (.slice aT t.length cT) := by rw [cell_of_row _ _ _ _ _ _ hA]; rfl
  have a2 : ((w.alloc (.cells #[.slice aN n.length cN, .slice aT t.length cT] 26)).alloc (.cells #[.slice bN n.length dN, .slice bT t.length dT] 30)).cell? ⟨w.heap.size + 1, 0, none⟩ = some (.slice bN n.length dN) := by rw [cell_of_row _ _ _ _ _ _ hC]; rfl
  have a3 : ((w.alloc (.cells #[.slice aN n.length cN, .slice aT t.length cT] 26)).alloc (.cells #[.slice bN n.length dN, .slice bT t.length dT] 30)).cell? ⟨w.heap.size + 1, 1, none⟩ = some (.slice bT t.length dT) := by rw [cell_of_row _ _ _ _ _ _ hC]; rfl
  have HBB := Lib.hid hbb
  have B1 := Lib.hid b1
  have B2 := Lib.hid b2
  have B3 := Lib.hid b3
  have B4 := Lib.hid b4
  have A0 := Lib.hid a0
  have A1 := Lib.hid a1
  have A2 := Lib.hid a2
  have A3 := Lib.hid a3
  clear hbb hA hC b1 b2 b3 b4 a0 a1 a2 a3 h1 h2 h3 h4
  generalize hw2 : (w.alloc (.cells #[.slice aN n.length cN, .slice aT t.length cT] 26)).alloc (.cells #[.slice bN n.length dN, .slice bT t.length dT] 30) = w2 at *
  have HW2 := Lib.hid hw2
  clear hw2
  go_enter Tryz.func8, Tryz.ntmps8
  go_wp2_with fail
  rw [HW2.out]
  go_loopg [5] (n.length + 1) (fun k i wr => ∃ j : Nat, j ≤ n.length ∧ i = .int .i64 j ∧ n.length - j < k ∧ wr.heap = w2.heap ∧ Below w.heap.size w wr)
  case atStart => exact ⟨0, Nat.zero_le _, rfl, by omega, rfl, HBB.out⟩
  case round =>
    rename World => wr
    obtain ⟨j, hj, rfl, hk, hhp, hbl⟩ := hrel
    have e0 : wr.cell? ⟨w.heap.size, 0, none⟩ = some (.slice aN n.length cN) := (World.cell?_of_block (by rw [hhp])).trans A0.out
    have e1 : wr.cell? ⟨w.heap.size + 1, 0, none⟩ = some (.slice bN n.length dN) := (World.cell?_of_block (by rw [hhp])).trans A2.out
    have HHP := Lib.hid hhp
    have HBL := Lib.hid hbl
    clear hhp hbl
    by_cases hjl : j < n.length
    · obtain ⟨g, o, hao, hc1⟩ := its_at B1.out hjl
      obtain ⟨g2, o2, hbo, hc2⟩ := its_at B2.out hjl
      have d1 : wr.cell? ⟨g, o + j, none⟩ = some (.int .i64 n[j]) := (World.cell?_of_block (by rw [HHP.out])).trans hc1
      have d2 : wr.cell? ⟨g2, o2 + j, none⟩ = some (.int .i64 n[j]) := (World.cell?_of_block (by rw [HHP.out])).trans hc2
      have hj1 : j < 1000000000 := by omega
      rw [hao] at e0
      rw [hbo] at e1
      generalize n[j] = xj at *
      clear hao hbo hc1 hc2
      go_wp2
      go_region
      go_wp2
      go_roundg (n.length - j)
      case measure => omega
      case rel => exact ⟨j + 1, by omega, by go_num, by omega, HHP.out, ⟨HBL.out.os, HBL.out.tape, HBL.out.output, HBL.out.size, HBL.out.block⟩⟩
    · go_wp2
      clear e0 e1
      go_loopg [6] (t.length + 1) (fun k i wr => ∃ j : Nat, j ≤ t.length ∧ i = .int .i64 j ∧ t.length - j < k ∧ wr.heap = w2.heap ∧ Below w.heap.size w wr)
      case atStart => exact ⟨0, Nat.zero_le _, rfl, by omega, HHP.out, HBL.out⟩
      case round =>
        rename World => wr
        obtain ⟨j, hj, rfl, hk, hhp, hbl⟩ := hrel
        have e0 : wr.cell? ⟨w.heap.size, 1, none⟩ = some (.slice aT t.length cT) := (World.cell?_of_block (by rw [hhp])).trans A1.out
        have e1 : wr.cell? ⟨w.heap.size + 1, 1, none⟩ = some (.slice bT t.length dT) := (World.cell?_of_block (by rw [hhp])).trans A3.out
        have HHP := Lib.hid hhp
        have HBL := Lib.hid hbl
        clear hhp hbl
        by_cases hjl : j < t.length
        · obtain ⟨g, o, hao, hc1⟩ := sts_at B3.out hjl
          obtain ⟨g2, o2, hbo, hc2⟩ := sts_at B4.out hjl
          have d1 : wr.cell? ⟨g, o + j, none⟩ = some (.string t[j]) := (World.cell?_of_block (by rw [HHP.out])).trans hc1
          have d2 : wr.cell? ⟨g2, o2 + j, none⟩ = some (.string t[j]) := (World.cell?_of_block (by rw [HHP.out])).trans hc2
          have hj1 : j < 1000000000 := by omega
          rw [hao] at e0
          rw [hbo] at e1
          generalize t[j] = xj at *
          clear hao hbo hc1 hc2
          go_wp2
          go_region
          go_wp2
          go_roundg (t.length - j)
          case measure => omega
          case rel => exact ⟨j + 1, by omega, by go_num, by omega, HHP.out, ⟨HBL.out.os, HBL.out.tape, HBL.out.output, HBL.out.size, HBL.out.block⟩⟩
        · go_wp2
          go_ret
          exact ⟨rfl, HBL.out⟩
theorem sp_dec : decO [63, 40, 117, 41, 111, 56] ⟨#[0, 0, 0, 1, 0, 0, 0, 7, 0, 0, 0, 2, 97, 98, 0, 0]⟩ = .ok ([1, 7], [⟨#[97, 98]⟩]) := by kernel_rfl
set_option maxRecDepth 100000 in
set_option maxHeartbeats 1000000 in
theorem speaks2_any (w : World) : Calls Tryz.prog 5 #[] w fun r w' => r = .returned (.bool true) ∧ Below w.heap.size w w' := by
  go_enter Tryz.func5, Tryz.ntmps5
  go_wp2_with fail
  refine (decode_any [63, 40, 117, 41, 111, 56] ⟨#[0, 0, 0, 1, 0, 0, 0, 7, 0, 0, 0, 2, 97, 98, 0, 0]⟩ w _ sp_dec).mono ?_
  rintro r w1 ⟨hB, vN, vT, rfl, hN, hT⟩
  obtain ⟨g, cap, rfl, _, _⟩ := hN.form (by decide)
  obtain ⟨k, cap2, rfl, _, _⟩ := hT.form (by decide)
  have c1 := cellAt0 hN 1 (.int .i64 7) rfl
  have c0 := cellAt0 hN 0 (.int .i64 1) rfl
  have t0 := cellAt0 hT 0 (.string ⟨#[97, 98]⟩) rfl
  obtain ⟨lg, hlg⟩ : ∃ x : Nat, x = ([1, 7] : List Int).length := ⟨_, rfl⟩
  have HB := Lib.hid hB
  have hgl : g < w1.heap.size := by assumption
  have hkl : k < w1.heap.size := by assumption
  clear hB hN hT
  simp only [List.length_cons, List.length_nil]
  have d1 : (w1.alloc (.cells #[.slice (some ⟨g, 0, none⟩) 2 cap, .slice (some ⟨k, 0, none⟩) 1 cap2] 26)).cell? ⟨g, 1, none⟩ = some (.int .i64 7) := (World.cell?_alloc_past _ _ _ hgl).trans c1
  have d2 : (w1.alloc (.cells #[.slice (some ⟨g, 0, none⟩) 2 cap, .slice (some ⟨k, 0, none⟩) 1 cap2] 26)).cell? ⟨k, 0, none⟩ = some (.string ⟨#[97, 98]⟩) := (World.cell?_alloc_past _ _ _ hkl).trans t0
  go_wp2
  go_ret
  exact ⟨rfl, HB.out.alloc HB.out.size _⟩
theorem agg_cells {w : World} {a t : Nat} {x y : Value} (h : w.heap[a]? = some (.cells #[x, y] t (0, 0))) : w.cell? ⟨a, 0, none⟩ = some x ∧ w.cell? ⟨a, 1, none⟩ = some y := by
  refine ⟨?_, ?_⟩ <;> (rw [cell_of_row w a _ _ _ _ h]; rfl)
end Go.Proofs.YtjogcdkebplcpaaGreatDoor
namespace Go.Proofs.YtjogcdkebplcpaaGreatDoor.A
open Go.RowKit
def IntsAt (w : World) (ao : Option Addr) (L : List Int) : Prop := ItsAt w.heap.size w ao L
theorem ints_length (l : List Int) : (ints l).length = l.length := by simp [ints]
theorem ints_append (a b : List Int) : ints (a ++ b) = ints a ++ ints b := by simp [ints]
/-- What an append leaves. -/
structure AppTo (B : Nat) (w : World) (v : Value) (ys : List Int) (v' : Value) (w' : World) : Prop where
  own : w'.ownsRow B 3 1 v' ys.length (ints ys)
  grown : w.grownBy w' v.ownBlock
  at_ : v'.ownBlock = v.ownBlock ∨ v'.ownBlock = some w.heap.size
theorem news_ints {w : World} {g off : Nat} {L : List Int} (h : ∀ i (_ : i < L.length), w.cell? ⟨g, off + i, none⟩ = some (.int .i64 L[i])) : ∀ j u, (ints L)[j]? = some u → w.cell? ((⟨g, off, none⟩ : Addr).add j) = some u := by
  intro j u hu
  have hadd : (⟨g, off, none⟩ : Addr).add j = ⟨g, off + j, none⟩ := by unfold Addr.add; split <;> simp_all
  have hj : j < L.length := by
    rcases Nat.lt_or_ge j L.length with h | h
    · exact h
    · rw [List.getElem?_eq_none (by rw [ints_length]; exact h)] at hu; cases hu
  rw [hadd, h j hj]
  simpa [ints, List.getElem?_eq_getElem hj] using hu
theorem ints_one (L : List Int) : ∀ u ∈ ints L, u.oneCell' = true := by
  intro u hu
  obtain ⟨n, _, rfl⟩ := List.mem_map.1 hu
  rfl
set_option maxRecDepth 100000 in
theorem run_app (w : World) (ty : TypeId) (B : Nat) (v : Value) (xs : List Int) (hown : w.ownsRow B 3 1 v xs.length (ints xs)) (ao : Option Addr) (L : List Int) (cap : Nat) (hI : IntsAt w ao L)
    (hsz : (xs.length + L.length) * 8 ≤ 140737488355328) (hB : B ≤ w.heap.size) :
    ∃ v' w', (Builtin.append_ #[23, 23] ty #[v, .slice ao L.length cap]).run Tryz.prog w = .ok v' w' ∧ AppTo B w v (xs ++ L) v' w' := by
  obtain ⟨i0, hi, hz0, hz1, hz2⟩ := info_parts info3
  have hm : (xs.length + L.length) ≤ maxLen := by unfold maxLen; omega
  cases ao with
  | some a =>
    have hn : ∀ j u, (ints L)[j]? = some u → w.cell? (a.add j) = some u := by
      cases L with
      | nil => intro j u hu; simp [ints] at hu
      | cons x r =>
        obtain ⟨g, off, e1, _, _⟩ := hI 0 (by simp)
        injection e1 with e1
        subst e1
        refine news_ints fun i hi => ?_
        obtain ⟨g', off', e1, _, e3⟩ := hI i hi
        injection e1 with e1
        injection e1 with e1 e2 _
        subst e1 e2
        exact e3
    obtain ⟨v', w', hr, h2, h3, _, h5⟩ := run_append_own_at (P := Tryz.prog) w B 23 ty 3 i0 _ 1 8 Tryz.underlying23 hi hz0 hz1 hz2 rfl (by omega) v xs.length (ints xs) hown a L.length cap (ints L) (by rw [ints_length]; omega) hn (ints_one L) hm hsz hB
    refine ⟨v', w', hr, ⟨?_, h3, h5⟩⟩
    rw [List.length_append, ints_append]; exact h2
  | none =>
    have hL : L = [] := by
      cases L with
      | nil => rfl
      | cons x r => obtain ⟨g, off, e1, _, _⟩ := hI 0 (by simp); cases e1
    subst hL
    rw [List.append_nil]
    rcases hown.2 with ⟨rfl, h0⟩ | ⟨g, cap', cur, rfl, hb, hg, h3, h4, h5, h6⟩
    · have hx : xs = [] := List.eq_nil_of_length_eq_zero h0
      subst hx
      refine ⟨.slice none 0 0, w, ?_, ⟨hown, World.grownBy.refl _ _, .inl rfl⟩⟩
      simp [Builtin.append_, run_underlying Tryz.underlying23, sizeOf, typeInfo, hi, Builtin.lenOf, Builtin.firstCells]
    · refine ⟨.slice (some ⟨g, 0, none⟩) xs.length cap', w, ?_, ⟨hown, World.grownBy.refl _ _, .inl rfl⟩⟩
      have hr := run_append_room_src (P := Tryz.prog) w 23 23 ty 3 i0 Tryz.underlying23 hi g 0 xs.length cap' (.slice none 0 cap) 0 [] (by rw [hz1]; exact Src.ofNil w (e' := 3) Tryz.underlying23 cap) (by omega) (by simp) (by simp)
      rw [show ([] : List Int).length = 0 from rfl, hr]
      rfl
theorem wp_app {o : Oper} {a : Act} {w : World} {K : Act → World → Prop} {Q : Exit → Act → World → Prop} (s x : Operand) (ho : o.op = .call { callee := .builtin .append, args := #[s, x], argTypes := #[23, 23] })
    (B : Nat) (v : Value) (xs : List Int) (hs : a.eval s = v) (hown : w.ownsRow B 3 1 v xs.length (ints xs)) (ao : Option Addr) (L : List Int) (cap : Nat) (hx : a.eval x = .slice ao L.length cap) (hI : IntsAt w ao L)
    (hsz : (xs.length + L.length) * 8 ≤ 140737488355328) (hB : B ≤ w.heap.size) (h : ∀ v' w', AppTo B w v (xs ++ L) v' w' → K (a.put o.dst v') w') : o.wp Tryz.prog a w K Q := by
  obtain ⟨v', w', hr, h2⟩ := run_app w o.type B v xs hown ao L cap hI hsz hB
  unfold Oper.wp execOp
  simp only [ho, resolve, invoke, builtin, Sem.run_bind, Sem.run_pure, Result.andThen_ok, List.map_toArray, List.map_cons, List.map_nil, hs, hx, hr]
  exact h v' w' h2
theorem step_app {ops : Array Oper} {o : Oper} {a : Act} {w : World} {K : Act → World → Prop} {Q : Exit → Act → World → Prop} {E : Prop} (hgd : o.guard = none) (s x : Operand) (ho : o.op = .call { callee := .builtin .append, args := #[s, x], argTypes := #[23, 23] })
    (B : Nat) (v : Value) (xs : List Int) (hs : a.eval s = v) (hown : w.ownsRow B 3 1 v xs.length (ints xs)) (ao : Option Addr) (L : List Int) (cap : Nat) (hx : a.eval x = .slice ao L.length cap) (hI : IntsAt w ao L)
    (hsz : (xs.length + L.length) * 8 ≤ 140737488355328) (hB : B ≤ w.heap.size) (h : ∀ v' w', AppTo B w v (xs ++ L) v' w' → K (a.put o.dst v') w') :
    if Region.wanted o (yielded ops a.tmps) = true then Oper.wp Tryz.prog o a w K Q else E := by
  rw [if_pos (by simp [Region.wanted, hgd])]
  exact wp_app s x ho B v xs hs hown ao L cap hx hI hsz hB h
theorem own_none (w : World) (B : Nat) : w.ownsRow B 3 1 (.slice none 0 0) ([] : List Int).length (ints []) := ⟨by simp [ints], .inl ⟨rfl, rfl⟩⟩
theorem own_empty {w : World} {B g : Nat} (h : w.heap[g]? = some (.cells #[] 3 (0, 0))) (hB : B ≤ g) : w.ownsRow B 3 1 (.slice (some ⟨g, 0, none⟩) 0 0) ([] : List Int).length (ints []) :=
  ⟨by simp [ints], .inr ⟨g, 0, #[], rfl, hB, h, by simp, by unfold maxLen; omega, by simp, by simp [ints]⟩⟩
theorem ints_of_own {w : World} {B : Nat} {vg : Value} {G : List Int} (h : w.ownsRow B 3 1 vg G.length (ints G)) : ∃ ao cap, vg = .slice ao G.length cap ∧ IntsAt w ao G ∧ G.length ≤ cap ∧ ∀ g off, ao = some ⟨g, off, none⟩ → g < w.heap.size := by
  have hh := h
  rcases h.2 with ⟨rfl, h0⟩ | ⟨g, cap, cur, rfl, _, hg, hnc, hcm, hcs, htake⟩
  · have hz : G = [] := List.eq_nil_of_length_eq_zero h0
    subst hz
    exact ⟨none, 0, rfl, fun i hi => absurd hi (by simp), by simp, by intro g off e; cases e⟩
  · have hlt : g < w.heap.size := (Array.getElem?_eq_some_iff.1 hg).1
    refine ⟨some ⟨g, 0, none⟩, cap, rfl, fun i hi => ⟨g, 0, rfl, hlt, ?_⟩, hnc, ?_⟩
    · have := hh.cells (g := g) rfl i (.int .i64 G[i]) (by simp [ints, List.getElem?_eq_getElem hi])
      rw [Nat.zero_add]
      by_cases h0 : i = 0
      · subst h0; simpa [Addr.add] using this
      · simpa [Addr.add, h0] using this
    · intro g' off e
      simp only [Option.some.injEq, Addr.mk.injEq, and_true] at e
      omega
theorem own_lt {w : World} {B g : Nat} {v : Value} {n : Nat} {xs : List Value} (h : w.ownsRow B 3 1 v n xs) (hg : v.ownBlock = some g) : B ≤ g ∧ g < w.heap.size := by
  rcases h.2 with ⟨hv, _⟩ | ⟨g', cap, cur, hv, hb, hh, _⟩
  · rw [hv] at hg; cases hg
  · rw [hv] at hg
    have : g' = g := by simpa [Value.ownBlock] using hg
    subst this
    exact ⟨hb, (Array.getElem?_eq_some_iff.1 hh).1⟩
theorem AppTo.below {B : Nat} {w w' : World} {v v' : Value} {ys : List Int} {n : Nat} {xs : List Value} (h : AppTo B w v ys v' w') (hown : w.ownsRow B 3 1 v n xs) {w0 : World} (h0 : Below w0.heap.size w0 w) (hB : w0.heap.size ≤ B) : Below w0.heap.size w0 w' :=
  h0.grown h.grown h0.size fun k hk => by have := own_lt hown hk; omega
theorem list_app {ops : Array Oper} {rest : List Oper} {o : Oper} {a : Act} {w : World} {Q : Exit → Act → World → Prop} (hgd : o.guard = none) (s x : Operand) (ho : o.op = .call { callee := .builtin .append, args := #[s, x], argTypes := #[23, 23] })
    (B : Nat) (v : Value) (xs : List Int) (hs : a.eval s = v) (hown : w.ownsRow B 3 1 v xs.length (ints xs)) (ao : Option Addr) (L : List Int) (cap : Nat) (hx : a.eval x = .slice ao L.length cap) (hI : IntsAt w ao L)
    (hsz : (xs.length + L.length) * 8 ≤ 140737488355328) (hB : B ≤ w.heap.size) (h : ∀ v' w', AppTo B w v (xs ++ L) v' w' → wpList Tryz.prog ops Q rest (a.put o.dst v') w') : wpList Tryz.prog ops Q (o :: rest) a w :=
  wpList_plain hgd fun _ hK => wp_app s x ho B v xs hs hown ao L cap hx hI hsz hB fun v' w' hT => hK _ _ (h v' w' hT)
theorem own_form {w : World} {B : Nat} {v : Value} {G : List Int} (h : w.ownsRow B 3 1 v G.length (ints G)) : ∃ ao cap, v = .slice ao G.length cap ∧ IntsAt w ao G ∧ G.length ≤ cap ∧ cap ≤ 9223372036854775807 := by
  obtain ⟨ao, cap, rfl, hI, hc, _⟩ := ints_of_own h
  refine ⟨ao, cap, rfl, hI, hc, ?_⟩
  rcases h.2 with ⟨e, _⟩ | ⟨g, c, cur, e, _, _, _, hm, _⟩
  · injection e with _ _ e; omega
  · injection e with _ _ e; subst e; unfold maxLen at hm; omega
end Go.Proofs.YtjogcdkebplcpaaGreatDoor.A
namespace Go.Proofs.YtjogcdkebplcpaaGreatDoor.B
open Go.RowKit
def SsAt (w : World) (ao : Option Addr) (L : List ByteArray) : Prop := StsAt w.heap.size w ao L
theorem strs_length (l : List ByteArray) : (strs l).length = l.length := by simp [strs]
theorem strs_append (a b : List ByteArray) : strs (a ++ b) = strs a ++ strs b := by simp [strs]
/-- What an append leaves. -/
structure AppTo (B : Nat) (w : World) (v : Value) (ys : List ByteArray) (v' : Value) (w' : World) : Prop where
  own : w'.ownsRow B 9 1 v' ys.length (strs ys)
  grown : w.grownBy w' v.ownBlock
  at_ : v'.ownBlock = v.ownBlock ∨ v'.ownBlock = some w.heap.size
theorem news_strs {w : World} {g off : Nat} {L : List ByteArray} (h : ∀ i (_ : i < L.length), w.cell? ⟨g, off + i, none⟩ = some (.string L[i])) : ∀ j u, (strs L)[j]? = some u → w.cell? ((⟨g, off, none⟩ : Addr).add j) = some u := by
  intro j u hu
  have hadd : (⟨g, off, none⟩ : Addr).add j = ⟨g, off + j, none⟩ := by unfold Addr.add; split <;> simp_all
  have hj : j < L.length := by
    rcases Nat.lt_or_ge j L.length with h | h
    · exact h
    · rw [List.getElem?_eq_none (by rw [strs_length]; exact h)] at hu; cases hu
  rw [hadd, h j hj]
  simpa [strs, List.getElem?_eq_getElem hj] using hu
theorem strs_one (L : List ByteArray) : ∀ u ∈ strs L, u.oneCell' = true := by
  intro u hu
  obtain ⟨n, _, rfl⟩ := List.mem_map.1 hu
  rfl
set_option maxRecDepth 100000 in
theorem run_app (w : World) (ty : TypeId) (B : Nat) (v : Value) (xs : List ByteArray) (hown : w.ownsRow B 9 1 v xs.length (strs xs)) (ao : Option Addr) (L : List ByteArray) (cap : Nat) (hI : SsAt w ao L)
    (hsz : (xs.length + L.length) * 16 ≤ 140737488355328) (hB : B ≤ w.heap.size) :
    ∃ v' w', (Builtin.append_ #[24, 24] ty #[v, .slice ao L.length cap]).run Tryz.prog w = .ok v' w' ∧ AppTo B w v (xs ++ L) v' w' := by
  obtain ⟨i0, hi, hz0, hz1, hz2⟩ := info_parts info9
  have hm : (xs.length + L.length) ≤ maxLen := by unfold maxLen; omega
  cases ao with
  | some a =>
    have hn : ∀ j u, (strs L)[j]? = some u → w.cell? (a.add j) = some u := by
      cases L with
      | nil => intro j u hu; simp [strs] at hu
      | cons x r =>
        obtain ⟨g, off, e1, _, _⟩ := hI 0 (by simp)
        injection e1 with e1
        subst e1
        refine news_strs fun i hi => ?_
        obtain ⟨g', off', e1, _, e3⟩ := hI i hi
        injection e1 with e1
        injection e1 with e1 e2 _
        subst e1 e2
        exact e3
    obtain ⟨v', w', hr, h2, h3, _, h5⟩ := run_append_own_at (P := Tryz.prog) w B 24 ty 9 i0 _ 1 16 Tryz.underlying24 hi hz0 hz1 hz2 rfl (by omega) v xs.length (strs xs) hown a L.length cap (strs L) (by rw [strs_length]; omega) hn (strs_one L) hm hsz hB
    refine ⟨v', w', hr, ⟨?_, h3, h5⟩⟩
    rw [List.length_append, strs_append]; exact h2
  | none =>
    have hL : L = [] := by
      cases L with
      | nil => rfl
      | cons x r => obtain ⟨g, off, e1, _, _⟩ := hI 0 (by simp); cases e1
    subst hL
    rw [List.append_nil]
    rcases hown.2 with ⟨rfl, h0⟩ | ⟨g, cap', cur, rfl, hb, hg, h3, h4, h5, h6⟩
    · have hx : xs = [] := List.eq_nil_of_length_eq_zero h0
      subst hx
      refine ⟨.slice none 0 0, w, ?_, ⟨hown, World.grownBy.refl _ _, .inl rfl⟩⟩
      simp [Builtin.append_, run_underlying Tryz.underlying24, sizeOf, typeInfo, hi, Builtin.lenOf, Builtin.firstCells]
    · refine ⟨.slice (some ⟨g, 0, none⟩) xs.length cap', w, ?_, ⟨hown, World.grownBy.refl _ _, .inl rfl⟩⟩
      have hr := run_append_room_src (P := Tryz.prog) w 24 24 ty 9 i0 Tryz.underlying24 hi g 0 xs.length cap' (.slice none 0 cap) 0 [] (by rw [hz1]; exact Src.ofNil w (e' := 9) Tryz.underlying24 cap) (by omega) (by simp) (by simp)
      rw [show ([] : List ByteArray).length = 0 from rfl, hr]
      rfl
theorem wp_app {o : Oper} {a : Act} {w : World} {K : Act → World → Prop} {Q : Exit → Act → World → Prop} (s x : Operand) (ho : o.op = .call { callee := .builtin .append, args := #[s, x], argTypes := #[24, 24] })
    (B : Nat) (v : Value) (xs : List ByteArray) (hs : a.eval s = v) (hown : w.ownsRow B 9 1 v xs.length (strs xs)) (ao : Option Addr) (L : List ByteArray) (cap : Nat) (hx : a.eval x = .slice ao L.length cap) (hI : SsAt w ao L)
    (hsz : (xs.length + L.length) * 16 ≤ 140737488355328) (hB : B ≤ w.heap.size) (h : ∀ v' w', AppTo B w v (xs ++ L) v' w' → K (a.put o.dst v') w') : o.wp Tryz.prog a w K Q := by
  obtain ⟨v', w', hr, h2⟩ := run_app w o.type B v xs hown ao L cap hI hsz hB
  unfold Oper.wp execOp
  simp only [ho, resolve, invoke, builtin, Sem.run_bind, Sem.run_pure, Result.andThen_ok, List.map_toArray, List.map_cons, List.map_nil, hs, hx, hr]
  exact h v' w' h2
theorem step_app {ops : Array Oper} {o : Oper} {a : Act} {w : World} {K : Act → World → Prop} {Q : Exit → Act → World → Prop} {E : Prop} (hgd : o.guard = none) (s x : Operand) (ho : o.op = .call { callee := .builtin .append, args := #[s, x], argTypes := #[24, 24] })
    (B : Nat) (v : Value) (xs : List ByteArray) (hs : a.eval s = v) (hown : w.ownsRow B 9 1 v xs.length (strs xs)) (ao : Option Addr) (L : List ByteArray) (cap : Nat) (hx : a.eval x = .slice ao L.length cap) (hI : SsAt w ao L)
    (hsz : (xs.length + L.length) * 16 ≤ 140737488355328) (hB : B ≤ w.heap.size) (h : ∀ v' w', AppTo B w v (xs ++ L) v' w' → K (a.put o.dst v') w') :
    if Region.wanted o (yielded ops a.tmps) = true then Oper.wp Tryz.prog o a w K Q else E := by
  rw [if_pos (by simp [Region.wanted, hgd])]
  exact wp_app s x ho B v xs hs hown ao L cap hx hI hsz hB h
theorem own_none (w : World) (B : Nat) : w.ownsRow B 9 1 (.slice none 0 0) ([] : List ByteArray).length (strs []) := ⟨by simp [strs], .inl ⟨rfl, rfl⟩⟩
theorem own_empty {w : World} {B g : Nat} (h : w.heap[g]? = some (.cells #[] 9 (0, 0))) (hB : B ≤ g) : w.ownsRow B 9 1 (.slice (some ⟨g, 0, none⟩) 0 0) ([] : List ByteArray).length (strs []) :=
  ⟨by simp [strs], .inr ⟨g, 0, #[], rfl, hB, h, by simp, by unfold maxLen; omega, by simp, by simp [strs]⟩⟩
theorem strs_of_own {w : World} {B : Nat} {vg : Value} {G : List ByteArray} (h : w.ownsRow B 9 1 vg G.length (strs G)) : ∃ ao cap, vg = .slice ao G.length cap ∧ SsAt w ao G ∧ G.length ≤ cap ∧ ∀ g off, ao = some ⟨g, off, none⟩ → g < w.heap.size := by
  have hh := h
  rcases h.2 with ⟨rfl, h0⟩ | ⟨g, cap, cur, rfl, _, hg, hnc, hcm, hcs, htake⟩
  · have hz : G = [] := List.eq_nil_of_length_eq_zero h0
    subst hz
    exact ⟨none, 0, rfl, fun i hi => absurd hi (by simp), by simp, by intro g off e; cases e⟩
  · have hlt : g < w.heap.size := (Array.getElem?_eq_some_iff.1 hg).1
    refine ⟨some ⟨g, 0, none⟩, cap, rfl, fun i hi => ⟨g, 0, rfl, hlt, ?_⟩, hnc, ?_⟩
    · have := hh.cells (g := g) rfl i (.string G[i]) (by simp [strs, List.getElem?_eq_getElem hi])
      rw [Nat.zero_add]
      by_cases h0 : i = 0
      · subst h0; simpa [Addr.add] using this
      · simpa [Addr.add, h0] using this
    · intro g' off e
      simp only [Option.some.injEq, Addr.mk.injEq, and_true] at e
      omega
theorem own_lt {w : World} {B g : Nat} {v : Value} {n : Nat} {xs : List Value} (h : w.ownsRow B 9 1 v n xs) (hg : v.ownBlock = some g) : B ≤ g ∧ g < w.heap.size := by
  rcases h.2 with ⟨hv, _⟩ | ⟨g', cap, cur, hv, hb, hh, _⟩
  · rw [hv] at hg; cases hg
  · rw [hv] at hg
    have : g' = g := by simpa [Value.ownBlock] using hg
    subst this
    exact ⟨hb, (Array.getElem?_eq_some_iff.1 hh).1⟩
theorem AppTo.below {B : Nat} {w w' : World} {v v' : Value} {ys : List ByteArray} {n : Nat} {xs : List Value} (h : AppTo B w v ys v' w') (hown : w.ownsRow B 9 1 v n xs) {w0 : World} (h0 : Below w0.heap.size w0 w) (hB : w0.heap.size ≤ B) : Below w0.heap.size w0 w' :=
  h0.grown h.grown h0.size fun k hk => by have := own_lt hown hk; omega
theorem list_app {ops : Array Oper} {rest : List Oper} {o : Oper} {a : Act} {w : World} {Q : Exit → Act → World → Prop} (hgd : o.guard = none) (s x : Operand) (ho : o.op = .call { callee := .builtin .append, args := #[s, x], argTypes := #[24, 24] })
    (B : Nat) (v : Value) (xs : List ByteArray) (hs : a.eval s = v) (hown : w.ownsRow B 9 1 v xs.length (strs xs)) (ao : Option Addr) (L : List ByteArray) (cap : Nat) (hx : a.eval x = .slice ao L.length cap) (hI : SsAt w ao L)
    (hsz : (xs.length + L.length) * 16 ≤ 140737488355328) (hB : B ≤ w.heap.size) (h : ∀ v' w', AppTo B w v (xs ++ L) v' w' → wpList Tryz.prog ops Q rest (a.put o.dst v') w') : wpList Tryz.prog ops Q (o :: rest) a w :=
  wpList_plain hgd fun _ hK => wp_app s x ho B v xs hs hown ao L cap hx hI hsz hB fun v' w' hT => hK _ _ (h v' w' hT)
theorem own_form {w : World} {B : Nat} {v : Value} {G : List ByteArray} (h : w.ownsRow B 9 1 v G.length (strs G)) : ∃ ao cap, v = .slice ao G.length cap ∧ SsAt w ao G ∧ G.length ≤ cap ∧ cap ≤ 9223372036854775807 := by
  obtain ⟨ao, cap, rfl, hI, hc, _⟩ := strs_of_own h
  refine ⟨ao, cap, rfl, hI, hc, ?_⟩
  rcases h.2 with ⟨e, _⟩ | ⟨g, c, cur, e, _, _, _, hm, _⟩
  · injection e with _ _ e; omega
  · injection e with _ _ e; subst e; unfold maxLen at hm; omega
end Go.Proofs.YtjogcdkebplcpaaGreatDoor.B
namespace Go.Proofs.YtjogcdkebplcpaaGreatDoor
open Go.RowKit Sch
theorem grow_keeps {w w' : World} {v : Value} {B e sz n : Nat} {xs : List Value} (hgrow : w.grownBy w' v.ownBlock) (ho : w.ownsRow B e sz v n xs) (k : Nat) (cur : Array Value) (t : Nat) (fr : Nat × Nat) (ht : t ≠ e) (hk : w.heap[k]? = some (.cells cur t fr)) : w'.heap[k]? = some (.cells cur t fr) :=
  (hgrow.block k (Array.getElem?_eq_some_iff.1 hk).1 (fun e => by
    obtain ⟨_, c, hc⟩ := ownsB_type ho e.symm
    exact ht (blk_type hk hc))).trans hk
theorem own_grown {w w' : World} {v v1 : Value} {B B1 n n1 : Nat} {xs ys : List Value} (hgrow : w.grownBy w' v.ownBlock) (ho : w.ownsRow B 9 1 v n xs) (h1 : w.ownsRow B1 3 1 v1 n1 ys) : w'.ownsRow B1 3 1 v1 n1 ys :=
  ownsB_kept h1 fun k e => by
    obtain ⟨_, cur, hc⟩ := ownsB_type h1 e
    exact (grow_keeps hgrow ho k cur 3 _ (by decide) hc).trans hc.symm
theorem enc_dec {t : List UInt8} {N : List Int} {T : List ByteArray} {b : List UInt8} (h : encO t N T = .ok b) : decO t ⟨b.toArray⟩ = .ok (N, T) ∧ b.length ≤ 65536 := by
  unfold encO at h
  split at h
  · cases h
  · rename_i r hr
    split at h
    · cases h
    · rename_i b' hl
      split at h
      · cases h
      · rename_i hb
        simp only [Except.ok.injEq] at h
        subst h
        refine ⟨?_, by omega⟩
        unfold decO
        rw [hr]
        dsimp only
        have hs : (⟨b'.toArray⟩ : ByteArray).size = b'.length := by show b'.toArray.size = _; simp
        rw [if_neg (by rw [hs]; omega)]
        unfold laidO at hl
        split at hl
        · cases hl
        · rename_i y N' T' hly
          split at hl
          · rename_i hNT
            obtain ⟨rfl, rfl⟩ := hNT
            simp only [Except.ok.injEq] at hl
            subst hl
            obtain ⟨n, t', e1, e2, e3⟩ := back_ly r none true (wf_form hr).1 N T y [] [] hly
            rw [List.append_nil] at e1 e2
            subst e1 e2
            unfold takenO
            have e4 := e3 []
            rw [List.append_nil] at e4
            rw [e4]
            dsimp only
            rw [if_pos rfl]
          · cases hl
def Er4 (x : Lr) : Prop := ∀ e, x = .error e → e = 4
theorem er_pre {p : List UInt8} {x : Lr} (h : Er4 x) : Er4 (preL p x) := by
  intro e he
  cases x with
  | error e' => simp only [preL, Except.error.injEq] at he; exact he ▸ h e' rfl
  | ok y => obtain ⟨b1, N1, T1⟩ := y; simp [preL] at he
theorem er_and {x : Lr} {f : List Int → List ByteArray → Lr} (h : Er4 x) (hf : ∀ N T, Er4 (f N T)) : Er4 (andL x f) := by
  cases x with
  | error e' => intro e he; simp only [andL, Except.error.injEq] at he; exact he ▸ h e' rfl
  | ok y => obtain ⟨b1, N1, T1⟩ := y; exact er_pre (hf N1 T1)
theorem er_four : Er4 (.error 4) := fun e he => by simpa using he.symm
theorem er_ok (b : List UInt8) (N : List Int) (T : List ByteArray) : Er4 (.ok (b, N, T)) := fun e he => by cases he
theorem er_num (least most : Int) (size : Nat) (N : List Int) (T : List ByteArray) : Er4 (numL least most size N T) := by
  cases N with
  | nil => simp only [numL]; exact er_four
  | cons n N =>
    simp only [numL]
    split
    · exact er_ok _ _ _
    · exact er_four
theorem er_txt (c : UInt8) (k : Nat) (N : List Int) (T : List ByteArray) : Er4 (txtL c k N T) := by
  cases T with
  | nil => simp only [txtL]; exact er_four
  | cons s T =>
    simp only [txtL]
    split
    · split
      · exact er_ok _ _ _
      · exact er_four
    · split
      · exact er_ok _ _ _
      · exact er_four
theorem er_rep {f : List Int → List ByteArray → Lr} (hf : ∀ N T, Er4 (f N T)) : ∀ (k : Nat) (N : List Int) (T : List ByteArray), Er4 (repL f k N T)
  | 0, N, T => by simp only [repL]; exact er_ok _ _ _
  | k + 1, N, T => by
    simp only [repL]
    exact er_pre (er_and (hf N T) fun N' T' => er_rep hf k N' T')
theorem er_one (c : UInt8) (N : List Int) (T : List ByteArray) : Er4 (oneL c N T) := by
  unfold oneL
  split
  · exact er_num _ _ 4 N T
  · split
    · exact er_num _ _ 8 N T
    · exact er_num _ _ 4 N T
theorem er_ly : ∀ (r : Row) (m : Option Int) (N : List Int) (T : List ByteArray), Er4 (ly m r N T)
  | .nil, none, N, T => by rw [ly]; exact er_ok _ N T
  | .one c r, none, N, T => by rw [ly]; exact er_and (er_one c N T) fun N' T' => er_ly r none N' T'
  | .num c k r, none, N, T => by rw [ly]; exact er_and (er_txt c k N T) fun N' T' => er_ly r none N' T'
  | .opt c i r, none, N, T => by
    rw [ly]
    refine er_and ?_ fun N' T' => er_ly r none N' T'
    split
    · unfold maybeL
      refine er_and (er_num _ _ 4 N T) fun N' T' => ?_
      split
      · exact er_ly i none N' T'
      · exact er_ok _ N' T'
    · unfold timesL
      split
      · exact er_four
      · split
        · exact er_rep (fun N' T' => er_ly i none N' T') _ _ T
        · exact er_four
  | .ch a r, none, N, T => by
    rw [ly]
    refine er_and ?_ fun N' T' => er_ly r none N' T'
    unfold armL
    exact er_and (er_num _ _ 4 N T) fun N' T' => er_ly a (some _) N' T'
  | .arm k i r, some n, N, T => by
    rw [ly]
    split
    · exact er_ly i none N T
    · exact er_ly r (some n) N T
  | .arm _ _ _, none, N, T => by unfold ly; exact er_four
  | .nil, some _, N, T => by unfold ly; exact er_four
  | .one _ _, some _, N, T => by unfold ly; exact er_four
  | .num _ _ _, some _, N, T => by unfold ly; exact er_four
  | .opt _ _ _, some _, N, T => by unfold ly; exact er_four
  | .ch _ _, some _, N, T => by unfold ly; exact er_four
theorem enc_err {t : List UInt8} {N : List Int} {T : List ByteArray} {e : Int} (h : encO t N T = .error e) : e ≠ 0 := by
  unfold encO at h
  split at h
  · simp only [Except.error.injEq] at h; omega
  · rename_i r hr
    split at h
    · rename_i e' hl
      simp only [Except.error.injEq] at h
      subst h
      unfold laidO at hl
      split at hl
      · rename_i e2 hly
        simp only [Except.error.injEq] at hl
        subst hl
        have := er_ly r none N T _ hly
        omega
      · split at hl
        · cases hl
        · simp only [Except.error.injEq] at hl; omega
    · split at h
      · simp only [Except.error.injEq] at h; omega
      · cases h
end Go.Proofs.YtjogcdkebplcpaaGreatDoor
namespace Go.Proofs.YtjogcdkebplcpaaGreatDoor
open Go.RowKit Sch
set_option maxRecDepth 100000 in
set_option maxHeartbeats 40000000 in
theorem encodes_walk (F : ByteArray) (n : List Int) (t : List ByteArray) (aN aT : Option Addr) (cN cT : Nat) (w : World) (hN : ItsAt w.heap.size w aN n) (hT : StsAt w.heap.size w aT t) (hcn : n.length ≤ cN ∧ cN ≤ 9223372036854775807) (hct : t.length ≤ cT ∧ cT ≤ 9223372036854775807) (hln : n.length + t.length ≤ 1048576) (hRG : ∀ x ∈ n, -9223372036854775808 ≤ x ∧ x ≤ 9223372036854775807) :
    Calls Tryz.prog 4 #[.string F, .slice aN n.length cN, .slice aT t.length cT] w fun e w' => e = .returned (.bool true) ∧ Below w.heap.size w w' := by
  obtain ⟨f, hf⟩ : ∃ f : List UInt8, (⟨f.toArray⟩ : ByteArray) = F := ⟨F.data.toList, by simp⟩
  obtain ⟨x, hx⟩ : ∃ x, encO f n t = x := ⟨_, rfl⟩
  have hwo : worth n t + 200000 ≤ 140737488355328 ∧ worth n t ≤ 400000000000000 := by unfold worth; omega
  have hen := fun aN cN aT cT w h1 h2 h3 h4 => encode_any f n t aN cN aT cT w h1 h2 h3 h4 hwo.1 x hx
  have hre := fun aN cN aT cT w h1 h2 => refenc_any f (World.heap w).size aN cN n aT cT t w (Nat.le_refl _) h1 h2 hwo.2 hRG x hx
  have hde := fun (b : List UInt8) (h : x = .ok b) w => decode_any f ⟨b.toArray⟩ w (.ok (n, t)) (enc_dec (hx.trans h)).1
  have hne : ∀ e, x = .error e → e ≠ 0 := fun e h => enc_err (hx.trans h)
  rw [hf] at hen hre hde
  have HEN := Lib.hid hen
  have HRE := Lib.hid hre
  have HDE := Lib.hid hde
  have HNE := Lib.hid hne
  have HIN := Lib.hid hN
  have HIT := Lib.hid hT
  have HCN := Lib.hid hcn
  have HCT := Lib.hid hct
  have HLN := Lib.hid hln
  clear hen hre hde hne hN hT hcn hct hln hRG hwo hx hf
  go_enter Tryz.func4, Tryz.ntmps4
  go_wp2_with fail
  refine (speaks2_any _).mono ?_
  rintro e w1 ⟨rfl, hb⟩
  have HB1 := Lib.hid hb
  clear hb
  have HI1 := Lib.hid (HIN.out.up HB1.out HB1.out.size)
  have HT1 := Lib.hid (HIT.out.up HB1.out HB1.out.size)
  have HL8 := Lib.hid (show (([] : List Int).length + n.length) * 8 ≤ 140737488355328 by have := HLN.out; simp only [List.length_nil]; omega)
  have HL16 := Lib.hid (show (([] : List ByteArray).length + t.length) * 16 ≤ 140737488355328 by have := HLN.out; simp only [List.length_nil]; omega)
  go_wp2_with (first
    | (refine A.list_app rfl (.tmp 16) (.tmp 17) rfl w1.heap.size _ [] rfl (A.own_empty (heap_alloc_new w1 _) (Nat.le_refl _)) aN n cN rfl (HI1.out.up ((Below.refl _ w1).alloc (Nat.le_refl _) _) (by simp)) HL8.out (by simp) ?_; intro v5 w5 hT5; have hb5 := hT5.below (A.own_empty (B := w1.heap.size) (heap_alloc_new w1 _) (Nat.le_refl _)) ((Below.refl _ w1).alloc (Nat.le_refl _) _) (Nat.le_refl _); have ow5 := hT5.own; rw [List.nil_append] at ow5; clear hT5)
    | (refine B.list_app rfl (.tmp 19) (.tmp 20) rfl w1.heap.size _ [] rfl (B.own_empty (heap_alloc_new w5 _) hb5.size) aT t cT rfl (HT1.out.up (hb5.alloc hb5.size _) (by have := hb5.size; simp; omega)) HL16.out (by have := hb5.size; simp; omega) ?_; intro v6 w6 hT6; have ow56 := own_grown hT6.grown (B.own_empty (B := w1.heap.size) (heap_alloc_new w5 _) hb5.size) (World.ownsRow.alloc ow5 (.cells #[] 9)); have hb6 := hT6.below (B.own_empty (B := w1.heap.size) (heap_alloc_new w5 _) hb5.size) (hb5.alloc hb5.size _) (Nat.le_refl _); have ow6 := hT6.own; rw [List.nil_append] at ow6; clear hT6; obtain ⟨qa, qc, q1, q2, q3, q4⟩ := A.own_form ow56; obtain ⟨ra, rc, r1, r2, r3, r4⟩ := B.own_form ow6; subst q1 r1))
  have HA7 := Lib.hid (heap_alloc_new w6 (.cells #[.slice qa n.length qc, .slice ra t.length rc] 26))
  have HI7 := Lib.hid (ItsAt.up (B' := (w6.alloc (.cells #[.slice qa n.length qc, .slice ra t.length rc] 26)).heap.size) q2 ((Below.refl _ w6).alloc (Nat.le_refl _) (.cells #[.slice qa n.length qc, .slice ra t.length rc] 26)) (by simp))
  have HT7 := Lib.hid (StsAt.up (B' := (w6.alloc (.cells #[.slice qa n.length qc, .slice ra t.length rc] 26)).heap.size) r2 ((Below.refl _ w6).alloc (Nat.le_refl _) (.cells #[.slice qa n.length qc, .slice ra t.length rc] 26)) (by simp))
  have hb7 := hb6.alloc hb6.size (.cells #[.slice qa n.length qc, .slice ra t.length rc] 26)
  have HJ7 := Lib.hid (HI1.out.up hb7 hb7.size)
  have HU7 := Lib.hid (HT1.out.up hb7 hb7.size)
  have HB7 := Lib.hid (HB1.out.trans (hb7.mono HB1.out.size))
  have HQ := Lib.hid (And.intro q3 q4)
  have HR := Lib.hid (And.intro r3 r4)
  clear hb5 hb6 hb7 q2 q3 q4 r2 r3 r4 ow5 ow56 ow6 HI1 HT1 HB1 HIN HIT HL8 HL16
  generalize w6.alloc (.cells #[.slice qa n.length qc, .slice ra t.length rc] 26) = w7 at *
  generalize w6.heap.size = D at *
  have hD7 : D < w7.heap.size := (Array.getElem?_eq_some_iff.1 HA7.out).1
  refine (HEN.out qa qc ra rc w7 HI7.out HT7.out HQ.out HR.out).mono ?_
  rintro r w8 ⟨hb8, hr⟩
  have hA8 := (hb8.block D hD7).trans HA7.out
  have HI8 := Lib.hid (HI7.out.up hb8 hb8.size)
  have HT8 := Lib.hid (HT7.out.up hb8 hb8.size)
  have HJ8 := Lib.hid (HJ7.out.up hb8 hb8.size)
  have HU8 := Lib.hid (HU7.out.up hb8 hb8.size)
  have HB8 := Lib.hid (HB7.out.trans (hb8.mono HB7.out.size))
  have hD8 : D < w8.heap.size := Nat.lt_of_lt_of_le hD7 hb8.size
  have HA8 := Lib.hid hA8
  clear hb8 hA8 HI7 HT7 HJ7 HU7 HB7 HA7 HEN hD7
  cases x with
  | error e =>
    simp only at hr
    subst hr
    have HE := Lib.hid (HNE.out e rfl)
    clear HNE HDE
    go_wp2_with fail
    refine (HRE.out aN cN aT cT w8 HJ8.out HU8.out).mono ?_
    rintro r w9 ⟨hb9, hr⟩
    simp only at hr
    subst hr
    have hA9 := (hb9.block D hD8).trans HA8.out
    have HI9 := Lib.hid (HI8.out.up hb9 hb9.size)
    have HT9 := Lib.hid (HT8.out.up hb9 hb9.size)
    have HJ9 := Lib.hid (HJ8.out.up hb9 hb9.size)
    have HU9 := Lib.hid (HU8.out.up hb9 hb9.size)
    have HB9 := Lib.hid (HB8.out.trans (hb9.mono HB8.out.size))
    obtain ⟨a0, a1⟩ := agg_cells hA9
    clear hb9 hA9 HI8 HT8 HJ8 HU8 HB8 HA8 HRE hD8
    have he : (e != 0) = true := by rw [bne_iff_ne]; exact HE.out
    have hee : (e != e) = false := by simp
    go_wp2_with fail
    refine (same_yes n t qa aN ra aT qc cN rc cT w9.heap.size w9 (Nat.le_refl _) HI9.out HJ9.out HT9.out HU9.out (by have := HLN.out; omega) (by have := HLN.out; omega)).mono ?_
    rintro r w10 ⟨rfl, hb10⟩
    have HB10 := Lib.hid (HB9.out.trans (hb10.mono HB9.out.size))
    clear hb10 HI9 HT9 HJ9 HU9 HB9 a0 a1
    go_wp2
    go_ret
    exact ⟨rfl, HB10.out⟩
  | ok b =>
    simp only at hr
    subst hr
    have hde := HDE.out b rfl
    have HDE := Lib.hid hde
    obtain ⟨S, hS⟩ : ∃ S : ByteArray, S = ⟨b.toArray⟩ := ⟨_, rfl⟩
    have HS := Lib.hid hS
    clear HNE hde
    rw [← hS] at HDE ⊢
    clear hS
    go_wp2_with fail
    refine (HRE.out aN cN aT cT w8 HJ8.out HU8.out).mono ?_
    rintro r w9 ⟨hb9, hr⟩
    simp only at hr
    rw [← HS.out] at hr
    subst hr
    have hA9 := (hb9.block D hD8).trans HA8.out
    have HI9 := Lib.hid (HI8.out.up hb9 hb9.size)
    have HT9 := Lib.hid (HT8.out.up hb9 hb9.size)
    have HJ9 := Lib.hid (HJ8.out.up hb9 hb9.size)
    have HU9 := Lib.hid (HU8.out.up hb9 hb9.size)
    have HB9 := Lib.hid (HB8.out.trans (hb9.mono HB8.out.size))
    obtain ⟨a0, a1⟩ := agg_cells hA9
    clear hb9 hA9 HI8 HT8 HJ8 HU8 HB8 HA8 HRE hD8
    go_wp2_with fail
    refine (same_yes n t qa aN ra aT qc cN rc cT w9.heap.size w9 (Nat.le_refl _) HI9.out HJ9.out HT9.out HU9.out (by have := HLN.out; omega) (by have := HLN.out; omega)).mono ?_
    rintro r w10 ⟨rfl, hb10⟩
    have HB10 := Lib.hid (HB9.out.trans (hb10.mono HB9.out.size))
    have HJ10 := Lib.hid (HJ9.out.up hb10 hb10.size)
    have HU10 := Lib.hid (HU9.out.up hb10 hb10.size)
    clear hb10 HI9 HT9 HJ9 HU9 HB9 a0 a1
    go_wp2_with fail
    refine (HDE.out w10).mono ?_
    rintro r w11 ⟨hb11, vN, vT, rfl, hN, hT⟩
    obtain ⟨dN, eN, rfl, iN, _, _⟩ := its_of hN
    obtain ⟨dT, eT, rfl, iT, _, _⟩ := sts_of hT
    have HB11 := Lib.hid (HB10.out.trans (hb11.mono HB10.out.size))
    have hal := (Below.refl w11.heap.size w11).alloc (Nat.le_refl _) (.cells #[.slice dN n.length eN, .slice dT t.length eT] 26)
    have hb12 := hb11.trans (hal.mono hb11.size)
    have HJ12 := Lib.hid (HJ10.out.up hb12 hb12.size)
    have HU12 := Lib.hid (HU10.out.up hb12 hb12.size)
    have HI12 := Lib.hid (iN.up hal hal.size)
    have HT12 := Lib.hid (iT.up hal hal.size)
    have HB12 := Lib.hid (HB11.out.trans (hal.mono HB11.out.size))
    obtain ⟨k0, k1⟩ := agg_cells (heap_alloc_new w11 (.cells #[.slice dN n.length eN, .slice dT t.length eT] 26))
    clear hN hT iN iT hb11 hal hb12 HB11 HJ10 HU10 HB10 HDE
    go_wp2_with fail
    generalize w11.alloc (.cells #[.slice dN n.length eN, .slice dT t.length eT] 26) = w12 at *
    refine (same_yes n t dN aN dT aT eN cN eT cT w12.heap.size w12 (Nat.le_refl _) HI12.out HJ12.out HT12.out HU12.out (by have := HLN.out; omega) (by have := HLN.out; omega)).mono ?_
    rintro r w13 ⟨rfl, hb13⟩
    have HB13 := Lib.hid (HB12.out.trans (hb13.mono HB12.out.size))
    clear hb13 HI12 HT12 HJ12 HU12 HB12 k0 k1
    go_wp2
    go_ret
    exact ⟨rfl, HB13.out⟩
end Go.Proofs.YtjogcdkebplcpaaGreatDoor
