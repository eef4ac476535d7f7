/-
  What is laid out is taken as it was, whatever the form: plain facts on the layer and the taker. Its condition: the form is whole.
-/
import Derived.Test.YtihkjgfghjgblaaGreatDoorRt
namespace Go.Proofs.YtihkjgfghjgblaaGreatDoor
open Go.RowKit Sch
theorem put4 {n : Int} (h : 0 ≤ n ∧ n ≤ 4294967295) (l : List UInt8) : X.numR 4 (Y.numBytes n 4 ++ l) 0 = (n, l, 0) := by
  show X.numR 4 ([Y.byteAt n 24, Y.byteAt n 16, Y.byteAt n 8, Y.byteAt n 0] ++ l) 0 = (n, l, 0)
  unfold X.numR
  rw [if_neg (by simp)]
  have hbe : X.be (List.take 4 ([Y.byteAt n 24, Y.byteAt n 16, Y.byteAt n 8, Y.byteAt n 0] ++ l)) = 256 * (256 * (256 * (256 * 0 + (Y.byteAt n 24).toNat) + (Y.byteAt n 16).toNat) + (Y.byteAt n 8).toNat) + (Y.byteAt n 0).toNat := rfl
  rw [hbe]
  have h0 := Y.byteAt_toNat n 0
  have h1 := Y.byteAt_toNat n 8
  have h2 := Y.byteAt_toNat n 16
  have h3 := Y.byteAt_toNat n 24
  simp only [Int.reducePow] at h0 h1 h2 h3
  have hw : IntKind.i64.wrap ((256 * (256 * (256 * (256 * 0 + (Y.byteAt n 24).toNat) + (Y.byteAt n 16).toNat) + (Y.byteAt n 8).toNat) + (Y.byteAt n 0).toNat : Nat) : Int) = n := by
    rw [IntKind.wrap_i64]
    omega
  rw [hw]
  rfl
theorem put8 {n : Int} (h : -9223372036854775808 ≤ n ∧ n ≤ 9223372036854775807) (l : List UInt8) : X.numR 8 (Y.numBytes n 8 ++ l) 0 = (n, l, 0) := by
  show X.numR 8 ([Y.byteAt n 56, Y.byteAt n 48, Y.byteAt n 40, Y.byteAt n 32, Y.byteAt n 24, Y.byteAt n 16, Y.byteAt n 8, Y.byteAt n 0] ++ l) 0 = (n, l, 0)
  unfold X.numR
  rw [if_neg (by simp)]
  have hbe : X.be (List.take 8 ([Y.byteAt n 56, Y.byteAt n 48, Y.byteAt n 40, Y.byteAt n 32, Y.byteAt n 24, Y.byteAt n 16, Y.byteAt n 8, Y.byteAt n 0] ++ l)) =
      256 * (256 * (256 * (256 * (256 * (256 * (256 * (256 * 0 + (Y.byteAt n 56).toNat) + (Y.byteAt n 48).toNat) + (Y.byteAt n 40).toNat) + (Y.byteAt n 32).toNat) + (Y.byteAt n 24).toNat) + (Y.byteAt n 16).toNat) + (Y.byteAt n 8).toNat) + (Y.byteAt n 0).toNat := rfl
  rw [hbe]
  have h0 := Y.byteAt_toNat n 0
  have h1 := Y.byteAt_toNat n 8
  have h2 := Y.byteAt_toNat n 16
  have h3 := Y.byteAt_toNat n 24
  have h4 := Y.byteAt_toNat n 32
  have h5 := Y.byteAt_toNat n 40
  have h6 := Y.byteAt_toNat n 48
  have h7 := Y.byteAt_toNat n 56
  simp only [Int.reducePow] at h0 h1 h2 h3 h4 h5 h6 h7
  have hw : IntKind.i64.wrap ((256 * (256 * (256 * (256 * (256 * (256 * (256 * (256 * 0 + (Y.byteAt n 56).toNat) + (Y.byteAt n 48).toNat) + (Y.byteAt n 40).toNat) + (Y.byteAt n 32).toNat) + (Y.byteAt n 24).toNat) + (Y.byteAt n 16).toNat) + (Y.byteAt n 8).toNat) + (Y.byteAt n 0).toNat : Nat) : Int) = n := by
    rw [IntKind.wrap_i64]
    generalize (Y.byteAt n 56).toNat = c7 at *
    generalize (Y.byteAt n 48).toNat = c6 at *
    generalize (Y.byteAt n 40).toNat = c5 at *
    generalize (Y.byteAt n 32).toNat = c4 at *
    generalize (Y.byteAt n 24).toNat = c3 at *
    generalize (Y.byteAt n 16).toNat = c2 at *
    generalize (Y.byteAt n 8).toNat = c1 at *
    generalize (Y.byteAt n 0).toNat = c0 at *
    have d1 : n / 256 = n / 1 / 256 := by omega
    have d2 : n / 65536 = n / 256 / 256 := by omega
    have d3 : n / 16777216 = n / 65536 / 256 := by omega
    have d4 : n / 4294967296 = n / 16777216 / 256 := by omega
    have d5 : n / 1099511627776 = n / 4294967296 / 256 := by omega
    have d6 : n / 281474976710656 = n / 1099511627776 / 256 := by omega
    have d7 : n / 72057594037927936 = n / 281474976710656 / 256 := by omega
    generalize n / 256 = m1 at *
    generalize n / 65536 = m2 at *
    generalize n / 16777216 = m3 at *
    generalize n / 4294967296 = m4 at *
    generalize n / 1099511627776 = m5 at *
    generalize n / 281474976710656 = m6 at *
    generalize n / 72057594037927936 = m7 at *
    omega
  rw [hw]
  rfl
theorem putB {b : Bool} (l : List UInt8) : X.boolR (Y.numBytes (b2i b) 4 ++ l) 0 = (b, l, 0) := by
  unfold X.boolR
  rw [put4 (by cases b <;> decide)]
  cases b <;> rfl
theorem put0 (l : List UInt8) : X.boolR (Y.numBytes 0 4 ++ l) 0 = (false, l, 0) := putB (b := false) l
theorem put1 (l : List UInt8) : X.boolR (Y.numBytes 1 4 ++ l) 0 = (true, l, 0) := putB (b := true) l
theorem putF (s : ByteArray) (l : List UInt8) : X.fixR s.size (Y.fixedOf s ++ l) 0 = (s, l, 0) := by
  have e0 : s.data.toList.length = s.size := by simp
  have h1 : (Y.fixedOf s ++ l).take s.size = s.data.toList := by unfold Y.fixedOf; rw [List.append_assoc, ← e0, List.take_left]
  have h2 : (Y.fixedOf s ++ l).drop s.size = List.replicate (Y.pad s.size) 0 ++ l := by unfold Y.fixedOf; rw [List.append_assoc, ← e0, List.drop_left]
  have hlen : (Y.fixedOf s ++ l).length = s.size + Y.pad s.size + l.length := by unfold Y.fixedOf; simp; omega
  rw [X.fixR_nat, if_neg (by rw [hlen, pad_xy]; omega), if_pos, h1]
  · have h3 : (Y.fixedOf s ++ l).drop (s.size + X.pad s.size) = l := by
      rw [← List.drop_drop, h2, pad_xy]
      have := List.drop_left (l₁ := List.replicate (Y.pad s.size) (0 : UInt8)) (l₂ := l)
      rwa [List.length_replicate] at this
    rw [h3]
  · rw [h2, pad_xy]
    have := List.take_left (l₁ := List.replicate (Y.pad s.size) (0 : UInt8)) (l₂ := l)
    rw [List.length_replicate] at this
    rw [this]
    simp
theorem putO {s : ByteArray} {k : Nat} (hs : s.size ≤ k) (hk : k ≤ 99999) (l : List UInt8) : X.opqR k (Y.opaqueOf s ++ l) 0 = (s, l, 0) := by
  unfold X.opqR Y.opaqueOf
  rw [List.append_assoc, put4 (by omega), if_neg (show ¬ ((k : Int) < 0) by omega), if_neg (by show ¬ ((k : Int) < (s.size : Int)); omega)]
  exact putF s l

/-- What f lays out, g takes as it was. -/
def Lnv (f : List Int → List ByteArray → Lr) (g : List UInt8 → Tr) : Prop :=
  ∀ N T y N' T', f N T = .ok (y, N', T') → ∃ n t, N = n ++ N' ∧ T = t ++ T' ∧ ∀ z, g (y ++ z) = .ok (n, t, z)
theorem lnv_and {f f' : List Int → List ByteArray → Lr} {g g' : List UInt8 → Tr} (h : Lnv f g) (h' : Lnv f' g') : Lnv (fun N T => andL (f N T) f') (fun l => andT (g l) g') := by
  intro N T y N' T' e
  dsimp only at e
  cases hx : f N T with
  | error e' => rw [hx] at e; simp [andL] at e
  | ok q =>
    obtain ⟨y1, N1, T1⟩ := q
    rw [hx] at e
    simp only [andL] at e
    obtain ⟨n1, t1, a1, b1, c1⟩ := h _ _ _ _ _ hx
    cases hy : f' N1 T1 with
    | error e' => rw [hy] at e; simp [preL] at e
    | ok q =>
      obtain ⟨y2, N2, T2⟩ := q
      rw [hy] at e
      simp only [preL, Except.ok.injEq, Prod.mk.injEq] at e
      obtain ⟨rfl, rfl, rfl⟩ := e
      obtain ⟨n2, t2, a2, b2, c2⟩ := h' _ _ _ _ _ hy
      refine ⟨n1 ++ n2, t1 ++ t2, by rw [a1, a2, List.append_assoc], by rw [b1, b2, List.append_assoc], fun z => ?_⟩
      dsimp only
      rw [List.append_assoc, c1]
      simp only [andT, c2, pre]
theorem lnv_num4 : Lnv (fun N T => numL 0 4294967295 4 N T) (fun l => ofN (X.numR 4 l 0)) := by
  intro N T y N' T' e
  cases N with
  | nil => simp [numL] at e
  | cons n N =>
    unfold numL at e; dsimp only at e
    split at e
    · rename_i hn
      simp only [Except.ok.injEq, Prod.mk.injEq] at e
      obtain ⟨rfl, rfl, rfl⟩ := e
      refine ⟨[n], [], rfl, rfl, fun z => ?_⟩
      dsimp only
      rw [put4 hn]
      rfl
    · cases e
theorem lnv_bool : Lnv (fun N T => numL 0 1 4 N T) (fun l => ofN (boolN l)) := by
  intro N T y N' T' e
  cases N with
  | nil => simp [numL] at e
  | cons n N =>
    unfold numL at e; dsimp only at e
    split at e
    · rename_i hn
      simp only [Except.ok.injEq, Prod.mk.injEq] at e
      obtain ⟨rfl, rfl, rfl⟩ := e
      refine ⟨[n], [], rfl, rfl, fun z => ?_⟩
      obtain ⟨b, rfl⟩ : ∃ b, n = b2i b := by
        by_cases h1 : n = 1
        · exact ⟨true, h1⟩
        · exact ⟨false, by show n = 0; omega⟩
      dsimp only
      unfold boolN
      rw [putB]
      rfl
    · cases e
theorem lnv_one (c : UInt8) : Lnv (oneL c) (oneT c) := by
  by_cases h1 : c = 117
  · have e1 : oneT c = fun l => ofN (X.numR 4 l 0) := by funext l; unfold oneT; rw [if_pos h1]
    have e2 : oneL c = fun N T => numL 0 4294967295 4 N T := by funext N T; unfold oneL; rw [if_pos h1]
    rw [e1, e2]
    exact lnv_num4
  · by_cases h2 : c = 113
    · have e1 : oneT c = fun l => ofN (X.numR 8 l 0) := by funext l; unfold oneT; rw [if_neg h1, if_pos h2]
      have e2 : oneL c = fun N T => numL (-9223372036854775808) 9223372036854775807 8 N T := by funext N T; unfold oneL; rw [if_neg h1, if_pos h2]
      rw [e1, e2]
      intro N T y N' T' e
      cases N with
      | nil => simp [numL] at e
      | cons n N =>
        unfold numL at e; dsimp only at e
        split at e
        · rename_i hn
          simp only [Except.ok.injEq, Prod.mk.injEq] at e
          obtain ⟨rfl, rfl, rfl⟩ := e
          refine ⟨[n], [], rfl, rfl, fun z => ?_⟩
          dsimp only
          rw [put8 hn]
          rfl
        · cases e
    · have e1 : oneT c = fun l => ofN (boolN l) := by funext l; unfold oneT; rw [if_neg h1, if_neg h2]
      have e2 : oneL c = fun N T => numL 0 1 4 N T := by funext N T; unfold oneL; rw [if_neg h1, if_neg h2]
      rw [e1, e2]
      exact lnv_bool
theorem lnv_txt (c : UInt8) {k : Nat} (hk : k ≤ 99999) : Lnv (txtL c k) (numT c k) := by
  intro N T y N' T' e
  cases T with
  | nil => simp [txtL] at e
  | cons s T =>
    unfold txtL at e; dsimp only at e
    split at e
    · rename_i hc
      split at e
      · rename_i hs
        simp only [Except.ok.injEq, Prod.mk.injEq] at e
        obtain ⟨rfl, rfl, rfl⟩ := e
        refine ⟨[], [s], rfl, rfl, fun z => ?_⟩
        unfold numT
        rw [if_pos hc, putO hs hk]
        rfl
      · cases e
    · rename_i hc
      split at e
      · rename_i hs
        simp only [Except.ok.injEq, Prod.mk.injEq] at e
        obtain ⟨rfl, rfl, rfl⟩ := e
        refine ⟨[], [s], rfl, rfl, fun z => ?_⟩
        unfold numT
        rw [if_neg hc, ← hs, putF]
        rfl
      · cases e
theorem lnv_maybe {f : List Int → List ByteArray → Lr} {g : List UInt8 → Tr} (h : Lnv f g) : Lnv (maybeL f) (maybeT g) := by
  intro N T y N' T' e
  unfold maybeL at e
  cases N with
  | nil => simp [numL, andL] at e
  | cons n N =>
    unfold numL at e; dsimp only at e
    split at e
    · rename_i hn
      simp only [andL] at e
      by_cases h1 : n = 1
      · subst h1
        rw [if_pos (by rfl)] at e
        cases hy : f N T with
        | error e' => rw [hy] at e; simp [preL] at e
        | ok q =>
          obtain ⟨y2, N2, T2⟩ := q
          rw [hy] at e
          simp only [preL, Except.ok.injEq, Prod.mk.injEq] at e
          obtain ⟨rfl, rfl, rfl⟩ := e
          obtain ⟨n2, t2, a2, b2, c2⟩ := h _ _ _ _ _ hy
          refine ⟨1 :: n2, t2, by rw [a2]; rfl, b2, fun z => ?_⟩
          unfold maybeT boolN ofN
          rw [List.append_assoc, put1]
          dsimp only
          rw [if_pos rfl]
          simp only [andT, if_true, c2, pre]
          rfl
      · have h0 : n = 0 := by omega
        subst h0
        rw [if_neg (by simp)] at e
        simp only [preL, Except.ok.injEq, Prod.mk.injEq] at e
        obtain ⟨rfl, rfl, rfl⟩ := e
        refine ⟨[0], [], rfl, rfl, fun z => ?_⟩
        unfold maybeT boolN ofN
        rw [List.append_nil, put0]
        dsimp only
        rw [if_pos rfl]
        simp only [andT, Bool.false_eq_true, if_false, pre]
        rfl
    · simp [andL] at e
theorem lnv_rep {f : List Int → List ByteArray → Lr} {g : List UInt8 → Tr} (h : Lnv f g) : ∀ (j : Nat) N T y N' T', repL f j N T = .ok (y, N', T') →
    4 * j + 4 ≤ y.length ∧ ∃ n t, N = n ++ N' ∧ T = t ++ T' ∧ ∀ z k, j < k → times g k (y ++ z) = .ok (j, n, t, z)
  | 0, N, T, y, N', T', e => by
    simp only [repL, Except.ok.injEq, Prod.mk.injEq] at e
    obtain ⟨rfl, rfl, rfl⟩ := e
    refine ⟨by rw [Y.numBytes_length]; omega, [], [], rfl, rfl, fun z k hk => ?_⟩
    obtain ⟨k, rfl⟩ : ∃ m, k = m + 1 := ⟨k - 1, by omega⟩
    unfold times
    rw [put0]
    rfl
  | j + 1, N, T, y, N', T', e => by
    simp only [repL] at e
    cases hx : f N T with
    | error e' => rw [hx] at e; simp [andL, preL] at e
    | ok q =>
      obtain ⟨y1, N1, T1⟩ := q
      rw [hx] at e
      simp only [andL] at e
      cases hy : repL f j N1 T1 with
      | error e' => rw [hy] at e; simp [preL] at e
      | ok q =>
        obtain ⟨y2, N2, T2⟩ := q
        rw [hy] at e
        simp only [preL, Except.ok.injEq, Prod.mk.injEq] at e
        obtain ⟨rfl, rfl, rfl⟩ := e
        obtain ⟨n1, t1, a1, b1, c1⟩ := h _ _ _ _ _ hx
        obtain ⟨d2, n2, t2, a2, b2, c2⟩ := lnv_rep h j N1 T1 y2 N2 T2 hy
        refine ⟨by rw [List.length_append, List.length_append, Y.numBytes_length]; omega, n1 ++ n2, t1 ++ t2, by rw [a1, a2, List.append_assoc], by rw [b1, b2, List.append_assoc], fun z k hk => ?_⟩
        obtain ⟨k, rfl⟩ : ∃ m, k = m + 1 := ⟨k - 1, by omega⟩
        unfold times
        rw [List.append_assoc, List.append_assoc, put1]
        dsimp only
        rw [if_neg (by simp), if_pos rfl, c1]
        dsimp only
        rw [c2 z k (by omega)]
theorem lnv_times {f : List Int → List ByteArray → Lr} {g : List UInt8 → Tr} (h : Lnv f g) : Lnv (timesL f) (timesT g) := by
  intro N T y N' T' e
  cases N with
  | nil => simp [timesL] at e
  | cons n N =>
    unfold timesL at e; dsimp only at e
    split at e
    · rename_i hn
      obtain ⟨d, n1, t1, a1, b1, c1⟩ := lnv_rep h _ _ _ _ _ _ e
      refine ⟨n :: n1, t1, by rw [a1]; rfl, b1, fun z => ?_⟩
      unfold timesT
      rw [c1 z _ (by rw [List.length_append]; omega)]
      dsimp only
      rw [Int.toNat_of_nonneg hn.1]
    · cases e
theorem back_ly : ∀ (r : Row) (m : Option Int) (b : Bool), wf b r → Lnv (ly m r) (tk m r)
  | .nil, none, _, _ => fun N T y N' T' e => by
    simp only [ly, Except.ok.injEq, Prod.mk.injEq] at e
    obtain ⟨rfl, rfl, rfl⟩ := e
    exact ⟨[], [], rfl, rfl, fun z => rfl⟩
  | .one c r, none, true, hw => by
    have := lnv_and (lnv_one c) (back_ly r none true hw.2)
    intro N T y N' T' e
    obtain ⟨n, t, a, b, d⟩ := this N T y N' T' (by simpa only [ly] using e)
    exact ⟨n, t, a, b, fun z => by rw [tk]; exact d z⟩
  | .num c k r, none, true, hw => by
    have := lnv_and (lnv_txt c hw.2.1) (back_ly r none true hw.2.2)
    intro N T y N' T' e
    obtain ⟨n, t, a, b, d⟩ := this N T y N' T' (by simpa only [ly] using e)
    exact ⟨n, t, a, b, fun z => by rw [tk]; exact d z⟩
  | .opt c i r, none, true, hw => by
    by_cases hc : c = 63
    · have := lnv_and (lnv_maybe (back_ly i none true hw.2.1)) (back_ly r none true hw.2.2)
      intro N T y N' T' e
      simp only [ly, if_pos hc] at e
      obtain ⟨n, t, a, b, d⟩ := this N T y N' T' e
      exact ⟨n, t, a, b, fun z => by rw [tk, if_pos hc]; exact d z⟩
    · have := lnv_and (lnv_times (back_ly i none true hw.2.1)) (back_ly r none true hw.2.2)
      intro N T y N' T' e
      simp only [ly, if_neg hc] at e
      obtain ⟨n, t, a, b, d⟩ := this N T y N' T' e
      exact ⟨n, t, a, b, fun z => by rw [tk, if_neg hc]; exact d z⟩
  | .ch a r, none, true, hw => by
    have ha : Lnv (armL fun n N' T' => ly (some n) a N' T') (armT fun n l1 => tk (some n) a l1) := by
      intro N T y N' T' e
      unfold armL at e
      cases N with
      | nil => simp [numL, andL] at e
      | cons n N =>
        unfold numL at e; dsimp only at e
        split at e
        · rename_i hn
          simp only [andL, List.headD_cons] at e
          cases hy : ly (some n) a N T with
          | error e' => rw [hy] at e; simp [preL] at e
          | ok q =>
            obtain ⟨y2, N2, T2⟩ := q
            rw [hy] at e
            simp only [preL, Except.ok.injEq, Prod.mk.injEq] at e
            obtain ⟨rfl, rfl, rfl⟩ := e
            obtain ⟨n2, t2, a2, b2, c2⟩ := back_ly a (some n) false hw.1 _ _ _ _ _ hy
            refine ⟨n :: n2, t2, by rw [a2]; rfl, b2, fun z => ?_⟩
            unfold armT ofN
            rw [List.append_assoc, put4 hn]
            dsimp only
            rw [if_pos rfl]
            simp only [andT, c2, pre]
            rfl
        · simp [andL] at e
    have := lnv_and ha (back_ly r none true hw.2)
    intro N T y N' T' e
    obtain ⟨n, t, a, b, d⟩ := this N T y N' T' (by simpa only [ly] using e)
    exact ⟨n, t, a, b, fun z => by rw [tk]; exact d z⟩
  | .arm k i r, some n, false, hw => by
    intro N T y N' T' e
    simp only [ly] at e
    by_cases hk : k = n ∨ k = -1
    · rw [if_pos hk] at e
      obtain ⟨n', t, a, b, d⟩ := back_ly i none true hw.1 _ _ _ _ _ e
      exact ⟨n', t, a, b, fun z => by rw [tk, if_pos hk]; exact d z⟩
    · rw [if_neg hk] at e
      obtain ⟨n', t, a, b, d⟩ := back_ly r (some n) false hw.2 _ _ _ _ _ e
      exact ⟨n', t, a, b, fun z => by rw [tk, if_neg hk]; exact d z⟩
  | .arm _ _ _, none, _, _ => fun _ _ _ _ _ e => by simp [ly] at e
  | .nil, some _, _, _ => fun _ _ _ _ _ e => by simp [ly] at e
  | .one _ _, some _, _, _ => fun _ _ _ _ _ e => by simp [ly] at e
  | .num _ _ _, some _, _, _ => fun _ _ _ _ _ e => by simp [ly] at e
  | .opt _ _ _, some _, _, _ => fun _ _ _ _ _ e => by simp [ly] at e
  | .ch _ _, some _, _, _ => fun _ _ _ _ _ e => by simp [ly] at e
  | .one _ _, none, false, hw => absurd hw (by simp [wf])
  | .num _ _ _, none, false, hw => absurd hw (by simp [wf])
  | .opt _ _ _, none, false, hw => absurd hw (by simp [wf])
  | .ch _ _, none, false, hw => absurd hw (by simp [wf])
  | .arm _ _ _, some _, true, hw => absurd hw (by simp [wf])
end Go.Proofs.YtihkjgfghjgblaaGreatDoor
