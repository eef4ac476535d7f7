/-
  What is taken of any bytes is laid out as just these bytes, whatever the form: plain facts on the taker and the layer. Its condition: the bytes are fewer than 2^62.
-/
import Derived.Test.YtihkjgfghjgblaaGreatDoorTn
import Derived.Test.YtihkjgfghjgblaaGreatDoorLm
namespace Go.Proofs.YtihkjgfghjgblaaGreatDoor
open Go.RowKit Sch
theorem bytes4 (a b c d : UInt8) : Y.numBytes (((256 * (256 * (256 * (256 * 0 + a.toNat) + b.toNat) + c.toNat) + d.toNat : Nat)) : Int) 4 = [a, b, c, d] := by
  have ha := a.toNat_lt
  have hb := b.toNat_lt
  have hc := c.toNat_lt
  have hd := d.toNat_lt
  generalize hn : (((256 * (256 * (256 * (256 * 0 + a.toNat) + b.toNat) + c.toNat) + d.toNat : Nat)) : Int) = n
  have h0 := Y.byteAt_toNat n 0
  have h1 := Y.byteAt_toNat n 8
  have h2 := Y.byteAt_toNat n 16
  have h3 := Y.byteAt_toNat n 24
  simp only [Int.reducePow] at h0 h1 h2 h3
  show [Y.byteAt n 24, Y.byteAt n 16, Y.byteAt n 8, Y.byteAt n 0] = _
  have e3 : Y.byteAt n 24 = a := UInt8.toNat_inj.1 (by omega)
  have e2 : Y.byteAt n 16 = b := UInt8.toNat_inj.1 (by omega)
  have e1 : Y.byteAt n 8 = c := UInt8.toNat_inj.1 (by omega)
  have e0 : Y.byteAt n 0 = d := UInt8.toNat_inj.1 (by omega)
  rw [e3, e2, e1, e0]
theorem bytes8 (a b c d e f g h : UInt8) : Y.numBytes (IntKind.i64.wrap ((256 * (256 * (256 * (256 * (256 * (256 * (256 * (256 * 0 + a.toNat) + b.toNat) + c.toNat) + d.toNat) + e.toNat) + f.toNat) + g.toNat) + h.toNat : Nat) : Int)) 8 = [a, b, c, d, e, f, g, h] := by
  have ha := a.toNat_lt
  have hb := b.toNat_lt
  have hc := c.toNat_lt
  have hd := d.toNat_lt
  have he := e.toNat_lt
  have hf := f.toNat_lt
  have hg := g.toNat_lt
  have hh := h.toNat_lt
  generalize hn : IntKind.i64.wrap ((256 * (256 * (256 * (256 * (256 * (256 * (256 * (256 * 0 + a.toNat) + b.toNat) + c.toNat) + d.toNat) + e.toNat) + f.toNat) + g.toNat) + h.toNat : Nat) : Int) = n
  rw [IntKind.wrap_i64] at hn
  have h0 := Y.byteAt_toNat n 0
  have h1 := Y.byteAt_toNat n 8
  have h2 := Y.byteAt_toNat n 16
  have h3 := Y.byteAt_toNat n 24
  have h4 := Y.byteAt_toNat n 32
  have h5 := Y.byteAt_toNat n 40
  have h6 := Y.byteAt_toNat n 48
  have h7 := Y.byteAt_toNat n 56
  simp only [Int.reducePow] at h0 h1 h2 h3 h4 h5 h6 h7
  show [Y.byteAt n 56, Y.byteAt n 48, Y.byteAt n 40, Y.byteAt n 32, Y.byteAt n 24, Y.byteAt n 16, Y.byteAt n 8, Y.byteAt n 0] = _
  have e7 : Y.byteAt n 56 = a := UInt8.toNat_inj.1 (by clear h0 h1 h2 h3 h4 h5 h6; omega)
  have e6 : Y.byteAt n 48 = b := UInt8.toNat_inj.1 (by clear h0 h1 h2 h3 h4 h5 h7; omega)
  have e5 : Y.byteAt n 40 = c := UInt8.toNat_inj.1 (by clear h0 h1 h2 h3 h4 h6 h7; omega)
  have e4 : Y.byteAt n 32 = d := UInt8.toNat_inj.1 (by clear h0 h1 h2 h3 h5 h6 h7; omega)
  have e3 : Y.byteAt n 24 = e := UInt8.toNat_inj.1 (by clear h0 h1 h2 h4 h5 h6 h7; omega)
  have e2 : Y.byteAt n 16 = f := UInt8.toNat_inj.1 (by clear h0 h1 h3 h4 h5 h6 h7; omega)
  have e1 : Y.byteAt n 8 = g := UInt8.toNat_inj.1 (by clear h0 h2 h3 h4 h5 h6 h7; omega)
  have e0 : Y.byteAt n 0 = h := UInt8.toNat_inj.1 (by clear h1 h2 h3 h4 h5 h6 h7; omega)
  rw [e7, e6, e5, e4, e3, e2, e1, e0]
theorem numR_back4 {l : List UInt8} (h : (X.numR 4 l 0).2.2 = 0) : l = Y.numBytes (X.numR 4 l 0).1 4 ++ (X.numR 4 l 0).2.1 ∧ 0 ≤ (X.numR 4 l 0).1 ∧ (X.numR 4 l 0).1 ≤ 4294967295 := by
  unfold X.numR at h ⊢
  by_cases hl : l.length < 4
  · simp [if_pos hl, X.failE] at h
  · rw [if_neg hl]
    match l, hl with
    | a :: b :: c :: d :: t, _ =>
      have ha := a.toNat_lt
      have hb := b.toNat_lt
      have hc := c.toNat_lt
      have hd := d.toNat_lt
      have hbe : X.be (List.take 4 (a :: b :: c :: d :: t)) = 256 * (256 * (256 * (256 * 0 + a.toNat) + b.toNat) + c.toNat) + d.toNat := rfl
      have hw : IntKind.i64.wrap ((256 * (256 * (256 * (256 * 0 + a.toNat) + b.toNat) + c.toNat) + d.toNat : Nat) : Int) = ((256 * (256 * (256 * (256 * 0 + a.toNat) + b.toNat) + c.toNat) + d.toNat : Nat) : Int) := IntWalk.i64_in _ (by omega)
      rw [hbe, hw]
      refine ⟨?_, by omega, by omega⟩
      rw [bytes4]
      rfl
    | [], h => simp at h
    | [_], h => simp at h
    | [_, _], h => simp at h
    | [_, _, _], h => simp at h
theorem numR_back8 {l : List UInt8} (h : (X.numR 8 l 0).2.2 = 0) : l = Y.numBytes (X.numR 8 l 0).1 8 ++ (X.numR 8 l 0).2.1 ∧ -9223372036854775808 ≤ (X.numR 8 l 0).1 ∧ (X.numR 8 l 0).1 ≤ 9223372036854775807 := by
  unfold X.numR at h ⊢
  by_cases hl : l.length < 8
  · simp [if_pos hl, X.failE] at h
  · rw [if_neg hl]
    match l, hl with
    | a :: b :: c :: d :: e :: f :: g :: i :: t, _ =>
      have hbe : X.be (List.take 8 (a :: b :: c :: d :: e :: f :: g :: i :: t)) = 256 * (256 * (256 * (256 * (256 * (256 * (256 * (256 * 0 + a.toNat) + b.toNat) + c.toNat) + d.toNat) + e.toNat) + f.toNat) + g.toNat) + i.toNat := rfl
      rw [hbe]
      refine ⟨?_, ?_, ?_⟩
      · rw [bytes8]
        rfl
      · rw [IntKind.wrap_i64]; omega
      · rw [IntKind.wrap_i64]; omega
    | [], h => simp at h
    | [_], h => simp at h
    | [_, _], h => simp at h
    | [_, _, _], h => simp at h
    | [_, _, _, _], h => simp at h
    | [_, _, _, _, _], h => simp at h
    | [_, _, _, _, _, _], h => simp at h
    | [_, _, _, _, _, _, _], h => simp at h
theorem boolR_back {l : List UInt8} (h : (X.boolR l 0).2.2 = 0) : l = Y.numBytes (b2i (X.boolR l 0).1) 4 ++ (X.boolR l 0).2.1 := by
  unfold X.boolR at h ⊢
  by_cases h1 : 1 < (X.numR 4 l 0).1
  · rw [if_pos h1] at h
    exfalso
    revert h
    show X.failE (X.numR 4 l 0).2.2 4 ≠ 0
    unfold X.failE
    split
    · decide
    · assumption
  · rw [if_neg h1] at h ⊢
    obtain ⟨e, a, b⟩ := numR_back4 h
    show l = Y.numBytes (b2i ((X.numR 4 l 0).1 == 1)) 4 ++ (X.numR 4 l 0).2.1
    have : b2i ((X.numR 4 l 0).1 == 1) = (X.numR 4 l 0).1 := by
      generalize (X.numR 4 l 0).1 = n at *
      by_cases hn : n = 1
      · subst hn; rfl
      · have h0 : n = 0 := by omega
        subst h0; rfl
    rw [this]
    exact e
theorem pad_xy (n : Nat) : X.pad n = Y.pad n := rfl
theorem fixR_back {n : Nat} {l : List UInt8} (h : (X.fixR n l 0).2.2 = 0) : l = Y.fixedOf (X.fixR n l 0).1 ++ (X.fixR n l 0).2.1 ∧ (X.fixR n l 0).1.size = n := by
  rw [X.fixR_nat] at h ⊢
  by_cases h1 : (l.length : Int) - (X.pad n : Nat) < n
  · simp [if_pos h1, X.failE] at h
  · rw [if_neg h1] at h ⊢
    by_cases h2 : ((l.drop n).take (X.pad n)).all (· == 0) = true
    · rw [if_pos h2] at h ⊢
      have hs : (⟨(l.take n).toArray⟩ : ByteArray).size = n := by
        show (l.take n).toArray.size = n
        simp
        omega
      refine ⟨?_, hs⟩
      unfold Y.fixedOf
      rw [hs]
      show l = ((l.take n).toArray.toList ++ List.replicate (Y.pad n) 0) ++ l.drop (n + X.pad n)
      have h3 : (l.drop n).take (X.pad n) = List.replicate (Y.pad n) 0 := by
        rw [List.eq_replicate_iff]
        refine ⟨?_, fun b hb => ?_⟩
        · rw [List.length_take, List.length_drop, ← pad_xy]; omega
        · rw [List.all_eq_true] at h2
          simpa using h2 b hb
      rw [← h3, List.toList_toArray, List.append_assoc, ← List.drop_drop, List.take_append_drop, List.take_append_drop]
    · rw [if_neg h2] at h
      simp [X.failE] at h
theorem opqR_back {k : Nat} {l : List UInt8} (h : (X.opqR k l 0).2.2 = 0) : l = Y.opaqueOf (X.opqR k l 0).1 ++ (X.opqR k l 0).2.1 ∧ (X.opqR k l 0).1.size ≤ k := by
  have hk : ¬ (k : Int) < 0 := by omega
  unfold X.opqR at h ⊢
  simp only [if_neg hk] at h ⊢
  by_cases h1 : (k : Int) < (X.numR 4 l 0).1
  · rw [if_pos h1] at h
    exfalso
    revert h
    show X.failE (X.numR 4 l 0).2.2 2 ≠ 0
    unfold X.failE
    split
    · decide
    · assumption
  · rw [if_neg h1] at h ⊢
    have h0 : (X.numR 4 l 0).2.2 = 0 := by
      refine Classical.byContradiction fun hne => ?_
      revert h
      unfold X.fixR X.failE
      split
      · exact hne
      · split
        · simp [hne]
        · split
          · exact hne
          · simp [hne]
    obtain ⟨e, a, b⟩ := numR_back4 h0
    generalize X.numR 4 l 0 = y at *
    obtain ⟨n, l1, e1⟩ := y
    dsimp only at *
    subst h0
    obtain ⟨m, rfl⟩ : ∃ m : Nat, n = m := ⟨n.toNat, by omega⟩
    obtain ⟨f1, f2⟩ := fixR_back h
    refine ⟨?_, by omega⟩
    unfold Y.opaqueOf
    rw [f2, List.append_assoc, ← f1]
    exact e

/-- What g takes, f lays out as it was. -/
def Inv (g : List UInt8 → Tr) (f : List Int → List ByteArray → Lr) (l : List UInt8) : Prop :=
  ∀ n t l', g l = .ok (n, t, l') → ∃ y, l = y ++ l' ∧ ∀ N T, f (n ++ N) (t ++ T) = .ok (y, N, T)
theorem inv_and {g g' : List UInt8 → Tr} {f f' : List Int → List ByteArray → Lr} {l : List UInt8} (h : Inv g f l) (h' : ∀ l1, l1.length ≤ l.length → Inv g' f' l1) : Inv (fun l => andT (g l) g') (fun N T => andL (f N T) f') l := by
  intro n t l' e
  dsimp only at e
  cases hx : g l with
  | error e' => rw [hx] at e; simp [andT] at e
  | ok y =>
    obtain ⟨n1, t1, l1⟩ := y
    rw [hx] at e
    simp only [andT] at e
    obtain ⟨y1, a1, b1⟩ := h n1 t1 l1 hx
    cases hy : g' l1 with
    | error e' => rw [hy] at e; simp [pre] at e
    | ok z =>
      obtain ⟨n2, t2, l2⟩ := z
      rw [hy] at e
      simp only [pre, Except.ok.injEq, Prod.mk.injEq] at e
      obtain ⟨rfl, rfl, rfl⟩ := e
      obtain ⟨y2, a2, b2⟩ := h' l1 (by rw [a1, List.length_append]; omega) n2 t2 l2 hy
      refine ⟨y1 ++ y2, by rw [a1, a2, List.append_assoc], fun N T => ?_⟩
      show andL (f (n1 ++ n2 ++ N) (t1 ++ t2 ++ T)) f' = _
      rw [List.append_assoc, List.append_assoc, b1]
      simp only [andL, b2, preL]
theorem inv_bool {l : List UInt8} : Inv (fun l => ofN (boolN l)) (fun N T => numL 0 1 4 N T) l := by
  intro n t l' e
  dsimp only at e
  unfold ofN at e
  split at e
  · rename_i h0
    simp only [Except.ok.injEq, Prod.mk.injEq] at e
    obtain ⟨rfl, rfl, rfl⟩ := e
    refine ⟨_, boolR_back h0, fun N T => ?_⟩
    show numL 0 1 4 (b2i (X.boolR l 0).1 :: N) T = _
    unfold numL; dsimp only
    rw [if_pos (by cases (X.boolR l 0).1 <;> decide)]
  · cases e
theorem inv_num4 {l : List UInt8} : Inv (fun l => ofN (X.numR 4 l 0)) (fun N T => numL 0 4294967295 4 N T) l := by
  intro n t l' e
  dsimp only at e
  unfold ofN at e
  split at e
  · rename_i h0
    simp only [Except.ok.injEq, Prod.mk.injEq] at e
    obtain ⟨rfl, rfl, rfl⟩ := e
    obtain ⟨a, b⟩ := numR_back4 h0
    refine ⟨_, a, fun N T => ?_⟩
    show numL 0 4294967295 4 ((X.numR 4 l 0).1 :: N) T = _
    unfold numL; dsimp only
    rw [if_pos b]
  · cases e
theorem inv_one (c : UInt8) (l : List UInt8) : Inv (oneT c) (oneL c) l := by
  by_cases h1 : c = 117
  · have e1 : oneT c = fun l => ofN (X.numR 4 l 0) := by funext l; unfold oneT; rw [if_pos h1]
    have e2 : oneL c = fun N T => numL 0 4294967295 4 N T := by funext N T; unfold oneL; rw [if_pos h1]
    rw [e1, e2]
    exact inv_num4
  · by_cases h2 : c = 113
    · have e1 : oneT c = fun l => ofN (X.numR 8 l 0) := by funext l; unfold oneT; rw [if_neg h1, if_pos h2]
      have e2 : oneL c = fun N T => numL (-9223372036854775808) 9223372036854775807 8 N T := by funext N T; unfold oneL; rw [if_neg h1, if_pos h2]
      rw [e1, e2]
      intro n t l' e
      dsimp only at e
      unfold ofN at e
      split at e
      · rename_i h0
        simp only [Except.ok.injEq, Prod.mk.injEq] at e
        obtain ⟨rfl, rfl, rfl⟩ := e
        obtain ⟨a, b⟩ := numR_back8 h0
        refine ⟨_, a, fun N T => ?_⟩
        show numL (-9223372036854775808) 9223372036854775807 8 ((X.numR 8 l 0).1 :: N) T = _
        unfold numL; dsimp only
        rw [if_pos b]
      · cases e
    · have e1 : oneT c = fun l => ofN (boolN l) := by funext l; unfold oneT; rw [if_neg h1, if_neg h2]
      have e2 : oneL c = fun N T => numL 0 1 4 N T := by funext N T; unfold oneL; rw [if_neg h1, if_neg h2]
      rw [e1, e2]
      exact inv_bool
theorem inv_txt (c : UInt8) (k : Nat) (l : List UInt8) : Inv (numT c k) (txtL c k) l := by
  intro n t l' e
  unfold numT ofT at e
  by_cases h1 : c = 111
  · rw [if_pos h1] at e
    split at e
    · rename_i h0
      simp only [Except.ok.injEq, Prod.mk.injEq] at e
      obtain ⟨rfl, rfl, rfl⟩ := e
      obtain ⟨a, b⟩ := opqR_back h0
      refine ⟨_, a, fun N T => ?_⟩
      show txtL c k N ((X.opqR k l 0).1 :: T) = _
      unfold txtL; dsimp only
      rw [if_pos h1, if_pos b]
    · cases e
  · rw [if_neg h1] at e
    split at e
    · rename_i h0
      simp only [Except.ok.injEq, Prod.mk.injEq] at e
      obtain ⟨rfl, rfl, rfl⟩ := e
      obtain ⟨a, b⟩ := fixR_back h0
      refine ⟨_, a, fun N T => ?_⟩
      show txtL c k N ((X.fixR k l 0).1 :: T) = _
      unfold txtL; dsimp only
      rw [if_neg h1, if_pos b]
    · cases e
theorem inv_maybe {g : List UInt8 → Tr} {f : List Int → List ByteArray → Lr} {l : List UInt8} (h : ∀ l1, l1.length ≤ l.length → Inv g f l1) : Inv (maybeT g) (maybeL f) l := by
  intro n t l' e
  unfold maybeT at e
  cases hx : ofN (boolN l) with
  | error e' => rw [hx] at e; simp [andT] at e
  | ok y =>
    obtain ⟨n1, t1, l1⟩ := y
    rw [hx] at e
    simp only [andT] at e
    obtain ⟨y1, a1, b1⟩ := inv_bool n1 t1 l1 hx
    have hn : n1 = [b2i (X.boolR l 0).1] ∧ t1 = [] := by
      unfold ofN at hx
      split at hx
      · simp only [Except.ok.injEq, Prod.mk.injEq] at hx
        obtain ⟨rfl, rfl, _⟩ := hx
        exact ⟨rfl, rfl⟩
      · cases hx
    obtain ⟨rfl, rfl⟩ := hn
    cases hb : (X.boolR l 0).1
    · rw [hb] at e b1
      simp only [Bool.false_eq_true, if_false, pre, List.append_nil, Except.ok.injEq, Prod.mk.injEq] at e
      obtain ⟨rfl, rfl, rfl⟩ := e
      refine ⟨y1, a1, fun N T => ?_⟩
      unfold maybeL
      have := b1 N T
      dsimp only at this
      rw [this]
      simp only [andL]
      rw [if_neg (by simp [b2i])]
      simp [preL]
    · rw [hb] at e b1
      simp only [if_true] at e
      cases hy : g l1 with
      | error e' => rw [hy] at e; simp [pre] at e
      | ok z =>
        obtain ⟨n2, t2, l2⟩ := z
        rw [hy] at e
        simp only [pre, Except.ok.injEq, Prod.mk.injEq] at e
        obtain ⟨rfl, rfl, rfl⟩ := e
        obtain ⟨y2, a2, b2⟩ := h l1 (by rw [a1, List.length_append]; omega) n2 t2 l2 hy
        refine ⟨y1 ++ y2, by rw [a1, a2, List.append_assoc], fun N T => ?_⟩
        unfold maybeL
        have := b1 (n2 ++ N) (t2 ++ T)
        dsimp only at this
        rw [List.append_assoc, List.append_assoc, this]
        simp only [andL]
        rw [if_pos (by simp [b2i])]
        simp only [b2, preL]
theorem inv_times {g : List UInt8 → Tr} {f : List Int → List ByteArray → Lr} : ∀ (k : Nat) (l : List UInt8), (∀ l1, l1.length ≤ l.length → Inv g f l1) → ∀ j n t l', times g k l = .ok (j, n, t, l') → j < k ∧ ∃ y, l = y ++ l' ∧ ∀ N T, repL f j (n ++ N) (t ++ T) = .ok (y, N, T)
  | 0, _, _, _, _, _, _, e => by simp [times] at e
  | k + 1, l, h, j, n, t, l', e => by
    unfold times at e
    split at e
    · cases e
    · rename_i h0
      have h0' : (X.boolR l 0).2.2 = 0 := by simpa using h0
      have hb := boolR_back h0'
      split at e
      · rename_i ht
        rw [ht] at hb
        have hlen : (X.boolR l 0).2.1.length ≤ l.length := by
          have := congrArg List.length hb
          rw [List.length_append] at this
          omega
        cases hx : g (X.boolR l 0).2.1 with
        | error e' => rw [hx] at e; simp at e
        | ok y =>
          obtain ⟨n1, t1, l1⟩ := y
          rw [hx] at e
          dsimp only at e
          cases hy : times g k l1 with
          | error e' => rw [hy] at e; simp at e
          | ok z =>
            obtain ⟨j2, n2, t2, l2⟩ := z
            rw [hy] at e
            simp only [Except.ok.injEq, Prod.mk.injEq] at e
            obtain ⟨rfl, rfl, rfl, rfl⟩ := e
            obtain ⟨y1, a1, b1⟩ := h _ hlen n1 t1 l1 hx
            have hl1 : l1.length ≤ l.length := by
              have := congrArg List.length a1
              rw [List.length_append] at this
              omega
            obtain ⟨c2, y2, a2, b2⟩ := inv_times k l1 (fun m hm => h m (by omega)) j2 n2 t2 l2 hy
            refine ⟨by omega, Y.numBytes 1 4 ++ (y1 ++ y2), ?_, fun N T => ?_⟩
            · rw [List.append_assoc, List.append_assoc, ← a2, ← a1]
              exact hb
            · simp only [repL]
              rw [List.append_assoc, List.append_assoc, b1]
              simp only [andL, b2, preL]
      · rename_i ht
        have ht' : (X.boolR l 0).1 = false := by simpa using ht
        rw [ht'] at hb
        simp only [Except.ok.injEq, Prod.mk.injEq] at e
        obtain ⟨rfl, rfl, rfl, rfl⟩ := e
        refine ⟨by omega, _, hb, fun N T => ?_⟩
        rfl
theorem inv_timesT {g : List UInt8 → Tr} {f : List Int → List ByteArray → Lr} {l : List UInt8} (hl : l.length < 4611686018427387904) (h : ∀ l1, l1.length ≤ l.length → Inv g f l1) : Inv (timesT g) (timesL f) l := by
  intro n t l' e
  unfold timesT at e
  cases hx : times g (l.length + 1) l with
  | error e' => rw [hx] at e; simp at e
  | ok y =>
    obtain ⟨j, n1, t1, l1⟩ := y
    rw [hx] at e
    simp only [Except.ok.injEq, Prod.mk.injEq] at e
    obtain ⟨rfl, rfl, rfl⟩ := e
    obtain ⟨c, y, a, b⟩ := inv_times _ l h j n1 t1 l1 hx
    refine ⟨y, a, fun N T => ?_⟩
    show timesL f ((j : Int) :: (n1 ++ N)) (t1 ++ T) = _
    unfold timesL; dsimp only
    rw [if_pos (by omega), Int.toNat_natCast]
    exact b N T
theorem back_tk : ∀ (r : Row) (m : Option Int) (l : List UInt8), l.length < 4611686018427387904 → Inv (tk m r) (ly m r) l
  | .nil, none, l, _ => fun n t l' e => by
    simp only [tk, Except.ok.injEq, Prod.mk.injEq] at e
    obtain ⟨rfl, rfl, rfl⟩ := e
    exact ⟨[], rfl, fun N T => by simp [ly]⟩
  | .one c r, none, l, hl => by
    have := inv_and (inv_one c l) (g' := tk none r) (f' := ly none r) fun l1 h1 => back_tk r none l1 (by omega)
    intro n t l' e
    obtain ⟨y, a, b⟩ := this n t l' (by simpa only [tk] using e)
    exact ⟨y, a, fun N T => by rw [ly]; exact b N T⟩
  | .num c k r, none, l, hl => by
    have := inv_and (inv_txt c k l) (g' := tk none r) (f' := ly none r) fun l1 h1 => back_tk r none l1 (by omega)
    intro n t l' e
    obtain ⟨y, a, b⟩ := this n t l' (by simpa only [tk] using e)
    exact ⟨y, a, fun N T => by rw [ly]; exact b N T⟩
  | .opt c i r, none, l, hl => by
    by_cases hc : c = 63
    · have := inv_and (inv_maybe (l := l) fun l1 h1 => back_tk i none l1 (by omega)) (g' := tk none r) (f' := ly none r) fun l1 h1 => back_tk r none l1 (by omega)
      intro n t l' e
      simp only [tk, if_pos hc] at e
      obtain ⟨y, a, b⟩ := this n t l' e
      exact ⟨y, a, fun N T => by rw [ly, if_pos hc]; exact b N T⟩
    · have := inv_and (inv_timesT hl fun l1 h1 => back_tk i none l1 (by omega)) (g' := tk none r) (f' := ly none r) fun l1 h1 => back_tk r none l1 (by omega)
      intro n t l' e
      simp only [tk, if_neg hc] at e
      obtain ⟨y, a, b⟩ := this n t l' e
      exact ⟨y, a, fun N T => by rw [ly, if_neg hc]; exact b N T⟩
  | .ch a r, none, l, hl => by
    have ha : Inv (armT fun n l1 => tk (some n) a l1) (armL fun n N' T' => ly (some n) a N' T') l := by
      intro n t l' e
      unfold armT at e
      cases hx : ofN (X.numR 4 l 0) with
      | error e' => rw [hx] at e; simp [andT] at e
      | ok y =>
        obtain ⟨n1, t1, l1⟩ := y
        rw [hx] at e
        simp only [andT] at e
        obtain ⟨y1, a1, b1⟩ := inv_num4 n1 t1 l1 hx
        have hn : n1 = [(X.numR 4 l 0).1] ∧ t1 = [] := by
          unfold ofN at hx
          split at hx
          · simp only [Except.ok.injEq, Prod.mk.injEq] at hx
            obtain ⟨rfl, rfl, _⟩ := hx
            exact ⟨rfl, rfl⟩
          · cases hx
        obtain ⟨rfl, rfl⟩ := hn
        cases hy : tk (some (X.numR 4 l 0).1) a l1 with
        | error e' => rw [hy] at e; simp [pre] at e
        | ok z =>
          obtain ⟨n2, t2, l2⟩ := z
          rw [hy] at e
          simp only [pre, Except.ok.injEq, Prod.mk.injEq] at e
          obtain ⟨rfl, rfl, rfl⟩ := e
          have hlen : l1.length ≤ l.length := by rw [a1, List.length_append]; omega
          obtain ⟨y2, a2, b2⟩ := back_tk a (some (X.numR 4 l 0).1) l1 (by omega) n2 t2 l2 hy
          refine ⟨y1 ++ y2, by rw [a2] at a1; rw [List.append_assoc]; exact a1, fun N T => ?_⟩
          unfold armL
          have := b1 (n2 ++ N) (t2 ++ T)
          dsimp only at this
          rw [List.append_assoc, List.append_assoc, this]
          simp only [andL]
          show preL y1 (ly (some (X.numR 4 l 0).1) a (n2 ++ N) (t2 ++ T)) = _
          simp only [b2, preL]
    have := inv_and ha (g' := tk none r) (f' := ly none r) fun l1 h1 => back_tk r none l1 (by omega)
    intro n t l' e
    obtain ⟨y, a, b⟩ := this n t l' (by simpa only [tk] using e)
    exact ⟨y, a, fun N T => by rw [ly]; exact b N T⟩
  | .arm k i r, some n, l, hl => by
    intro n' t l' e
    simp only [tk] at e
    by_cases hk : k = n ∨ k = -1
    · rw [if_pos hk] at e
      obtain ⟨y, a, b⟩ := back_tk i none l hl n' t l' e
      exact ⟨y, a, fun N T => by rw [ly, if_pos hk]; exact b N T⟩
    · rw [if_neg hk] at e
      obtain ⟨y, a, b⟩ := back_tk r (some n) l hl n' t l' e
      exact ⟨y, a, fun N T => by rw [ly, if_neg hk]; exact b N T⟩
  | .arm _ _ _, none, _, _ => fun _ _ _ e => by simp [tk] at e
  | .nil, some _, _, _ => fun _ _ _ e => by simp [tk] at e
  | .one _ _, some _, _, _ => fun _ _ _ e => by simp [tk] at e
  | .num _ _ _, some _, _, _ => fun _ _ _ e => by simp [tk] at e
  | .opt _ _ _, some _, _, _ => fun _ _ _ e => by simp [tk] at e
  | .ch _ _, some _, _, _ => fun _ _ _ e => by simp [tk] at e
end Go.Proofs.YtihkjgfghjgblaaGreatDoor
