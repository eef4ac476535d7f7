/-
  Bytes that are cut short aren't taken, and bytes more are left, whatever the form: plain facts on what the taker takes. No condition.
-/
import Derived.Test.YtnfmpbcbppdkgaaDoorTg
namespace Go.Proofs.YtnfmpbcbppdkgaaDoor
open Sch
/-- No error is nought; what is taken is taken of just these bytes, whatever stands behind; of fewer it is told that they are too short. -/
structure Sane (g : List UInt8 → Tr) : Prop where
  err : ∀ l e, g l = .error e → e ≠ 0
  loc : ∀ l n t l', g l = .ok (n, t, l') → ∃ y, l = y ++ l' ∧ (∀ z, g (y ++ z) = .ok (n, t, z)) ∧ ∀ c, c < y.length → g (y.take c) = .error 5
theorem sane_bind {g : List UInt8 → Tr} {F : List UInt8 → List UInt8 → Tr} (hg : Sane g) (hF : ∀ l, Sane (F l)) (hs : ∀ l l' n t a b, g l = .ok (n, t, a) → g l' = .ok (n, t, b) → F l = F l') : Sane fun l => andT (g l) (F l) := by
  refine ⟨fun l e h => ?_, fun l n t l' h => ?_⟩
  · cases hx : g l with
    | error e' =>
      rw [hx] at h
      simp only [andT, Except.error.injEq] at h
      subst h
      exact hg.err l _ hx
    | ok y =>
      obtain ⟨n1, t1, l1⟩ := y
      rw [hx] at h
      simp only [andT] at h
      cases hy : F l l1 with
      | error e' =>
        rw [hy] at h
        simp only [pre, Except.error.injEq] at h
        subst h
        exact (hF l).err l1 _ hy
      | ok z => obtain ⟨a, b, c⟩ := z; rw [hy] at h; simp [pre] at h
  · cases hx : g l with
    | error e' => rw [hx] at h; simp [andT] at h
    | ok y =>
      obtain ⟨n1, t1, l1⟩ := y
      rw [hx] at h
      simp only [andT] at h
      cases hy : F l l1 with
      | error e' => rw [hy] at h; simp [pre] at h
      | ok z =>
        obtain ⟨n2, t2, l2⟩ := z
        rw [hy] at h
        simp only [pre, Except.ok.injEq, Prod.mk.injEq] at h
        obtain ⟨rfl, rfl, rfl⟩ := h
        obtain ⟨y1, e1, a1, b1⟩ := hg.loc l n1 t1 l1 hx
        obtain ⟨y2, e2, a2, b2⟩ := (hF l).loc l1 n2 t2 l2 hy
        have hFl : ∀ z, F (y1 ++ z) = F l := fun z => hs _ _ _ _ _ _ (a1 z) hx
        refine ⟨y1 ++ y2, by rw [e1, e2, List.append_assoc], fun z => ?_, fun c hc => ?_⟩
        · rw [List.append_assoc, a1, hFl]
          simp only [andT, a2, pre]
        · by_cases h1 : c < y1.length
          · rw [List.take_append_of_le_length (by omega), b1 c h1]
            rfl
          · have hc2 : c - y1.length < y2.length := by rw [List.length_append] at hc; omega
            have he : (y1 ++ y2).take c = y1 ++ y2.take (c - y1.length) := by rw [List.take_append, List.take_of_length_le (by omega)]
            rw [he, a1, hFl]
            simp only [andT, b2 _ hc2, pre]
theorem sane_and {g f : List UInt8 → Tr} (hg : Sane g) (hf : Sane f) : Sane fun l => andT (g l) f := sane_bind (F := fun _ => f) hg (fun _ => hf) fun _ _ _ _ _ _ _ _ => rfl
theorem numR_app {k : Nat} {l : List UInt8} (h : (X.numR k l 0).2.2 = 0) : ∃ y, l = y ++ (X.numR k l 0).2.1 ∧ y.length = k ∧ (∀ z, X.numR k (y ++ z) 0 = ((X.numR k l 0).1, z, 0)) ∧ ∀ c, c < k → X.numR k (y.take c) 0 = (0, [], 5) := by
  unfold X.numR at h ⊢
  by_cases hl : l.length < k
  · simp [if_pos hl, X.failE] at h
  · simp only [if_neg hl]
    have hk : (l.take k).length = k := by simp; omega
    refine ⟨l.take k, (List.take_append_drop k l).symm, hk, fun z => ?_, fun c hc => ?_⟩
    · have h1 : ¬ (l.take k ++ z).length < k := by simp; omega
      have h2 : (l.take k ++ z).take k = l.take k := by rw [List.take_append_of_le_length (by omega), List.take_of_length_le (by omega)]
      have h3 : (l.take k ++ z).drop k = z := by
        rw [List.drop_append_of_le_length (by omega), List.drop_of_length_le (by omega)]
        rfl
      rw [if_neg h1, h2, h3]
    · rw [if_pos (by simp; omega)]
      rfl
theorem sane_num (k : Nat) : Sane fun l => ofN (X.numR k l 0) := by
  refine ⟨fun l e h => ?_, fun l n t l' h => ?_⟩
  · unfold ofN at h
    split at h
    · cases h
    · rename_i h0
      simp only [Except.error.injEq] at h
      subst h
      exact h0
  · unfold ofN at h
    split at h
    · rename_i h0
      simp only [Except.ok.injEq, Prod.mk.injEq] at h
      obtain ⟨rfl, rfl, rfl⟩ := h
      obtain ⟨y, e1, e2, e3, e4⟩ := numR_app (l := l) h0
      refine ⟨y, e1, fun z => ?_, fun c hc => ?_⟩
      · simp [ofN, e3 z]
      · simp [ofN, e4 c (by omega)]
    · cases h
theorem boolR_app {l : List UInt8} (h : (X.boolR l 0).2.2 = 0) : ∃ y, l = y ++ (X.boolR l 0).2.1 ∧ y.length = 4 ∧ (∀ z, X.boolR (y ++ z) 0 = ((X.boolR l 0).1, z, 0)) ∧ ∀ c, c < 4 → X.boolR (y.take c) 0 = (false, [], 5) := by
  unfold X.boolR at h ⊢
  by_cases h1 : 1 < (X.numR 4 l 0).1
  · rw [if_pos h1] at h
    have := numR_err 4 l
    simp [X.failE] at h
    rcases this with e | e
    · rw [e] at h; simp at h
    · rw [e] at h; simp at h
  · rw [if_neg h1] at h
    simp only [if_neg h1]
    obtain ⟨y, e1, e2, e3, e4⟩ := numR_app h
    refine ⟨y, e1, e2, fun z => ?_, fun c hc => ?_⟩
    · rw [e3 z]
      simp [h1]
    · rw [e4 c hc]
      simp
theorem b2i_inj {a b : Bool} (h : b2i a = b2i b) : a = b := by cases a <;> cases b <;> simp [b2i] at h ⊢
theorem sane_bool : Sane fun l => ofN (boolN l) := by
  refine ⟨fun l e h => ?_, fun l n t l' h => ?_⟩
  · unfold ofN at h
    split at h
    · cases h
    · rename_i h0
      simp only [Except.error.injEq] at h
      subst h
      exact h0
  · unfold ofN at h
    split at h
    · rename_i h0
      simp only [Except.ok.injEq, Prod.mk.injEq] at h
      obtain ⟨rfl, rfl, rfl⟩ := h
      obtain ⟨y, e1, e2, e3, e4⟩ := boolR_app (l := l) h0
      refine ⟨y, e1, fun z => ?_, fun c hc => ?_⟩
      · simp [ofN, boolN, e3 z]
      · simp [ofN, boolN, e4 c (by omega)]
    · cases h
theorem fixR_app {n : Nat} {l : List UInt8} (h : (X.fixR n l 0).2.2 = 0) : ∃ y, l = y ++ (X.fixR n l 0).2.1 ∧ (∀ z, X.fixR n (y ++ z) 0 = ((X.fixR n l 0).1, z, 0)) ∧ ∀ c, c < y.length → X.fixR n (y.take c) 0 = (⟨#[]⟩, [], 5) := by
  rw [X.fixR_nat] at h ⊢
  by_cases h1 : (l.length : Int) - (X.pad n : Nat) < n
  · simp [if_pos h1, X.failE] at h
  · rw [if_neg h1] at h ⊢
    by_cases h2 : ((l.drop n).take (X.pad n)).all (· == 0) = true
    · rw [if_pos h2] at h ⊢
      have hk : (l.take (n + X.pad n)).length = n + X.pad n := by simp; omega
      refine ⟨l.take (n + X.pad n), (List.take_append_drop _ l).symm, fun z => ?_, fun c hc => ?_⟩
      · rw [X.fixR_nat]
        have g1 : ¬ ((l.take (n + X.pad n) ++ z).length : Int) - (X.pad n : Nat) < n := by rw [List.length_append, hk]; omega
        have g2 : ((l.take (n + X.pad n) ++ z).drop n).take (X.pad n) = (l.drop n).take (X.pad n) := by
          rw [List.drop_append_of_le_length (by omega), List.take_append_of_le_length (by rw [List.length_drop, hk]; omega), List.drop_take, List.take_take]
          congr 1
          omega
        have g3 : (l.take (n + X.pad n) ++ z).take n = l.take n := by rw [List.take_append_of_le_length (by omega), List.take_take]; congr 1; omega
        have g4 : (l.take (n + X.pad n) ++ z).drop (n + X.pad n) = z := by rw [List.drop_append_of_le_length (by omega), List.drop_of_length_le (by omega)]; rfl
        rw [if_neg g1, g2, if_pos h2, g3, g4]
      · rw [X.fixR_nat, if_pos]
        · rfl
        · rw [hk] at hc
          have : ((l.take (n + X.pad n)).take c).length = c := by rw [List.length_take, hk]; omega
          rw [this]
          omega
    · rw [if_neg h2] at h
      simp [X.failE] at h
theorem sane_ofT {g : List UInt8 → ByteArray × List UInt8 × Int} (h : ∀ l, (g l).2.2 = 0 → ∃ y, l = y ++ (g l).2.1 ∧ (∀ z, g (y ++ z) = ((g l).1, z, 0)) ∧ ∀ c, c < y.length → (g (y.take c)).2.2 = 5) : Sane fun l => ofT (g l) := by
  refine ⟨fun l e he => ?_, fun l n t l' he => ?_⟩
  · unfold ofT at he
    split at he
    · cases he
    · rename_i h0
      simp only [Except.error.injEq] at he
      subst he
      exact h0
  · unfold ofT at he
    split at he
    · rename_i h0
      simp only [Except.ok.injEq, Prod.mk.injEq] at he
      obtain ⟨rfl, rfl, rfl⟩ := he
      obtain ⟨y, e1, e3, e4⟩ := h l h0
      refine ⟨y, e1, fun z => ?_, fun c hc => ?_⟩
      · simp [ofT, e3 z]
      · simp [ofT, e4 c hc]
    · cases he
theorem fixR_bad {n : Int} {l : List UInt8} {e : Int} (he : e ≠ 0) : (X.fixR n l e).2.2 ≠ 0 := by
  unfold X.fixR X.failE
  split
  · exact he
  · split
    · simp [he]
    · split
      · exact he
      · simp [he]
theorem be_lt4 : ∀ l : List UInt8, l.length ≤ 4 → X.be l < 4294967296
  | [], _ => by decide
  | [a], _ => by have := a.toNat_lt; simp [X.be]; omega
  | [a, b], _ => by have := a.toNat_lt; have := b.toNat_lt; simp [X.be]; omega
  | [a, b, c], _ => by have := a.toNat_lt; have := b.toNat_lt; have := c.toNat_lt; simp [X.be]; omega
  | [a, b, c, d], _ => by have := a.toNat_lt; have := b.toNat_lt; have := c.toNat_lt; have := d.toNat_lt; simp [X.be]; omega
  | _ :: _ :: _ :: _ :: _ :: _, h => by simp at h
theorem opqR_app {n : Nat} {l : List UInt8} (h : (X.opqR n l 0).2.2 = 0) : ∃ y, l = y ++ (X.opqR n l 0).2.1 ∧ (∀ z, X.opqR n (y ++ z) 0 = ((X.opqR n l 0).1, z, 0)) ∧ ∀ c, c < y.length → (X.opqR n (y.take c) 0).2.2 = 5 := by
  have hn : ¬ (n : Int) < 0 := by omega
  unfold X.opqR at h ⊢
  simp only [if_neg hn] at h ⊢
  have hne := numR_err 4 l
  by_cases h1 : (n : Int) < (X.numR 4 l 0).1
  · rw [if_pos h1] at h
    rcases hne with e | e
    · simp [X.failE, e] at h
    · simp [X.failE, e] at h
  · rw [if_neg h1] at h
    simp only [if_neg h1]
    by_cases h0 : (X.numR 4 l 0).2.2 = 0
    · obtain ⟨y, e1, e2, e3, e4⟩ := numR_app h0
      have hm : 0 ≤ (X.numR 4 l 0).1 := by
        unfold X.numR
        split
        · simp
        · have h5 := be_lt4 (l.take 4) (by simp; omega)
          rw [IntWalk.i64_in _ (by omega)]
          omega
      obtain ⟨m, hmm⟩ : ∃ m : Nat, (X.numR 4 l 0).1 = m := ⟨(X.numR 4 l 0).1.toNat, by omega⟩
      rw [h0, hmm] at h ⊢
      obtain ⟨y2, f1, f2, f3⟩ := fixR_app h
      rw [hmm] at e3 h1
      refine ⟨y ++ y2, ?_, fun z => ?_, fun c hc => ?_⟩
      · rw [List.append_assoc, ← f1]; exact e1
      · rw [List.append_assoc, e3]
        simp only [if_neg h1]
        exact f2 z
      · by_cases hc1 : c < 4
        · rw [List.take_append_of_le_length (by omega), e4 c hc1]
          have : ¬ (n : Int) < 0 := by omega
          simp only [if_neg this]
          exact fixR_five 0 []
        · have he : (y ++ y2).take c = y ++ y2.take (c - y.length) := by rw [List.take_append, List.take_of_length_le (by omega)]
          rw [he, e3]
          simp only [if_neg h1]
          rw [f3 _ (by rw [List.length_append] at hc; omega)]
    · exact absurd h (fixR_bad h0)
theorem times_err {f : List UInt8 → Tr} (hf : Sane f) (hl : ∀ l n t l', f l = .ok (n, t, l') → l'.length ≤ l.length) : ∀ (k : Nat) (l : List UInt8) (e : Int), l.length < k → times f k l = .error e → e ≠ 0
  | 0, l, e, h, _ => by omega
  | k + 1, l, e, h, he => by
    unfold times at he
    split at he
    · rename_i h0
      simp only [Except.error.injEq] at he
      subst he
      exact h0
    · rename_i h0
      have h4 := boolR_four (l := l) (by simpa using h0)
      split at he
      · cases hx : f (X.boolR l 0).2.1 with
        | error e' =>
          rw [hx] at he
          simp only [Except.error.injEq] at he
          subst he
          exact hf.err _ _ hx
        | ok y =>
          obtain ⟨n1, t1, l1⟩ := y
          rw [hx] at he
          dsimp only at he
          have := hl _ _ _ _ hx
          cases hy : times f k l1 with
          | error e' =>
            rw [hy] at he
            simp only [Except.error.injEq] at he
            subst he
            exact times_err hf hl k l1 _ (by omega) hy
          | ok z => obtain ⟨a, b, c, d⟩ := z; rw [hy] at he; simp at he
      · cases he
theorem times_loc {f : List UInt8 → Tr} (hf : Sane f) : ∀ (k : Nat) (l : List UInt8) (j : Nat) n t l', times f k l = .ok (j, n, t, l') → ∃ y, l = y ++ l' ∧ (∀ z k', (y ++ z).length < k' → times f k' (y ++ z) = .ok (j, n, t, z)) ∧ ∀ c k', c < y.length → c < k' → times f k' (y.take c) = .error 5
  | 0, l, j, n, t, l', he => by simp [times] at he
  | k + 1, l, j, n, t, l', he => by
    unfold times at he
    split at he
    · cases he
    · rename_i h0
      obtain ⟨y0, e1, e2, e3, e4⟩ := boolR_app (l := l) (by simpa using h0)
      split at he
      · rename_i hb
        cases hx : f (X.boolR l 0).2.1 with
        | error e' => rw [hx] at he; simp at he
        | ok y =>
          obtain ⟨n1, t1, l1⟩ := y
          rw [hx] at he
          dsimp only at he
          cases hy : times f k l1 with
          | error e' => rw [hy] at he; simp at he
          | ok z =>
            obtain ⟨j2, n2, t2, l2⟩ := z
            rw [hy] at he
            simp only [Except.ok.injEq, Prod.mk.injEq] at he
            obtain ⟨rfl, rfl, rfl, rfl⟩ := he
            obtain ⟨y1, a1, a2, a3⟩ := hf.loc _ _ _ _ hx
            obtain ⟨y2, b1, b2, b3⟩ := times_loc hf k l1 j2 n2 t2 l2 hy
            refine ⟨y0 ++ (y1 ++ y2), ?_, fun z k' hk => ?_, fun c k' hc hk => ?_⟩
            · rw [List.append_assoc, List.append_assoc, ← b1, ← a1]; exact e1
            · obtain ⟨k2, rfl⟩ : ∃ k2, k' = k2 + 1 := ⟨k' - 1, by omega⟩
              simp only [List.append_assoc, List.length_append] at hk ⊢
              unfold times
              rw [e3]
              simp only [hb, ne_eq, not_true_eq_false, if_false, if_true, a2]
              rw [b2 z k2 (by simp only [List.length_append]; omega)]
            · obtain ⟨k2, rfl⟩ : ∃ k2, k' = k2 + 1 := ⟨k' - 1, by omega⟩
              unfold times
              by_cases h4 : c < 4
              · rw [List.take_append_of_le_length (by omega), e4 c h4]
                simp
              · have ht : (y0 ++ (y1 ++ y2)).take c = y0 ++ (y1 ++ y2).take (c - 4) := by rw [List.take_append, List.take_of_length_le (by omega), e2]
                rw [ht, e3]
                simp only [hb, ne_eq, not_true_eq_false, if_false, if_true]
                by_cases h5 : c - 4 < y1.length
                · rw [List.take_append_of_le_length (by omega), a3 _ h5]
                · have ht2 : (y1 ++ y2).take (c - 4) = y1 ++ y2.take (c - 4 - y1.length) := by rw [List.take_append, List.take_of_length_le (by omega)]
                  rw [ht2, a2]
                  dsimp only
                  rw [b3 _ k2 (by simp only [List.length_append] at hc; omega) (by omega)]
      · rename_i hb
        simp only [Except.ok.injEq, Prod.mk.injEq] at he
        obtain ⟨rfl, rfl, rfl, rfl⟩ := he
        have hb' : (X.boolR l 0).1 = false := by simpa using hb
        refine ⟨y0, e1, fun z k' hk => ?_, fun c k' hc hk => ?_⟩
        · obtain ⟨k2, rfl⟩ : ∃ k2, k' = k2 + 1 := ⟨k' - 1, by omega⟩
          unfold times
          rw [e3, hb']
          simp
        · obtain ⟨k2, rfl⟩ : ∃ k2, k' = k2 + 1 := ⟨k' - 1, by omega⟩
          unfold times
          rw [e4 c (by omega)]
          simp
theorem sane_times {f : List UInt8 → Tr} (hf : Sane f) (hl : ∀ l n t l', f l = .ok (n, t, l') → l'.length ≤ l.length) : Sane (timesT f) := by
  refine ⟨fun l e h => ?_, fun l n t l' h => ?_⟩
  · unfold timesT at h
    split at h
    · rename_i e' he
      simp only [Except.error.injEq] at h
      subst h
      exact times_err hf hl _ l _ (by omega) he
    · cases h
  · unfold timesT at h
    split at h
    · cases h
    · rename_i j n1 t1 l1 he
      simp only [Except.ok.injEq, Prod.mk.injEq] at h
      obtain ⟨rfl, rfl, rfl⟩ := h
      obtain ⟨y, e1, e2, e3⟩ := times_loc hf _ l _ _ _ _ he
      refine ⟨y, e1, fun z => ?_, fun c hc => ?_⟩
      · unfold timesT
        rw [e2 z _ (by omega)]
      · unfold timesT
        rw [e3 c _ hc (by rw [List.length_take]; omega)]
theorem sane_tk : ∀ (r : Row) (m : Option Int), Sane (tk m r)
  | .nil, none => ⟨fun l e h => by simp [tk] at h, fun l n t l' h => by
      simp only [tk, Except.ok.injEq, Prod.mk.injEq] at h
      obtain ⟨rfl, rfl, rfl⟩ := h
      exact ⟨[], rfl, fun z => rfl, fun c hc => by simp at hc⟩⟩
  | .one c r, none => by
    refine sane_and (g := oneT c) ?_ (sane_tk r none)
    unfold oneT
    by_cases h1 : c = 117
    · simp only [if_pos h1]; exact sane_num 4
    · by_cases h2 : c = 113
      · simp only [if_neg h1, if_pos h2]; exact sane_num 8
      · simp only [if_neg h1, if_neg h2]; exact sane_bool
  | .num c n r, none => by
    refine sane_and (g := numT c n) ?_ (sane_tk r none)
    unfold numT
    by_cases h1 : c = 111
    · simp only [if_pos h1]; exact sane_ofT fun l h => opqR_app h
    · simp only [if_neg h1]
      refine sane_ofT fun l h => ?_
      obtain ⟨y, e1, e2, e3⟩ := fixR_app h
      exact ⟨y, e1, e2, fun c hc => by rw [e3 c hc]⟩
  | .opt c i r, none => by
    refine sane_and (g := fun l => if c = 63 then maybeT (tk none i) l else timesT (tk none i) l) ?_ (sane_tk r none)
    by_cases h1 : c = 63
    · simp only [if_pos h1]
      refine sane_bind (g := fun l => ofN (boolN l)) (F := fun l l1 => if (X.boolR l 0).1 then tk none i l1 else .ok ([], [], l1)) sane_bool (fun l => ?_) fun l l' n t a b ha hb => ?_
      · by_cases hb : (X.boolR l 0).1 = true
        · simp only [if_pos hb]; exact sane_tk i none
        · simp only [if_neg hb]
          exact sane_tk .nil none
      · unfold ofN at ha hb
        split at ha
        · split at hb
          · simp only [Except.ok.injEq, Prod.mk.injEq] at ha hb
            obtain ⟨rfl, _, _⟩ := ha
            have := hb.1
            simp only [boolN, List.cons.injEq, and_true] at this
            rw [b2i_inj this]
          · cases hb
        · cases ha
    · simp only [if_neg h1]
      exact sane_times (sane_tk i none) fun l n t l' h => (few_tk i none l n t l' h).1
  | .ch a r, none => by
    refine sane_and (g := armT (fun n l1 => tk (some n) a l1)) ?_ (sane_tk r none)
    refine sane_bind (g := fun l => ofN (X.numR 4 l 0)) (F := fun l l1 => tk (some (X.numR 4 l 0).1) a l1) (sane_num 4) (fun l => sane_tk a _) fun l l' n t x y ha hb => ?_
    unfold ofN at ha hb
    split at ha
    · split at hb
      · simp only [Except.ok.injEq, Prod.mk.injEq] at ha hb
        obtain ⟨rfl, _, _⟩ := ha
        have := hb.1
        simp only [List.cons.injEq, and_true] at this
        rw [this]
      · cases hb
    · cases ha
  | .arm k i r, some n => by
    have h1 := sane_tk i none
    have h2 := sane_tk r (some n)
    by_cases h : k = n ∨ k = -1
    · have e : tk (some n) (.arm k i r) = tk none i := by funext l; simp only [tk, if_pos h]
      rw [e]; exact h1
    · have e : tk (some n) (.arm k i r) = tk (some n) r := by funext l; simp only [tk, if_neg h]
      rw [e]; exact h2
  | .arm _ _ _, none => ⟨fun l e h => by simp [tk] at h; omega, fun l n t l' h => by simp [tk] at h⟩
  | .nil, some _ => ⟨fun l e h => by simp [tk] at h; omega, fun l n t l' h => by simp [tk] at h⟩
  | .one _ _, some _ => ⟨fun l e h => by simp [tk] at h; omega, fun l n t l' h => by simp [tk] at h⟩
  | .num _ _ _, some _ => ⟨fun l e h => by simp [tk] at h; omega, fun l n t l' h => by simp [tk] at h⟩
  | .opt _ _ _, some _ => ⟨fun l e h => by simp [tk] at h; omega, fun l n t l' h => by simp [tk] at h⟩
  | .ch _ _, some _ => ⟨fun l e h => by simp [tk] at h; omega, fun l n t l' h => by simp [tk] at h⟩
end Go.Proofs.YtnfmpbcbppdkgaaDoor
