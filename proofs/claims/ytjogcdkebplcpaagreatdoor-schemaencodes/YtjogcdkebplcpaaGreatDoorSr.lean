/-
  Several texts in one (Sm, Rt): parts of a walk. Their conditions: as each says.
-/
import Derived.Test.YtjogcdkebplcpaaGreatDoorTg
import Derived.Test.YtjogcdkebplcpaaGreatDoorTn
import Derived.Test.YtjogcdkebplcpaaGreatDoorLm
namespace Go.Proofs.YtjogcdkebplcpaaGreatDoor
open Sch
/-- No error is nought; what is taken is taken of just these bytes, whatever stands behind; of fewer it is told that they are too short. -/
structure Sane (g : List UInt8 → Tr) : Prop where
  err : ∀ l e, g l = .error e → e ≠ 0
  loc : ∀ l n t l', g l = .ok (n, t, l') → ∃ y, l = y ++ l' ∧ (∀ z, g (y ++ z) = .ok (n, t, z)) ∧ ∀ c, c < y.length → g (y.take c) = .error 5
theorem sane_bind {g : List UInt8 → Tr} {F : List UInt8 → List UInt8 → Tr} (hg : Sane g) (hF : ∀ l, Sane (F l)) (hs : ∀ l l' n t a b, g l = .ok (n, t, a) → g l' = .ok (n, t, b) → F l = F l') : Sane fun l => andT (g l) (F l) := by
  refine ⟨fun l e h => ?_, fun l n t l' h => ?_⟩
  · cases hx : g l with
    | error e' =>
      rw [hx] at h
      simp only [andT, Except.error.injEq] at h
      subst h
      exact hg.err l _ hx
    | ok y =>
      obtain ⟨n1, t1, l1⟩ := y
      rw [hx] at h
      simp only [andT] at h
      cases hy : F l l1 with
      | error e' =>
        rw [hy] at h
        simp only [pre, Except.error.injEq] at h
        subst h
        exact (hF l).err l1 _ hy
      | ok z => obtain ⟨a, b, c⟩ := z; rw [hy] at h; simp [pre] at h
  · cases hx : g l with
    | error e' => rw [hx] at h; simp [andT] at h
    | ok y =>
      obtain ⟨n1, t1, l1⟩ := y
      rw [hx] at h
      simp only [andT] at h
      cases hy : F l l1 with
      | error e' => rw [hy] at h; simp [pre] at h
      | ok z =>
        obtain ⟨n2, t2, l2⟩ := z
        rw [hy] at h
        simp only [pre, Except.ok.injEq, Prod.mk.injEq] at h
        obtain ⟨rfl, rfl, rfl⟩ := h
        obtain ⟨y1, e1, a1, b1⟩ := hg.loc l n1 t1 l1 hx
        obtain ⟨y2, e2, a2, b2⟩ := (hF l).loc l1 n2 t2 l2 hy
        have hFl : ∀ z, F (y1 ++ z) = F l := fun z => hs _ _ _ _ _ _ (a1 z) hx
        refine ⟨y1 ++ y2, by rw [e1, e2, List.append_assoc], fun z => ?_, fun c hc => ?_⟩
        · rw [List.append_assoc, a1, hFl]
          simp only [andT, a2, pre]
        · by_cases h1 : c < y1.length
          · rw [List.take_append_of_le_length (by omega), b1 c h1]
            rfl
          · have hc2 : c - y1.length < y2.length := by rw [List.length_append] at hc; omega
            have he : (y1 ++ y2).take c = y1 ++ y2.take (c - y1.length) := by rw [List.take_append, List.take_of_length_le (by omega)]
            rw [he, a1, hFl]
            simp only [andT, b2 _ hc2, pre]
theorem sane_and {g f : List UInt8 → Tr} (hg : Sane g) (hf : Sane f) : Sane fun l => andT (g l) f := sane_bind (F := fun _ => f) hg (fun _ => hf) fun _ _ _ _ _ _ _ _ => rfl
theorem numR_app {k : Nat} {l : List UInt8} (h : (X.numR k l 0).2.2 = 0) : ∃ y, l = y ++ (X.numR k l 0).2.1 ∧ y.length = k ∧ (∀ z, X.numR k (y ++ z) 0 = ((X.numR k l 0).1, z, 0)) ∧ ∀ c, c < k → X.numR k (y.take c) 0 = (0, [], 5) := by
  unfold X.numR at h ⊢
  by_cases hl : l.length < k
  · simp [if_pos hl, X.failE] at h
  · simp only [if_neg hl]
    have hk : (l.take k).length = k := by simp; omega
    refine ⟨l.take k, (List.take_append_drop k l).symm, hk, fun z => ?_, fun c hc => ?_⟩
    · have h1 : ¬ (l.take k ++ z).length < k := by simp; omega
      have h2 : (l.take k ++ z).take k = l.take k := by rw [List.take_append_of_le_length (by omega), List.take_of_length_le (by omega)]
      have h3 : (l.take k ++ z).drop k = z := by
        rw [List.drop_append_of_le_length (by omega), List.drop_of_length_le (by omega)]
        rfl
      rw [if_neg h1, h2, h3]
    · rw [if_pos (by simp; omega)]
      rfl
theorem sane_num (k : Nat) : Sane fun l => ofN (X.numR k l 0) := by
  refine ⟨fun l e h => ?_, fun l n t l' h => ?_⟩
  · unfold ofN at h
    split at h
    · cases h
    · rename_i h0
      simp only [Except.error.injEq] at h
      subst h
      exact h0
  · unfold ofN at h
    split at h
    · rename_i h0
      simp only [Except.ok.injEq, Prod.mk.injEq] at h
      obtain ⟨rfl, rfl, rfl⟩ := h
      obtain ⟨y, e1, e2, e3, e4⟩ := numR_app (l := l) h0
      refine ⟨y, e1, fun z => ?_, fun c hc => ?_⟩
      · simp [ofN, e3 z]
      · simp [ofN, e4 c (by omega)]
    · cases h
theorem boolR_app {l : List UInt8} (h : (X.boolR l 0).2.2 = 0) : ∃ y, l = y ++ (X.boolR l 0).2.1 ∧ y.length = 4 ∧ (∀ z, X.boolR (y ++ z) 0 = ((X.boolR l 0).1, z, 0)) ∧ ∀ c, c < 4 → X.boolR (y.take c) 0 = (false, [], 5) := by
  unfold X.boolR at h ⊢
  by_cases h1 : 1 < (X.numR 4 l 0).1
  · rw [if_pos h1] at h
    have := numR_err 4 l
    simp [X.failE] at h
    rcases this with e | e
    · rw [e] at h; simp at h
    · rw [e] at h; simp at h
  · rw [if_neg h1] at h
    simp only [if_neg h1]
    obtain ⟨y, e1, e2, e3, e4⟩ := numR_app h
    refine ⟨y, e1, e2, fun z => ?_, fun c hc => ?_⟩
    · rw [e3 z]
      simp [h1]
    · rw [e4 c hc]
      simp
theorem b2i_inj {a b : Bool} (h : b2i a = b2i b) : a = b := by cases a <;> cases b <;> simp [b2i] at h ⊢
theorem sane_bool : Sane fun l => ofN (boolN l) := by
  refine ⟨fun l e h => ?_, fun l n t l' h => ?_⟩
  · unfold ofN at h
    split at h
    · cases h
    · rename_i h0
      simp only [Except.error.injEq] at h
      subst h
      exact h0
  · unfold ofN at h
    split at h
    · rename_i h0
      simp only [Except.ok.injEq, Prod.mk.injEq] at h
      obtain ⟨rfl, rfl, rfl⟩ := h
      obtain ⟨y, e1, e2, e3, e4⟩ := boolR_app (l := l) h0
      refine ⟨y, e1, fun z => ?_, fun c hc => ?_⟩
      · simp [ofN, boolN, e3 z]
      · simp [ofN, boolN, e4 c (by omega)]
    · cases h
theorem fixR_app {n : Nat} {l : List UInt8} (h : (X.fixR n l 0).2.2 = 0) : ∃ y, l = y ++ (X.fixR n l 0).2.1 ∧ (∀ z, X.fixR n (y ++ z) 0 = ((X.fixR n l 0).1, z, 0)) ∧ ∀ c, c < y.length → X.fixR n (y.take c) 0 = (⟨#[]⟩, [], 5) := by
  rw [X.fixR_nat] at h ⊢
  by_cases h1 : (l.length : Int) - (X.pad n : Nat) < n
  · simp [if_pos h1, X.failE] at h
  · rw [if_neg h1] at h ⊢
    by_cases h2 : ((l.drop n).take (X.pad n)).all (· == 0) = true
    · rw [if_pos h2] at h ⊢
      have hk : (l.take (n + X.pad n)).length = n + X.pad n := by simp; omega
      refine ⟨l.take (n + X.pad n), (List.take_append_drop _ l).symm, fun z => ?_, fun c hc => ?_⟩
      · rw [X.fixR_nat]
        have g1 : ¬ ((l.take (n + X.pad n) ++ z).length : Int) - (X.pad n : Nat) < n := by rw [List.length_append, hk]; omega
        have g2 : ((l.take (n + X.pad n) ++ z).drop n).take (X.pad n) = (l.drop n).take (X.pad n) := by
          rw [List.drop_append_of_le_length (by omega), List.take_append_of_le_length (by rw [List.length_drop, hk]; omega), List.drop_take, List.take_take]
          congr 1
          omega
        have g3 : (l.take (n + X.pad n) ++ z).take n = l.take n := by rw [List.take_append_of_le_length (by omega), List.take_take]; congr 1; omega
        have g4 : (l.take (n + X.pad n) ++ z).drop (n + X.pad n) = z := by rw [List.drop_append_of_le_length (by omega), List.drop_of_length_le (by omega)]; rfl
        rw [if_neg g1, g2, if_pos h2, g3, g4]
      · rw [X.fixR_nat, if_pos]
        · rfl
        · rw [hk] at hc
          have : ((l.take (n + X.pad n)).take c).length = c := by rw [List.length_take, hk]; omega
          rw [this]
          omega
    · rw [if_neg h2] at h
      simp [X.failE] at h
theorem sane_ofT {g : List UInt8 → ByteArray × List UInt8 × Int} (h : ∀ l, (g l).2.2 = 0 → ∃ y, l = y ++ (g l).2.1 ∧ (∀ z, g (y ++ z) = ((g l).1, z, 0)) ∧ ∀ c, c < y.length → (g (y.take c)).2.2 = 5) : Sane fun l => ofT (g l) := by
  refine ⟨fun l e he => ?_, fun l n t l' he => ?_⟩
  · unfold ofT at he
    split at he
    · cases he
    · rename_i h0
      simp only [Except.error.injEq] at he
      subst he
      exact h0
  · unfold ofT at he
    split at he
    · rename_i h0
      simp only [Except.ok.injEq, Prod.mk.injEq] at he
      obtain ⟨rfl, rfl, rfl⟩ := he
      obtain ⟨y, e1, e3, e4⟩ := h l h0
      refine ⟨y, e1, fun z => ?_, fun c hc => ?_⟩
      · simp [ofT, e3 z]
      · simp [ofT, e4 c hc]
    · cases he
theorem fixR_bad {n : Int} {l : List UInt8} {e : Int} (he : e ≠ 0) : (X.fixR n l e).2.2 ≠ 0 := by
  unfold X.fixR X.failE
  split
  · exact he
  · split
    · simp [he]
    · split
      · exact he
      · simp [he]
theorem be_lt4 : ∀ l : List UInt8, l.length ≤ 4 → X.be l < 4294967296
  | [], _ => by decide
  | [a], _ => by have := a.toNat_lt; simp [X.be]; omega
  | [a, b], _ => by have := a.toNat_lt; have := b.toNat_lt; simp [X.be]; omega
  | [a, b, c], _ => by have := a.toNat_lt; have := b.toNat_lt; have := c.toNat_lt; simp [X.be]; omega
  | [a, b, c, d], _ => by have := a.toNat_lt; have := b.toNat_lt; have := c.toNat_lt; have := d.toNat_lt; simp [X.be]; omega
  | _ :: _ :: _ :: _ :: _ :: _, h => by simp at h
theorem opqR_app {n : Nat} {l : List UInt8} (h : (X.opqR n l 0).2.2 = 0) : ∃ y, l = y ++ (X.opqR n l 0).2.1 ∧ (∀ z, X.opqR n (y ++ z) 0 = ((X.opqR n l 0).1, z, 0)) ∧ ∀ c, c < y.length → (X.opqR n (y.take c) 0).2.2 = 5 := by
  have hn : ¬ (n : Int) < 0 := by omega
  unfold X.opqR at h ⊢
  simp only [if_neg hn] at h ⊢
  have hne := numR_err 4 l
  by_cases h1 : (n : Int) < (X.numR 4 l 0).1
  · rw [if_pos h1] at h
    rcases hne with e | e
    · simp [X.failE, e] at h
    · simp [X.failE, e] at h
  · rw [if_neg h1] at h
    simp only [if_neg h1]
    by_cases h0 : (X.numR 4 l 0).2.2 = 0
    · obtain ⟨y, e1, e2, e3, e4⟩ := numR_app h0
      have hm : 0 ≤ (X.numR 4 l 0).1 := by
        unfold X.numR
        split
        · simp
        · have h5 := be_lt4 (l.take 4) (by simp; omega)
          rw [IntWalk.i64_in _ (by omega)]
          omega
      obtain ⟨m, hmm⟩ : ∃ m : Nat, (X.numR 4 l 0).1 = m := ⟨(X.numR 4 l 0).1.toNat, by omega⟩
      rw [h0, hmm] at h ⊢
      obtain ⟨y2, f1, f2, f3⟩ := fixR_app h
      rw [hmm] at e3 h1
      refine ⟨y ++ y2, ?_, fun z => ?_, fun c hc => ?_⟩
      · rw [List.append_assoc, ← f1]; exact e1
      · rw [List.append_assoc, e3]
        simp only [if_neg h1]
        exact f2 z
      · by_cases hc1 : c < 4
        · rw [List.take_append_of_le_length (by omega), e4 c hc1]
          have : ¬ (n : Int) < 0 := by omega
          simp only [if_neg this]
          exact fixR_five 0 []
        · have he : (y ++ y2).take c = y ++ y2.take (c - y.length) := by rw [List.take_append, List.take_of_length_le (by omega)]
          rw [he, e3]
          simp only [if_neg h1]
          rw [f3 _ (by rw [List.length_append] at hc; omega)]
    · exact absurd h (fixR_bad h0)
theorem times_err {f : List UInt8 → Tr} (hf : Sane f) (hl : ∀ l n t l', f l = .ok (n, t, l') → l'.length ≤ l.length) : ∀ (k : Nat) (l : List UInt8) (e : Int), l.length < k → times f k l = .error e → e ≠ 0
  | 0, l, e, h, _ => by omega
  | k + 1, l, e, h, he => by
    unfold times at he
    split at he
    · rename_i h0
      simp only [Except.error.injEq] at he
      subst he
      exact h0
    · rename_i h0
      have h4 := boolR_four (l := l) (by simpa using h0)
      split at he
      · cases hx : f (X.boolR l 0).2.1 with
        | error e' =>
          rw [hx] at he
          simp only [Except.error.injEq] at he
          subst he
          exact hf.err _ _ hx
        | ok y =>
          obtain ⟨n1, t1, l1⟩ := y
          rw [hx] at he
          dsimp only at he
          have := hl _ _ _ _ hx
          cases hy : times f k l1 with
          | error e' =>
            rw [hy] at he
            simp only [Except.error.injEq] at he
            subst he
            exact times_err hf hl k l1 _ (by omega) hy
          | ok z => obtain ⟨a, b, c, d⟩ := z; rw [hy] at he; simp at he
      · cases he
theorem times_loc {f : List UInt8 → Tr} (hf : Sane f) : ∀ (k : Nat) (l : List UInt8) (j : Nat) n t l', times f k l = .ok (j, n, t, l') → ∃ y, l = y ++ l' ∧ (∀ z k', (y ++ z).length < k' → times f k' (y ++ z) = .ok (j, n, t, z)) ∧ ∀ c k', c < y.length → c < k' → times f k' (y.take c) = .error 5
  | 0, l, j, n, t, l', he => by simp [times] at he
  | k + 1, l, j, n, t, l', he => by
    unfold times at he
    split at he
    · cases he
    · rename_i h0
      obtain ⟨y0, e1, e2, e3, e4⟩ := boolR_app (l := l) (by simpa using h0)
      split at he
      · rename_i hb
        cases hx : f (X.boolR l 0).2.1 with
        | error e' => rw [hx] at he; simp at he
        | ok y =>
          obtain ⟨n1, t1, l1⟩ := y
          rw [hx] at he
          dsimp only at he
          cases hy : times f k l1 with
          | error e' => rw [hy] at he; simp at he
          | ok z =>
            obtain ⟨j2, n2, t2, l2⟩ := z
            rw [hy] at he
            simp only [Except.ok.injEq, Prod.mk.injEq] at he
            obtain ⟨rfl, rfl, rfl, rfl⟩ := he
            obtain ⟨y1, a1, a2, a3⟩ := hf.loc _ _ _ _ hx
            obtain ⟨y2, b1, b2, b3⟩ := times_loc hf k l1 j2 n2 t2 l2 hy
            refine ⟨y0 ++ (y1 ++ y2), ?_, fun z k' hk => ?_, fun c k' hc hk => ?_⟩
            · rw [List.append_assoc, List.append_assoc, ← b1, ← a1]; exact e1
            · obtain ⟨k2, rfl⟩ : ∃ k2, k' = k2 + 1 := ⟨k' - 1, by omega⟩
              simp only [List.append_assoc, List.length_append] at hk ⊢
              unfold times
              rw [e3]
              simp only [hb, ne_eq, not_true_eq_false, if_false, if_true, a2]
              rw [b2 z k2 (by simp only [List.length_append]; omega)]
            · obtain ⟨k2, rfl⟩ : ∃ k2, k' = k2 + 1 := ⟨k' - 1, by omega⟩
              unfold times
              by_cases h4 : c < 4
              · rw [List.take_append_of_le_length (by omega), e4 c h4]
                simp
              · have ht : (y0 ++ (y1 ++ y2)).take c = y0 ++ (y1 ++ y2).take (c - 4) := by rw [List.take_append, List.take_of_length_le (by omega), e2]
                rw [ht, e3]
                simp only [hb, ne_eq, not_true_eq_false, if_false, if_true]
                by_cases h5 : c - 4 < y1.length
                · rw [List.take_append_of_le_length (by omega), a3 _ h5]
                · have ht2 : (y1 ++ y2).take (c - 4) = y1 ++ y2.take (c - 4 - y1.length) := by rw [List.take_append, List.take_of_length_le (by omega)]
                  rw [ht2, a2]
                  dsimp only
                  rw [b3 _ k2 (by simp only [List.length_append] at hc; omega) (by omega)]
      · rename_i hb
        simp only [Except.ok.injEq, Prod.mk.injEq] at he
        obtain ⟨rfl, rfl, rfl, rfl⟩ := he
        have hb' : (X.boolR l 0).1 = false := by simpa using hb
        refine ⟨y0, e1, fun z k' hk => ?_, fun c k' hc hk => ?_⟩
        · obtain ⟨k2, rfl⟩ : ∃ k2, k' = k2 + 1 := ⟨k' - 1, by omega⟩
          unfold times
          rw [e3, hb']
          simp
        · obtain ⟨k2, rfl⟩ : ∃ k2, k' = k2 + 1 := ⟨k' - 1, by omega⟩
          unfold times
          rw [e4 c (by omega)]
          simp
theorem sane_times {f : List UInt8 → Tr} (hf : Sane f) (hl : ∀ l n t l', f l = .ok (n, t, l') → l'.length ≤ l.length) : Sane (timesT f) := by
  refine ⟨fun l e h => ?_, fun l n t l' h => ?_⟩
  · unfold timesT at h
    split at h
    · rename_i e' he
      simp only [Except.error.injEq] at h
      subst h
      exact times_err hf hl _ l _ (by omega) he
    · cases h
  · unfold timesT at h
    split at h
    · cases h
    · rename_i j n1 t1 l1 he
      simp only [Except.ok.injEq, Prod.mk.injEq] at h
      obtain ⟨rfl, rfl, rfl⟩ := h
      obtain ⟨y, e1, e2, e3⟩ := times_loc hf _ l _ _ _ _ he
      refine ⟨y, e1, fun z => ?_, fun c hc => ?_⟩
      · unfold timesT
        rw [e2 z _ (by omega)]
      · unfold timesT
        rw [e3 c _ hc (by rw [List.length_take]; omega)]
theorem sane_tk : ∀ (r : Row) (m : Option Int), Sane (tk m r)
  | .nil, none => ⟨fun l e h => by simp [tk] at h, fun l n t l' h => by
      simp only [tk, Except.ok.injEq, Prod.mk.injEq] at h
      obtain ⟨rfl, rfl, rfl⟩ := h
      exact ⟨[], rfl, fun z => rfl, fun c hc => by simp at hc⟩⟩
  | .one c r, none => by
    refine sane_and (g := oneT c) ?_ (sane_tk r none)
    unfold oneT
    by_cases h1 : c = 117
    · simp only [if_pos h1]; exact sane_num 4
    · by_cases h2 : c = 113
      · simp only [if_neg h1, if_pos h2]; exact sane_num 8
      · simp only [if_neg h1, if_neg h2]; exact sane_bool
  | .num c n r, none => by
    refine sane_and (g := numT c n) ?_ (sane_tk r none)
    unfold numT
    by_cases h1 : c = 111
    · simp only [if_pos h1]; exact sane_ofT fun l h => opqR_app h
    · simp only [if_neg h1]
      refine sane_ofT fun l h => ?_
      obtain ⟨y, e1, e2, e3⟩ := fixR_app h
      exact ⟨y, e1, e2, fun c hc => by rw [e3 c hc]⟩
  | .opt c i r, none => by
    refine sane_and (g := fun l => if c = 63 then maybeT (tk none i) l else timesT (tk none i) l) ?_ (sane_tk r none)
    by_cases h1 : c = 63
    · simp only [if_pos h1]
      refine sane_bind (g := fun l => ofN (boolN l)) (F := fun l l1 => if (X.boolR l 0).1 then tk none i l1 else .ok ([], [], l1)) sane_bool (fun l => ?_) fun l l' n t a b ha hb => ?_
      · by_cases hb : (X.boolR l 0).1 = true
        · simp only [if_pos hb]; exact sane_tk i none
        · simp only [if_neg hb]
          exact sane_tk .nil none
      · unfold ofN at ha hb
        split at ha
        · split at hb
          · simp only [Except.ok.injEq, Prod.mk.injEq] at ha hb
            obtain ⟨rfl, _, _⟩ := ha
            have := hb.1
            simp only [boolN, List.cons.injEq, and_true] at this
            rw [b2i_inj this]
          · cases hb
        · cases ha
    · simp only [if_neg h1]
      exact sane_times (sane_tk i none) fun l n t l' h => (few_tk i none l n t l' h).1
  | .ch a r, none => by
    refine sane_and (g := armT (fun n l1 => tk (some n) a l1)) ?_ (sane_tk r none)
    refine sane_bind (g := fun l => ofN (X.numR 4 l 0)) (F := fun l l1 => tk (some (X.numR 4 l 0).1) a l1) (sane_num 4) (fun l => sane_tk a _) fun l l' n t x y ha hb => ?_
    unfold ofN at ha hb
    split at ha
    · split at hb
      · simp only [Except.ok.injEq, Prod.mk.injEq] at ha hb
        obtain ⟨rfl, _, _⟩ := ha
        have := hb.1
        simp only [List.cons.injEq, and_true] at this
        rw [this]
      · cases hb
    · cases ha
  | .arm k i r, some n => by
    have h1 := sane_tk i none
    have h2 := sane_tk r (some n)
    by_cases h : k = n ∨ k = -1
    · have e : tk (some n) (.arm k i r) = tk none i := by funext l; simp only [tk, if_pos h]
      rw [e]; exact h1
    · have e : tk (some n) (.arm k i r) = tk (some n) r := by funext l; simp only [tk, if_neg h]
      rw [e]; exact h2
  | .arm _ _ _, none => ⟨fun l e h => by simp [tk] at h; omega, fun l n t l' h => by simp [tk] at h⟩
  | .nil, some _ => ⟨fun l e h => by simp [tk] at h; omega, fun l n t l' h => by simp [tk] at h⟩
  | .one _ _, some _ => ⟨fun l e h => by simp [tk] at h; omega, fun l n t l' h => by simp [tk] at h⟩
  | .num _ _ _, some _ => ⟨fun l e h => by simp [tk] at h; omega, fun l n t l' h => by simp [tk] at h⟩
  | .opt _ _ _, some _ => ⟨fun l e h => by simp [tk] at h; omega, fun l n t l' h => by simp [tk] at h⟩
  | .ch _ _, some _ => ⟨fun l e h => by simp [tk] at h; omega, fun l n t l' h => by simp [tk] at h⟩
end Go.Proofs.YtjogcdkebplcpaaGreatDoor
namespace Go.Proofs.YtjogcdkebplcpaaGreatDoor
open Go.RowKit Sch
theorem bytes4 (a b c d : UInt8) : Y.numBytes (((256 * (256 * (256 * (256 * 0 + a.toNat) + b.toNat) + c.toNat) + d.toNat : Nat)) : Int) 4 = [a, b, c, d] := by
  have ha := a.toNat_lt
  have hb := b.toNat_lt
  have hc := c.toNat_lt
  have hd := d.toNat_lt
  generalize hn : (((256 * (256 * (256 * (256 * 0 + a.toNat) + b.toNat) + c.toNat) + d.toNat : Nat)) : Int) = n
  have h0 := Y.byteAt_toNat n 0
  have h1 := Y.byteAt_toNat n 8
  have h2 := Y.byteAt_toNat n 16
  have h3 := Y.byteAt_toNat n 24
  simp only [Int.reducePow] at h0 h1 h2 h3
  show [Y.byteAt n 24, Y.byteAt n 16, Y.byteAt n 8, Y.byteAt n 0] = _
  have e3 : Y.byteAt n 24 = a := UInt8.toNat_inj.1 (by omega)
  have e2 : Y.byteAt n 16 = b := UInt8.toNat_inj.1 (by omega)
  have e1 : Y.byteAt n 8 = c := UInt8.toNat_inj.1 (by omega)
  have e0 : Y.byteAt n 0 = d := UInt8.toNat_inj.1 (by omega)
  rw [e3, e2, e1, e0]
theorem bytes8 (a b c d e f g h : UInt8) : Y.numBytes (IntKind.i64.wrap ((256 * (256 * (256 * (256 * (256 * (256 * (256 * (256 * 0 + a.toNat) + b.toNat) + c.toNat) + d.toNat) + e.toNat) + f.toNat) + g.toNat) + h.toNat : Nat) : Int)) 8 = [a, b, c, d, e, f, g, h] := by
  have ha := a.toNat_lt
  have hb := b.toNat_lt
  have hc := c.toNat_lt
  have hd := d.toNat_lt
  have he := e.toNat_lt
  have hf := f.toNat_lt
  have hg := g.toNat_lt
  have hh := h.toNat_lt
  generalize hn : IntKind.i64.wrap ((256 * (256 * (256 * (256 * (256 * (256 * (256 * (256 * 0 + a.toNat) + b.toNat) + c.toNat) + d.toNat) + e.toNat) + f.toNat) + g.toNat) + h.toNat : Nat) : Int) = n
  rw [IntKind.wrap_i64] at hn
  have h0 := Y.byteAt_toNat n 0
  have h1 := Y.byteAt_toNat n 8
  have h2 := Y.byteAt_toNat n 16
  have h3 := Y.byteAt_toNat n 24
  have h4 := Y.byteAt_toNat n 32
  have h5 := Y.byteAt_toNat n 40
  have h6 := Y.byteAt_toNat n 48
  have h7 := Y.byteAt_toNat n 56
  simp only [Int.reducePow] at h0 h1 h2 h3 h4 h5 h6 h7
  show [Y.byteAt n 56, Y.byteAt n 48, Y.byteAt n 40, Y.byteAt n 32, Y.byteAt n 24, Y.byteAt n 16, Y.byteAt n 8, Y.byteAt n 0] = _
  have e7 : Y.byteAt n 56 = a := UInt8.toNat_inj.1 (by clear h0 h1 h2 h3 h4 h5 h6; omega)
  have e6 : Y.byteAt n 48 = b := UInt8.toNat_inj.1 (by clear h0 h1 h2 h3 h4 h5 h7; omega)
  have e5 : Y.byteAt n 40 = c := UInt8.toNat_inj.1 (by clear h0 h1 h2 h3 h4 h6 h7; omega)
  have e4 : Y.byteAt n 32 = d := UInt8.toNat_inj.1 (by clear h0 h1 h2 h3 h5 h6 h7; omega)
  have e3 : Y.byteAt n 24 = e := UInt8.toNat_inj.1 (by clear h0 h1 h2 h4 h5 h6 h7; omega)
  have e2 : Y.byteAt n 16 = f := UInt8.toNat_inj.1 (by clear h0 h1 h3 h4 h5 h6 h7; omega)
  have e1 : Y.byteAt n 8 = g := UInt8.toNat_inj.1 (by clear h0 h2 h3 h4 h5 h6 h7; omega)
  have e0 : Y.byteAt n 0 = h := UInt8.toNat_inj.1 (by clear h1 h2 h3 h4 h5 h6 h7; omega)
  rw [e7, e6, e5, e4, e3, e2, e1, e0]
theorem numR_back4 {l : List UInt8} (h : (X.numR 4 l 0).2.2 = 0) : l = Y.numBytes (X.numR 4 l 0).1 4 ++ (X.numR 4 l 0).2.1 ∧ 0 ≤ (X.numR 4 l 0).1 ∧ (X.numR 4 l 0).1 ≤ 4294967295 := by
  unfold X.numR at h ⊢
  by_cases hl : l.length < 4
  · simp [if_pos hl, X.failE] at h
  · rw [if_neg hl]
    match l, hl with
    | a :: b :: c :: d :: t, _ =>
      have ha := a.toNat_lt
      have hb := b.toNat_lt
      have hc := c.toNat_lt
      have hd := d.toNat_lt
      have hbe : X.be (List.take 4 (a :: b :: c :: d :: t)) = 256 * (256 * (256 * (256 * 0 + a.toNat) + b.toNat) + c.toNat) + d.toNat := rfl
      have hw : IntKind.i64.wrap ((256 * (256 * (256 * (256 * 0 + a.toNat) + b.toNat) + c.toNat) + d.toNat : Nat) : Int) = ((256 * (256 * (256 * (256 * 0 + a.toNat) + b.toNat) + c.toNat) + d.toNat : Nat) : Int) := IntWalk.i64_in _ (by omega)
      rw [hbe, hw]
      refine ⟨?_, by omega, by omega⟩
      rw [bytes4]
      rfl
    | [], h => simp at h
    | [_], h => simp at h
    | [_, _], h => simp at h
    | [_, _, _], h => simp at h
theorem numR_back8 {l : List UInt8} (h : (X.numR 8 l 0).2.2 = 0) : l = Y.numBytes (X.numR 8 l 0).1 8 ++ (X.numR 8 l 0).2.1 ∧ -9223372036854775808 ≤ (X.numR 8 l 0).1 ∧ (X.numR 8 l 0).1 ≤ 9223372036854775807 := by
  unfold X.numR at h ⊢
  by_cases hl : l.length < 8
  · simp [if_pos hl, X.failE] at h
  · rw [if_neg hl]
    match l, hl with
    | a :: b :: c :: d :: e :: f :: g :: i :: t, _ =>
      have hbe : X.be (List.take 8 (a :: b :: c :: d :: e :: f :: g :: i :: t)) = 256 * (256 * (256 * (256 * (256 * (256 * (256 * (256 * 0 + a.toNat) + b.toNat) + c.toNat) + d.toNat) + e.toNat) + f.toNat) + g.toNat) + i.toNat := rfl
      rw [hbe]
      refine ⟨?_, ?_, ?_⟩
      · rw [bytes8]
        rfl
      · rw [IntKind.wrap_i64]; omega
      · rw [IntKind.wrap_i64]; omega
    | [], h => simp at h
    | [_], h => simp at h
    | [_, _], h => simp at h
    | [_, _, _], h => simp at h
    | [_, _, _, _], h => simp at h
    | [_, _, _, _, _], h => simp at h
    | [_, _, _, _, _, _], h => simp at h
    | [_, _, _, _, _, _, _], h => simp at h
theorem boolR_back {l : List UInt8} (h : (X.boolR l 0).2.2 = 0) : l = Y.numBytes (b2i (X.boolR l 0).1) 4 ++ (X.boolR l 0).2.1 := by
  unfold X.boolR at h ⊢
  by_cases h1 : 1 < (X.numR 4 l 0).1
  · rw [if_pos h1] at h
    exfalso
    revert h
    show X.failE (X.numR 4 l 0).2.2 4 ≠ 0
    unfold X.failE
    split
    · decide
    · assumption
  · rw [if_neg h1] at h ⊢
    obtain ⟨e, a, b⟩ := numR_back4 h
    show l = Y.numBytes (b2i ((X.numR 4 l 0).1 == 1)) 4 ++ (X.numR 4 l 0).2.1
    have : b2i ((X.numR 4 l 0).1 == 1) = (X.numR 4 l 0).1 := by
      generalize (X.numR 4 l 0).1 = n at *
      by_cases hn : n = 1
      · subst hn; rfl
      · have h0 : n = 0 := by omega
        subst h0; rfl
    rw [this]
    exact e
theorem pad_xy (n : Nat) : X.pad n = Y.pad n := rfl
theorem fixR_back {n : Nat} {l : List UInt8} (h : (X.fixR n l 0).2.2 = 0) : l = Y.fixedOf (X.fixR n l 0).1 ++ (X.fixR n l 0).2.1 ∧ (X.fixR n l 0).1.size = n := by
  rw [X.fixR_nat] at h ⊢
  by_cases h1 : (l.length : Int) - (X.pad n : Nat) < n
  · simp [if_pos h1, X.failE] at h
  · rw [if_neg h1] at h ⊢
    by_cases h2 : ((l.drop n).take (X.pad n)).all (· == 0) = true
    · rw [if_pos h2] at h ⊢
      have hs : (⟨(l.take n).toArray⟩ : ByteArray).size = n := by
        show (l.take n).toArray.size = n
        simp
        omega
      refine ⟨?_, hs⟩
      unfold Y.fixedOf
      rw [hs]
      show l = ((l.take n).toArray.toList ++ List.replicate (Y.pad n) 0) ++ l.drop (n + X.pad n)
      have h3 : (l.drop n).take (X.pad n) = List.replicate (Y.pad n) 0 := by
        rw [List.eq_replicate_iff]
        refine ⟨?_, fun b hb => ?_⟩
        · rw [List.length_take, List.length_drop, ← pad_xy]; omega
        · rw [List.all_eq_true] at h2
          simpa using h2 b hb
      rw [← h3, List.toList_toArray, List.append_assoc, ← List.drop_drop, List.take_append_drop, List.take_append_drop]
    · rw [if_neg h2] at h
      simp [X.failE] at h
theorem opqR_back {k : Nat} {l : List UInt8} (h : (X.opqR k l 0).2.2 = 0) : l = Y.opaqueOf (X.opqR k l 0).1 ++ (X.opqR k l 0).2.1 ∧ (X.opqR k l 0).1.size ≤ k := by
  have hk : ¬ (k : Int) < 0 := by omega
  unfold X.opqR at h ⊢
  simp only [if_neg hk] at h ⊢
  by_cases h1 : (k : Int) < (X.numR 4 l 0).1
  · rw [if_pos h1] at h
    exfalso
    revert h
    show X.failE (X.numR 4 l 0).2.2 2 ≠ 0
    unfold X.failE
    split
    · decide
    · assumption
  · rw [if_neg h1] at h ⊢
    have h0 : (X.numR 4 l 0).2.2 = 0 := by
      refine Classical.byContradiction fun hne => ?_
      revert h
      unfold X.fixR X.failE
      split
      · exact hne
      · split
        · simp [hne]
        · split
          · exact hne
          · simp [hne]
    obtain ⟨e, a, b⟩ := numR_back4 h0
    generalize X.numR 4 l 0 = y at *
    obtain ⟨n, l1, e1⟩ := y
    dsimp only at *
    subst h0
    obtain ⟨m, rfl⟩ : ∃ m : Nat, n = m := ⟨n.toNat, by omega⟩
    obtain ⟨f1, f2⟩ := fixR_back h
    refine ⟨?_, by omega⟩
    unfold Y.opaqueOf
    rw [f2, List.append_assoc, ← f1]
    exact e

/-- What g takes, f lays out as it was. -/
def Inv (g : List UInt8 → Tr) (f : List Int → List ByteArray → Lr) (l : List UInt8) : Prop :=
  ∀ n t l', g l = .ok (n, t, l') → ∃ y, l = y ++ l' ∧ ∀ N T, f (n ++ N) (t ++ T) = .ok (y, N, T)
theorem inv_and {g g' : List UInt8 → Tr} {f f' : List Int → List ByteArray → Lr} {l : List UInt8} (h : Inv g f l) (h' : ∀ l1, l1.length ≤ l.length → Inv g' f' l1) : Inv (fun l => andT (g l) g') (fun N T => andL (f N T) f') l := by
  intro n t l' e
  dsimp only at e
  cases hx : g l with
  | error e' => rw [hx] at e; simp [andT] at e
  | ok y =>
    obtain ⟨n1, t1, l1⟩ := y
    rw [hx] at e
    simp only [andT] at e
    obtain ⟨y1, a1, b1⟩ := h n1 t1 l1 hx
    cases hy : g' l1 with
    | error e' => rw [hy] at e; simp [pre] at e
    | ok z =>
      obtain ⟨n2, t2, l2⟩ := z
      rw [hy] at e
      simp only [pre, Except.ok.injEq, Prod.mk.injEq] at e
      obtain ⟨rfl, rfl, rfl⟩ := e
      obtain ⟨y2, a2, b2⟩ := h' l1 (by rw [a1, List.length_append]; omega) n2 t2 l2 hy
      refine ⟨y1 ++ y2, by rw [a1, a2, List.append_assoc], fun N T => ?_⟩
      show andL (f (n1 ++ n2 ++ N) (t1 ++ t2 ++ T)) f' = _
      rw [List.append_assoc, List.append_assoc, b1]
      simp only [andL, b2, preL]
theorem inv_bool {l : List UInt8} : Inv (fun l => ofN (boolN l)) (fun N T => numL 0 1 4 N T) l := by
  intro n t l' e
  dsimp only at e
  unfold ofN at e
  split at e
  · rename_i h0
    simp only [Except.ok.injEq, Prod.mk.injEq] at e
    obtain ⟨rfl, rfl, rfl⟩ := e
    refine ⟨_, boolR_back h0, fun N T => ?_⟩
    show numL 0 1 4 (b2i (X.boolR l 0).1 :: N) T = _
    unfold numL; dsimp only
    rw [if_pos (by cases (X.boolR l 0).1 <;> decide)]
  · cases e
theorem inv_num4 {l : List UInt8} : Inv (fun l => ofN (X.numR 4 l 0)) (fun N T => numL 0 4294967295 4 N T) l := by
  intro n t l' e
  dsimp only at e
  unfold ofN at e
  split at e
  · rename_i h0
    simp only [Except.ok.injEq, Prod.mk.injEq] at e
    obtain ⟨rfl, rfl, rfl⟩ := e
    obtain ⟨a, b⟩ := numR_back4 h0
    refine ⟨_, a, fun N T => ?_⟩
    show numL 0 4294967295 4 ((X.numR 4 l 0).1 :: N) T = _
    unfold numL; dsimp only
    rw [if_pos b]
  · cases e
theorem inv_one (c : UInt8) (l : List UInt8) : Inv (oneT c) (oneL c) l := by
  by_cases h1 : c = 117
  · have e1 : oneT c = fun l => ofN (X.numR 4 l 0) := by funext l; unfold oneT; rw [if_pos h1]
    have e2 : oneL c = fun N T => numL 0 4294967295 4 N T := by funext N T; unfold oneL; rw [if_pos h1]
    rw [e1, e2]
    exact inv_num4
  · by_cases h2 : c = 113
    · have e1 : oneT c = fun l => ofN (X.numR 8 l 0) := by funext l; unfold oneT; rw [if_neg h1, if_pos h2]
      have e2 : oneL c = fun N T => numL (-9223372036854775808) 9223372036854775807 8 N T := by funext N T; unfold oneL; rw [if_neg h1, if_pos h2]
      rw [e1, e2]
      intro n t l' e
      dsimp only at e
      unfold ofN at e
      split at e
      · rename_i h0
        simp only [Except.ok.injEq, Prod.mk.injEq] at e
        obtain ⟨rfl, rfl, rfl⟩ := e
        obtain ⟨a, b⟩ := numR_back8 h0
        refine ⟨_, a, fun N T => ?_⟩
        show numL (-9223372036854775808) 9223372036854775807 8 ((X.numR 8 l 0).1 :: N) T = _
        unfold numL; dsimp only
        rw [if_pos b]
      · cases e
    · have e1 : oneT c = fun l => ofN (boolN l) := by funext l; unfold oneT; rw [if_neg h1, if_neg h2]
      have e2 : oneL c = fun N T => numL 0 1 4 N T := by funext N T; unfold oneL; rw [if_neg h1, if_neg h2]
      rw [e1, e2]
      exact inv_bool
theorem inv_txt (c : UInt8) (k : Nat) (l : List UInt8) : Inv (numT c k) (txtL c k) l := by
  intro n t l' e
  unfold numT ofT at e
  by_cases h1 : c = 111
  · rw [if_pos h1] at e
    split at e
    · rename_i h0
      simp only [Except.ok.injEq, Prod.mk.injEq] at e
      obtain ⟨rfl, rfl, rfl⟩ := e
      obtain ⟨a, b⟩ := opqR_back h0
      refine ⟨_, a, fun N T => ?_⟩
      show txtL c k N ((X.opqR k l 0).1 :: T) = _
      unfold txtL; dsimp only
      rw [if_pos h1, if_pos b]
    · cases e
  · rw [if_neg h1] at e
    split at e
    · rename_i h0
      simp only [Except.ok.injEq, Prod.mk.injEq] at e
      obtain ⟨rfl, rfl, rfl⟩ := e
      obtain ⟨a, b⟩ := fixR_back h0
      refine ⟨_, a, fun N T => ?_⟩
      show txtL c k N ((X.fixR k l 0).1 :: T) = _
      unfold txtL; dsimp only
      rw [if_neg h1, if_pos b]
    · cases e
theorem inv_maybe {g : List UInt8 → Tr} {f : List Int → List ByteArray → Lr} {l : List UInt8} (h : ∀ l1, l1.length ≤ l.length → Inv g f l1) : Inv (maybeT g) (maybeL f) l := by
  intro n t l' e
  unfold maybeT at e
  cases hx : ofN (boolN l) with
  | error e' => rw [hx] at e; simp [andT] at e
  | ok y =>
    obtain ⟨n1, t1, l1⟩ := y
    rw [hx] at e
    simp only [andT] at e
    obtain ⟨y1, a1, b1⟩ := inv_bool n1 t1 l1 hx
    have hn : n1 = [b2i (X.boolR l 0).1] ∧ t1 = [] := by
      unfold ofN at hx
      split at hx
      · simp only [Except.ok.injEq, Prod.mk.injEq] at hx
        obtain ⟨rfl, rfl, _⟩ := hx
        exact ⟨rfl, rfl⟩
      · cases hx
    obtain ⟨rfl, rfl⟩ := hn
    cases hb : (X.boolR l 0).1
    · rw [hb] at e b1
      simp only [Bool.false_eq_true, if_false, pre, List.append_nil, Except.ok.injEq, Prod.mk.injEq] at e
      obtain ⟨rfl, rfl, rfl⟩ := e
      refine ⟨y1, a1, fun N T => ?_⟩
      unfold maybeL
      have := b1 N T
      dsimp only at this
      rw [this]
      simp only [andL]
      rw [if_neg (by simp [b2i])]
      simp [preL]
    · rw [hb] at e b1
      simp only [if_true] at e
      cases hy : g l1 with
      | error e' => rw [hy] at e; simp [pre] at e
      | ok z =>
        obtain ⟨n2, t2, l2⟩ := z
        rw [hy] at e
        simp only [pre, Except.ok.injEq, Prod.mk.injEq] at e
        obtain ⟨rfl, rfl, rfl⟩ := e
        obtain ⟨y2, a2, b2⟩ := h l1 (by rw [a1, List.length_append]; omega) n2 t2 l2 hy
        refine ⟨y1 ++ y2, by rw [a1, a2, List.append_assoc], fun N T => ?_⟩
        unfold maybeL
        have := b1 (n2 ++ N) (t2 ++ T)
        dsimp only at this
        rw [List.append_assoc, List.append_assoc, this]
        simp only [andL]
        rw [if_pos (by simp [b2i])]
        simp only [b2, preL]
theorem inv_times {g : List UInt8 → Tr} {f : List Int → List ByteArray → Lr} : ∀ (k : Nat) (l : List UInt8), (∀ l1, l1.length ≤ l.length → Inv g f l1) → ∀ j n t l', times g k l = .ok (j, n, t, l') → j < k ∧ ∃ y, l = y ++ l' ∧ ∀ N T, repL f j (n ++ N) (t ++ T) = .ok (y, N, T)
  | 0, _, _, _, _, _, _, e => by simp [times] at e
  | k + 1, l, h, j, n, t, l', e => by
    unfold times at e
    split at e
    · cases e
    · rename_i h0
      have h0' : (X.boolR l 0).2.2 = 0 := by simpa using h0
      have hb := boolR_back h0'
      split at e
      · rename_i ht
        rw [ht] at hb
        have hlen : (X.boolR l 0).2.1.length ≤ l.length := by
          have := congrArg List.length hb
          rw [List.length_append] at this
          omega
        cases hx : g (X.boolR l 0).2.1 with
        | error e' => rw [hx] at e; simp at e
        | ok y =>
          obtain ⟨n1, t1, l1⟩ := y
          rw [hx] at e
          dsimp only at e
          cases hy : times g k l1 with
          | error e' => rw [hy] at e; simp at e
          | ok z =>
            obtain ⟨j2, n2, t2, l2⟩ := z
            rw [hy] at e
            simp only [Except.ok.injEq, Prod.mk.injEq] at e
            obtain ⟨rfl, rfl, rfl, rfl⟩ := e
            obtain ⟨y1, a1, b1⟩ := h _ hlen n1 t1 l1 hx
            have hl1 : l1.length ≤ l.length := by
              have := congrArg List.length a1
              rw [List.length_append] at this
              omega
            obtain ⟨c2, y2, a2, b2⟩ := inv_times k l1 (fun m hm => h m (by omega)) j2 n2 t2 l2 hy
            refine ⟨by omega, Y.numBytes 1 4 ++ (y1 ++ y2), ?_, fun N T => ?_⟩
            · rw [List.append_assoc, List.append_assoc, ← a2, ← a1]
              exact hb
            · simp only [repL]
              rw [List.append_assoc, List.append_assoc, b1]
              simp only [andL, b2, preL]
      · rename_i ht
        have ht' : (X.boolR l 0).1 = false := by simpa using ht
        rw [ht'] at hb
        simp only [Except.ok.injEq, Prod.mk.injEq] at e
        obtain ⟨rfl, rfl, rfl, rfl⟩ := e
        refine ⟨by omega, _, hb, fun N T => ?_⟩
        rfl
theorem inv_timesT {g : List UInt8 → Tr} {f : List Int → List ByteArray → Lr} {l : List UInt8} (hl : l.length < 4611686018427387904) (h : ∀ l1, l1.length ≤ l.length → Inv g f l1) : Inv (timesT g) (timesL f) l := by
  intro n t l' e
  unfold timesT at e
  cases hx : times g (l.length + 1) l with
  | error e' => rw [hx] at e; simp at e
  | ok y =>
    obtain ⟨j, n1, t1, l1⟩ := y
    rw [hx] at e
    simp only [Except.ok.injEq, Prod.mk.injEq] at e
    obtain ⟨rfl, rfl, rfl⟩ := e
    obtain ⟨c, y, a, b⟩ := inv_times _ l h j n1 t1 l1 hx
    refine ⟨y, a, fun N T => ?_⟩
    show timesL f ((j : Int) :: (n1 ++ N)) (t1 ++ T) = _
    unfold timesL; dsimp only
    rw [if_pos (by omega), Int.toNat_natCast]
    exact b N T
theorem back_tk : ∀ (r : Row) (m : Option Int) (l : List UInt8), l.length < 4611686018427387904 → Inv (tk m r) (ly m r) l
  | .nil, none, l, _ => fun n t l' e => by
    simp only [tk, Except.ok.injEq, Prod.mk.injEq] at e
    obtain ⟨rfl, rfl, rfl⟩ := e
    exact ⟨[], rfl, fun N T => by simp [ly]⟩
  | .one c r, none, l, hl => by
    have := inv_and (inv_one c l) (g' := tk none r) (f' := ly none r) fun l1 h1 => back_tk r none l1 (by omega)
    intro n t l' e
    obtain ⟨y, a, b⟩ := this n t l' (by simpa only [tk] using e)
    exact ⟨y, a, fun N T => by rw [ly]; exact b N T⟩
  | .num c k r, none, l, hl => by
    have := inv_and (inv_txt c k l) (g' := tk none r) (f' := ly none r) fun l1 h1 => back_tk r none l1 (by omega)
    intro n t l' e
    obtain ⟨y, a, b⟩ := this n t l' (by simpa only [tk] using e)
    exact ⟨y, a, fun N T => by rw [ly]; exact b N T⟩
  | .opt c i r, none, l, hl => by
    by_cases hc : c = 63
    · have := inv_and (inv_maybe (l := l) fun l1 h1 => back_tk i none l1 (by omega)) (g' := tk none r) (f' := ly none r) fun l1 h1 => back_tk r none l1 (by omega)
      intro n t l' e
      simp only [tk, if_pos hc] at e
      obtain ⟨y, a, b⟩ := this n t l' e
      exact ⟨y, a, fun N T => by rw [ly, if_pos hc]; exact b N T⟩
    · have := inv_and (inv_timesT hl fun l1 h1 => back_tk i none l1 (by omega)) (g' := tk none r) (f' := ly none r) fun l1 h1 => back_tk r none l1 (by omega)
      intro n t l' e
      simp only [tk, if_neg hc] at e
      obtain ⟨y, a, b⟩ := this n t l' e
      exact ⟨y, a, fun N T => by rw [ly, if_neg hc]; exact b N T⟩
  | .ch a r, none, l, hl => by
    have ha : Inv (armT fun n l1 => tk (some n) a l1) (armL fun n N' T' => ly (some n) a N' T') l := by
      intro n t l' e
      unfold armT at e
      cases hx : ofN (X.numR 4 l 0) with
      | error e' => rw [hx] at e; simp [andT] at e
      | ok y =>
        obtain ⟨n1, t1, l1⟩ := y
        rw [hx] at e
        simp only [andT] at e
        obtain ⟨y1, a1, b1⟩ := inv_num4 n1 t1 l1 hx
        have hn : n1 = [(X.numR 4 l 0).1] ∧ t1 = [] := by
          unfold ofN at hx
          split at hx
          · simp only [Except.ok.injEq, Prod.mk.injEq] at hx
            obtain ⟨rfl, rfl, _⟩ := hx
            exact ⟨rfl, rfl⟩
          · cases hx
        obtain ⟨rfl, rfl⟩ := hn
        cases hy : tk (some (X.numR 4 l 0).1) a l1 with
        | error e' => rw [hy] at e; simp [pre] at e
        | ok z =>
          obtain ⟨n2, t2, l2⟩ := z
          rw [hy] at e
          simp only [pre, Except.ok.injEq, Prod.mk.injEq] at e
          obtain ⟨rfl, rfl, rfl⟩ := e
          have hlen : l1.length ≤ l.length := by rw [a1, List.length_append]; omega
          obtain ⟨y2, a2, b2⟩ := back_tk a (some (X.numR 4 l 0).1) l1 (by omega) n2 t2 l2 hy
          refine ⟨y1 ++ y2, by rw [a2] at a1; rw [List.append_assoc]; exact a1, fun N T => ?_⟩
          unfold armL
          have := b1 (n2 ++ N) (t2 ++ T)
          dsimp only at this
          rw [List.append_assoc, List.append_assoc, this]
          simp only [andL]
          show preL y1 (ly (some (X.numR 4 l 0).1) a (n2 ++ N) (t2 ++ T)) = _
          simp only [b2, preL]
    have := inv_and ha (g' := tk none r) (f' := ly none r) fun l1 h1 => back_tk r none l1 (by omega)
    intro n t l' e
    obtain ⟨y, a, b⟩ := this n t l' (by simpa only [tk] using e)
    exact ⟨y, a, fun N T => by rw [ly]; exact b N T⟩
  | .arm k i r, some n, l, hl => by
    intro n' t l' e
    simp only [tk] at e
    by_cases hk : k = n ∨ k = -1
    · rw [if_pos hk] at e
      obtain ⟨y, a, b⟩ := back_tk i none l hl n' t l' e
      exact ⟨y, a, fun N T => by rw [ly, if_pos hk]; exact b N T⟩
    · rw [if_neg hk] at e
      obtain ⟨y, a, b⟩ := back_tk r (some n) l hl n' t l' e
      exact ⟨y, a, fun N T => by rw [ly, if_neg hk]; exact b N T⟩
  | .arm _ _ _, none, _, _ => fun _ _ _ e => by simp [tk] at e
  | .nil, some _, _, _ => fun _ _ _ e => by simp [tk] at e
  | .one _ _, some _, _, _ => fun _ _ _ e => by simp [tk] at e
  | .num _ _ _, some _, _, _ => fun _ _ _ e => by simp [tk] at e
  | .opt _ _ _, some _, _, _ => fun _ _ _ e => by simp [tk] at e
  | .ch _ _, some _, _, _ => fun _ _ _ e => by simp [tk] at e
end Go.Proofs.YtjogcdkebplcpaaGreatDoor
