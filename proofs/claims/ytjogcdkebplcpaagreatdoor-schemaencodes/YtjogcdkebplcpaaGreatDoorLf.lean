/-
  What the document's layer has laid out, beside what is laid out plainly: sign by sign. No condition.
-/
import Derived.Test.YtjogcdkebplcpaaGreatDoorLc
import Derived.Test.YtjogcdkebplcpaaGreatDoorPl
namespace Go.Proofs.YtjogcdkebplcpaaGreatDoor
open Go.RowKit Sch

/-- Bytes laid out, numbers and texts left; none: something didn't fit. -/
abbrev Mo := Option (List UInt8 × List Int × List ByteArray)
def resM (B : List UInt8) (x : Lr) : Mo := match x with | .ok (b2, N2, T2) => some (B ++ b2, N2, T2) | .error _ => none
def stepM (m : Mo) (y : List Int → List ByteArray → Lr) : Mo := match m with | none => none | some (B, N, T) => resM B (y N T)
def runM (m : Mo) (r : Row) : Mo := stepM m (ly none r)
theorem resM_and (B : List UInt8) (x : Lr) (f : List Int → List ByteArray → Lr) : resM B (andL x f) = stepM (resM B x) f := by
  cases x with
  | error e => rfl
  | ok z =>
    obtain ⟨b2, N2, T2⟩ := z
    simp only [andL, resM, stepM]
    cases f N2 T2 with
    | error e => rfl
    | ok z => obtain ⟨b3, N3, T3⟩ := z; simp [preL]
theorem runM_step (m : Mo) (r r3 : Row) (y : List Int → List ByteArray → Lr) (h : ∀ N T, ly none r N T = andL (y N T) (ly none r3)) : runM m r = runM (stepM m y) r3 := by
  cases m with
  | none => rfl
  | some z =>
    obtain ⟨B, N, T⟩ := z
    simp only [runM, stepM]
    rw [h, resM_and]
    rfl
theorem runM_nil (m : Mo) : runM m .nil = m := by
  cases m with
  | none => rfl
  | some z => obtain ⟨B, N, T⟩ := z; simp [runM, stepM, ly, resM]

/-- The layer's cells, by what is laid out. -/
def Rel (K : Nat) (N0 : List Int) (T0 : List ByteArray) (m : Mo) (i j : Nat) (b : List UInt8) (sz : Nat) (bad : Bool) : Prop :=
  match m with
  | some (B, N, T) => bad = false ∧ sz = B.length ∧ (B.length ≤ 65536 → b = B) ∧ i ≤ N0.length ∧ j ≤ T0.length ∧ N0.drop i = N ∧ T0.drop j = T ∧ B.length + worth N T ≤ K
  | none => bad = true ∧ sz ≤ K
section
variable {K : Nat} {N0 : List Int} {T0 : List ByteArray} {m : Mo} {i j : Nat} {b : List UInt8} {sz : Nat} {bad : Bool}
theorem Rel.le (h : Rel K N0 T0 m i j b sz bad) : sz ≤ K := by
  cases m with
  | none => exact h.2
  | some z => obtain ⟨B, N, T⟩ := z; obtain ⟨_, h1, _, _, _, _, _, h2⟩ := h; omega
theorem Rel.more (h : Rel K N0 T0 m i j b sz bad) {K' : Nat} (hK : K ≤ K') : Rel K' N0 T0 m i j b sz bad := by
  cases m with
  | none => exact ⟨h.1, by have := h.2; omega⟩
  | some z => obtain ⟨B, N, T⟩ := z; obtain ⟨h0, h1, h3, h4, h5, h6, h7, h2⟩ := h; exact ⟨h0, h1, h3, h4, h5, h6, h7, by omega⟩
/-- Bytes are put. -/
def putB (b : List UInt8) (sz : Nat) (s : List UInt8) : List UInt8 := if sz + s.length ≤ 65536 then b ++ s else b
/-- No number can be taken. -/
def NoNum (word : Bool) (m : Mo) : Prop := m = none ∨ (∃ B T, m = some (B, [], T)) ∨ (word = true ∧ ∃ B n N T, m = some (B, n :: N, T) ∧ ¬ (0 ≤ n ∧ n ≤ 4294967295))
theorem num_cases (word : Bool) (h : Rel K N0 T0 m i j b sz bad) :
    (∃ B n N T, m = some (B, n :: N, T) ∧ bad = false ∧ (word = true → 0 ≤ n ∧ n ≤ 4294967295) ∧ numS word N0 i bad = (n, i + 1, false)) ∨ (NoNum word m ∧ ∃ i', numS word N0 i bad = (0, i', true)) := by
  cases m with
  | none => exact .inr ⟨.inl rfl, i, by unfold numS; rw [if_pos (.inr h.1)]⟩
  | some z =>
    obtain ⟨B, N, T⟩ := z
    obtain ⟨h0, h1, h3, h4, h5, h6, h7, h2⟩ := h
    subst h0
    cases N with
    | nil =>
      have hl : N0.length ≤ i := by
        have := congrArg List.length h6
        rw [List.length_drop, List.length_nil] at this
        omega
      exact .inr ⟨.inr (.inl ⟨B, T, rfl⟩), i, by unfold numS; rw [if_pos (.inl hl)]⟩
    | cons n N =>
      have hl : i < N0.length := by
        have := congrArg List.length h6
        rw [List.length_drop, List.length_cons] at this
        omega
      have hg : N0.getD i 0 = n := by
        rw [List.drop_eq_getElem_cons hl] at h6
        rw [List.getD_eq_getElem?_getD, List.getElem?_eq_getElem hl]
        exact (List.cons.inj h6).1
      have hc : ¬ (N0.length ≤ i ∨ false = true) := by simp; omega
      by_cases hw : word = true ∧ (n < 0 ∨ 4294967295 < n)
      · refine .inr ⟨.inr (.inr ⟨hw.1, B, n, N, T, rfl, by omega⟩), i + 1, ?_⟩
        unfold numS
        rw [if_neg hc, if_pos (by rw [hg]; exact hw)]
      · refine .inl ⟨B, n, N, T, rfl, rfl, fun hw1 => ?_, ?_⟩
        · by_cases h8 : 0 ≤ n ∧ n ≤ 4294967295
          · exact h8
          · exact absurd ⟨hw1, by omega⟩ hw
        · unfold numS
          rw [if_neg hc, if_neg (by rw [hg]; exact hw), hg]
theorem NoNum.step {word : Bool} (h : NoNum word m) {least most : Int} {size : Nat} (hw : word = true → 0 ≤ least ∧ most ≤ 4294967295) : stepM m (numL least most size) = none := by
  rcases h with rfl | ⟨B, T, rfl⟩ | ⟨h1, B, n, N, T, rfl, h2⟩
  · rfl
  · rfl
  · have := hw h1
    simp only [stepM, numL]
    rw [if_neg (by omega)]
    rfl
theorem NoNum.times (h : NoNum false m) (f : List Int → List ByteArray → Lr) : stepM m (timesL f) = none := by
  rcases h with rfl | ⟨B, T, rfl⟩ | ⟨h1, _⟩
  · rfl
  · rfl
  · cases h1
theorem NoNum.and {word : Bool} (h : NoNum word m) {least most : Int} {size : Nat} (hw : word = true → 0 ≤ least ∧ most ≤ 4294967295) (g : List Int → List ByteArray → List Int → List ByteArray → Lr) : stepM m (fun N T => andL (numL least most size N T) (g N T)) = none := by
  cases m with
  | none => rfl
  | some z =>
    obtain ⟨B, N, T⟩ := z
    have h1 := h.step (size := size) hw
    simp only [stepM] at h1 ⊢
    rw [resM_and, h1]
    rfl
theorem putB_le (b : List UInt8) (sz : Nat) (s : ByteArray) : (if sz + s.size ≤ 65536 then b ++ s.data.toList else b) = putB b sz s.data.toList := by unfold putB; rw [X.dat_len]
theorem rel_took {B : List UInt8} {n : Int} {N : List Int} {T : List ByteArray} (h : Rel K N0 T0 (some (B, n :: N, T)) i j b sz bad) (s : List UInt8) (hs : s.length ≤ 100) : Rel K N0 T0 (some (B ++ s, N, T)) (i + 1) j (putB b sz s) (sz + s.length) false := by
  obtain ⟨h0, h1, h3, h4, h5, h6, h7, h2⟩ := h
  have hl := congrArg List.length h6
  rw [List.length_drop, List.length_cons] at hl
  refine ⟨rfl, by rw [List.length_append]; omega, fun h9 => ?_, by omega, h5, ?_, h7, ?_⟩
  · rw [List.length_append] at h9
    unfold putB
    rw [if_pos (by omega), h3 (by omega)]
  · rw [← List.drop_drop, h6]; rfl
  · rw [List.length_append]
    unfold worth at h2 ⊢
    simp only [List.length_cons] at h2
    omega
theorem rel_text {B : List UInt8} {N : List Int} {t : ByteArray} {T : List ByteArray} (h : Rel K N0 T0 (some (B, N, t :: T)) i j b sz bad) (s : List UInt8) (hs : s.length ≤ 100050) : Rel K N0 T0 (some (B ++ s, N, T)) i (j + 1) (putB b sz s) (sz + s.length) false := by
  obtain ⟨h0, h1, h3, h4, h5, h6, h7, h2⟩ := h
  have hl := congrArg List.length h7
  rw [List.length_drop, List.length_cons] at hl
  refine ⟨rfl, by rw [List.length_append]; omega, fun h9 => ?_, h4, by omega, h6, ?_, ?_⟩
  · rw [List.length_append] at h9
    unfold putB
    rw [if_pos (by omega), h3 (by omega)]
  · rw [← List.drop_drop, h7]; rfl
  · rw [List.length_append]
    unfold worth at h2 ⊢
    simp only [List.length_cons] at h2
    omega
theorem rel_put {B : List UInt8} {N : List Int} {T : List ByteArray} (h : Rel K N0 T0 (some (B, N, T)) i j b sz bad) (s : List UInt8) {K' : Nat} (hK : K + s.length ≤ K') : Rel K' N0 T0 (some (B ++ s, N, T)) i j (putB b sz s) (sz + s.length) false := by
  obtain ⟨h0, h1, h3, h4, h5, h6, h7, h2⟩ := h
  refine ⟨rfl, by rw [List.length_append]; omega, fun h9 => ?_, h4, h5, h6, h7, ?_⟩
  · rw [List.length_append] at h9
    unfold putB
    rw [if_pos (by omega), h3 (by omega)]
  · rw [List.length_append]; omega
theorem rel_bad (h : Rel K N0 T0 m i j b sz bad) {i' j' : Nat} {b' : List UInt8} {K' : Nat} (L : Nat) (hK : K + L ≤ K') : Rel K' N0 T0 none i' j' b' (sz + L) true := ⟨rfl, by have := h.le; omega⟩
theorem txt_cases (h : Rel K N0 T0 m i j b sz bad) :
    (∃ B N t T, m = some (B, N, t :: T) ∧ bad = false ∧ txtS T0 j bad = (t, j + 1, false)) ∨ ((m = none ∨ ∃ B N, m = some (B, N, [])) ∧ ∃ j', txtS T0 j bad = (⟨#[]⟩, j', true)) := by
  cases m with
  | none => exact .inr ⟨.inl rfl, j, by unfold txtS; rw [if_pos (.inr h.1)]⟩
  | some z =>
    obtain ⟨B, N, T⟩ := z
    obtain ⟨h0, h1, h3, h4, h5, h6, h7, h2⟩ := h
    subst h0
    cases T with
    | nil =>
      have hl : T0.length ≤ j := by
        have := congrArg List.length h7
        rw [List.length_drop, List.length_nil] at this
        omega
      exact .inr ⟨.inr ⟨B, N, rfl⟩, j, by unfold txtS; rw [if_pos (.inl hl)]⟩
    | cons t T =>
      have hl : j < T0.length := by
        have := congrArg List.length h7
        rw [List.length_drop, List.length_cons] at this
        omega
      have hg : T0.getD j ⟨#[]⟩ = t := by
        rw [List.drop_eq_getElem_cons hl] at h7
        rw [List.getD_eq_getElem?_getD, List.getElem?_eq_getElem hl]
        exact (List.cons.inj h7).1
      refine .inl ⟨B, N, t, T, rfl, rfl, ?_⟩
      unfold txtS
      rw [if_neg (by simp; omega), hg]
theorem no_txt (h : m = none ∨ ∃ B N, m = some (B, N, [])) (c : UInt8) (k : Nat) : stepM m (txtL c k) = none := by
  rcases h with rfl | ⟨B, N, rfl⟩ <;> rfl
end
/-- The layer in memory, by what is laid out. -/
def ST (B0 q : Nat) (aN : Option Addr) (cN : Nat) (N0 : List Int) (aT : Option Addr) (cT : Nat) (T0 : List ByteArray) (K : Nat) (m : Mo) (w : World) : Prop :=
  ItsAt B0 w aN N0 ∧ StsAt B0 w aT T0 ∧ ∃ i j b vO sz bad, LB B0 q (.slice aN N0.length cN) (.slice aT T0.length cT) i j b vO sz bad w ∧ Rel K N0 T0 m i j b sz bad
end Go.Proofs.YtjogcdkebplcpaaGreatDoor
