/-
  What is not laid out is told by 1, 2 or 4, plain. No condition.
-/
import Derived.Test.YtakfpfnaogdmlaaDoorEn
namespace Go.Proofs.YtakfpfnaogdmlaaDoor
open Go.RowKit Sch
def Er4 (x : Lr) : Prop := ∀ e, x = .error e → e = 4
theorem er_pre {p : List UInt8} {x : Lr} (h : Er4 x) : Er4 (preL p x) := by
  intro e he
  cases x with
  | error e' => simp only [preL, Except.error.injEq] at he; exact he ▸ h e' rfl
  | ok y => obtain ⟨b1, N1, T1⟩ := y; simp [preL] at he
theorem er_and {x : Lr} {f : List Int → List ByteArray → Lr} (h : Er4 x) (hf : ∀ N T, Er4 (f N T)) : Er4 (andL x f) := by
  cases x with
  | error e' => intro e he; simp only [andL, Except.error.injEq] at he; exact he ▸ h e' rfl
  | ok y => obtain ⟨b1, N1, T1⟩ := y; exact er_pre (hf N1 T1)
theorem er_four : Er4 (.error 4) := fun e he => by simpa using he.symm
theorem er_ok (b : List UInt8) (N : List Int) (T : List ByteArray) : Er4 (.ok (b, N, T)) := fun e he => by cases he
theorem er_num (least most : Int) (size : Nat) (N : List Int) (T : List ByteArray) : Er4 (numL least most size N T) := by
  cases N with
  | nil => simp only [numL]; exact er_four
  | cons n N =>
    simp only [numL]
    split
    · exact er_ok _ _ _
    · exact er_four
theorem er_txt (c : UInt8) (k : Nat) (N : List Int) (T : List ByteArray) : Er4 (txtL c k N T) := by
  cases T with
  | nil => simp only [txtL]; exact er_four
  | cons s T =>
    simp only [txtL]
    split
    · split
      · exact er_ok _ _ _
      · exact er_four
    · split
      · exact er_ok _ _ _
      · exact er_four
theorem er_rep {f : List Int → List ByteArray → Lr} (hf : ∀ N T, Er4 (f N T)) : ∀ (k : Nat) (N : List Int) (T : List ByteArray), Er4 (repL f k N T)
  | 0, N, T => by simp only [repL]; exact er_ok _ _ _
  | k + 1, N, T => by
    simp only [repL]
    exact er_pre (er_and (hf N T) fun N' T' => er_rep hf k N' T')
theorem er_one (c : UInt8) (N : List Int) (T : List ByteArray) : Er4 (oneL c N T) := by
  unfold oneL
  split
  · exact er_num _ _ 4 N T
  · split
    · exact er_num _ _ 8 N T
    · exact er_num _ _ 4 N T
theorem er_ly : ∀ (r : Row) (m : Option Int) (N : List Int) (T : List ByteArray), Er4 (ly m r N T)
  | .nil, none, N, T => by rw [ly]; exact er_ok _ N T
  | .one c r, none, N, T => by rw [ly]; exact er_and (er_one c N T) fun N' T' => er_ly r none N' T'
  | .num c k r, none, N, T => by rw [ly]; exact er_and (er_txt c k N T) fun N' T' => er_ly r none N' T'
  | .opt c i r, none, N, T => by
    rw [ly]
    refine er_and ?_ fun N' T' => er_ly r none N' T'
    split
    · unfold maybeL
      refine er_and (er_num _ _ 4 N T) fun N' T' => ?_
      split
      · exact er_ly i none N' T'
      · exact er_ok _ N' T'
    · unfold timesL
      split
      · exact er_four
      · split
        · exact er_rep (fun N' T' => er_ly i none N' T') _ _ T
        · exact er_four
  | .ch a r, none, N, T => by
    rw [ly]
    refine er_and ?_ fun N' T' => er_ly r none N' T'
    unfold armL
    exact er_and (er_num _ _ 4 N T) fun N' T' => er_ly a (some _) N' T'
  | .arm k i r, some n, N, T => by
    rw [ly]
    split
    · exact er_ly i none N T
    · exact er_ly r (some n) N T
  | .arm _ _ _, none, N, T => by unfold ly; exact er_four
  | .nil, some _, N, T => by unfold ly; exact er_four
  | .one _ _, some _, N, T => by unfold ly; exact er_four
  | .num _ _ _, some _, N, T => by unfold ly; exact er_four
  | .opt _ _ _, some _, N, T => by unfold ly; exact er_four
  | .ch _ _, some _, N, T => by unfold ly; exact er_four
theorem enc_err {t : List UInt8} {N : List Int} {T : List ByteArray} {e : Int} (h : encO t N T = .error e) : e ≠ 0 := by
  unfold encO at h
  split at h
  · simp only [Except.error.injEq] at h; omega
  · rename_i r hr
    split at h
    · rename_i e' hl
      simp only [Except.error.injEq] at h
      subst h
      unfold laidO at hl
      split at hl
      · rename_i e2 hly
        simp only [Except.error.injEq] at hl
        subst hl
        have := er_ly r none N T _ hly
        omega
      · split at hl
        · cases hl
        · simp only [Except.error.injEq] at hl; omega
    · split at h
      · simp only [Except.error.injEq] at h; omega
      · cases h
end Go.Proofs.YtakfpfnaogdmlaaDoor
