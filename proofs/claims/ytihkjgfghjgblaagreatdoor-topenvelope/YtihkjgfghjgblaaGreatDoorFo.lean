/-
  What is laid out has a multiple of four bytes, plain. No condition.
-/
import Derived.Test.YtihkjgfghjgblaaGreatDoorEn
namespace Go.Proofs.YtihkjgfghjgblaaGreatDoor
open Go.RowKit Sch
def Four (x : Lr) : Prop := ∀ b N T, x = .ok (b, N, T) → b.length % 4 = 0
theorem four_pre {p : List UInt8} {x : Lr} (hp : p.length % 4 = 0) (h : Four x) : Four (preL p x) := by
  intro b N T e
  cases x with
  | error e' => simp [preL] at e
  | ok y =>
    obtain ⟨b1, N1, T1⟩ := y
    have h1 := h b1 N1 T1 rfl
    simp only [preL, Except.ok.injEq, Prod.mk.injEq] at e
    obtain ⟨rfl, -, -⟩ := e
    rw [List.length_append]
    omega
theorem four_and {x : Lr} {f : List Int → List ByteArray → Lr} (h : Four x) (hf : ∀ N T, Four (f N T)) : Four (andL x f) := by
  cases x with
  | error e' => intro b N T e; simp [andL] at e
  | ok y =>
    obtain ⟨b1, N1, T1⟩ := y
    exact four_pre (h b1 N1 T1 rfl) (hf N1 T1)
theorem four_num (least most : Int) (size : Nat) (hs : size % 4 = 0) (N : List Int) (T : List ByteArray) : Four (numL least most size N T) := by
  intro b N' T' e
  cases N with
  | nil => simp [numL] at e
  | cons n N =>
    simp only [numL] at e
    split at e
    · simp only [Except.ok.injEq, Prod.mk.injEq] at e
      obtain ⟨rfl, -, -⟩ := e
      rw [Y.numBytes_length]
      exact hs
    · cases e
theorem four_txt (c : UInt8) (k : Nat) (N : List Int) (T : List ByteArray) : Four (txtL c k N T) := by
  intro b N' T' e
  cases T with
  | nil => simp [txtL] at e
  | cons s T =>
    have h2 := Y.fixedOf_four s
    have h1 : (Y.opaqueOf s).length % 4 = 0 := by
      unfold Y.opaqueOf
      rw [List.length_append, Y.numBytes_length]
      omega
    simp only [txtL] at e
    split at e
    · split at e
      · simp only [Except.ok.injEq, Prod.mk.injEq] at e
        obtain ⟨rfl, -, -⟩ := e
        exact h1
      · cases e
    · split at e
      · simp only [Except.ok.injEq, Prod.mk.injEq] at e
        obtain ⟨rfl, -, -⟩ := e
        exact h2
      · cases e
theorem four_rep {f : List Int → List ByteArray → Lr} (hf : ∀ N T, Four (f N T)) : ∀ (k : Nat) (N : List Int) (T : List ByteArray), Four (repL f k N T)
  | 0, N, T => by
    intro b N' T' e
    simp only [repL, Except.ok.injEq, Prod.mk.injEq] at e
    obtain ⟨rfl, -, -⟩ := e
    rw [Y.numBytes_length]
  | k + 1, N, T => by
    simp only [repL]
    exact four_pre (by rw [Y.numBytes_length]) (four_and (hf N T) fun N' T' => four_rep hf k N' T')
theorem four_err (e : Int) : Four (.error e) := by
  intro b N T h
  cases h
theorem four_ok (N : List Int) (T : List ByteArray) : Four (.ok ([], N, T)) := by
  intro b N' T' h
  simp only [Except.ok.injEq, Prod.mk.injEq] at h
  rw [← h.1]
  rfl
theorem four_one (c : UInt8) (N : List Int) (T : List ByteArray) : Four (oneL c N T) := by
  unfold oneL
  split
  · exact four_num _ _ 4 rfl N T
  · split
    · exact four_num _ _ 8 rfl N T
    · exact four_num _ _ 4 rfl N T
theorem four_ly : ∀ (r : Row) (m : Option Int) (N : List Int) (T : List ByteArray), Four (ly m r N T)
  | .nil, none, N, T => by rw [ly]; exact four_ok N T
  | .one c r, none, N, T => by rw [ly]; exact four_and (four_one c N T) fun N' T' => four_ly r none N' T'
  | .num c k r, none, N, T => by rw [ly]; exact four_and (four_txt c k N T) fun N' T' => four_ly r none N' T'
  | .opt c i r, none, N, T => by
    rw [ly]
    refine four_and ?_ fun N' T' => four_ly r none N' T'
    split
    · unfold maybeL
      refine four_and (four_num _ _ 4 rfl N T) fun N' T' => ?_
      split
      · exact four_ly i none N' T'
      · exact four_ok N' T'
    · unfold timesL
      split
      · exact four_err 4
      · split
        · exact four_rep (fun N' T' => four_ly i none N' T') _ _ T
        · exact four_err 4
  | .ch a r, none, N, T => by
    rw [ly]
    refine four_and ?_ fun N' T' => four_ly r none N' T'
    unfold armL
    exact four_and (four_num _ _ 4 rfl N T) fun N' T' => four_ly a (some _) N' T'
  | .arm k i r, some n, N, T => by
    rw [ly]
    split
    · exact four_ly i none N T
    · exact four_ly r (some n) N T
  | .arm _ _ _, none, N, T => by unfold ly; exact four_err 4
  | .nil, some _, N, T => by unfold ly; exact four_err 4
  | .one _ _, some _, N, T => by unfold ly; exact four_err 4
  | .num _ _ _, some _, N, T => by unfold ly; exact four_err 4
  | .opt _ _ _, some _, N, T => by unfold ly; exact four_err 4
  | .ch _ _, some _, N, T => by unfold ly; exact four_err 4
theorem enc_four {t : List UInt8} {N : List Int} {T : List ByteArray} {b : List UInt8} (h : encO t N T = .ok b) : b.length % 4 = 0 := by
  unfold encO at h
  split at h
  · cases h
  · rename_i r hr
    split at h
    · cases h
    · rename_i b' hl
      split at h
      · cases h
      · simp only [Except.ok.injEq] at h
        subst h
        unfold laidO at hl
        split at hl
        · cases hl
        · rename_i y N' T' hly
          split at hl
          · simp only [Except.ok.injEq] at hl
            subst hl
            exact four_ly r none N T y N' T' hly
          · cases hl
end Go.Proofs.YtihkjgfghjgblaaGreatDoor
