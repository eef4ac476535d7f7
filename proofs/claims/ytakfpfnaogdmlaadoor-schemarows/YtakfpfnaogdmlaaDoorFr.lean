/-
  What stands behind what is laid out stays, and two rows behind one another lay out what each does, plain. No condition.
-/
import Derived.Test.YtakfpfnaogdmlaaDoorEn
namespace Go.Proofs.YtakfpfnaogdmlaaDoor
open Go.RowKit Sch
/-- What f lays out, it lays out whatever stands behind. -/
def Frm (f : List Int → List ByteArray → Lr) : Prop := ∀ N T b N' T' X Z, f N T = .ok (b, N', T') → f (N ++ X) (T ++ Z) = .ok (b, N' ++ X, T' ++ Z)
theorem preL_ok {p : List UInt8} {x : Lr} {b : List UInt8} {N : List Int} {T : List ByteArray} (h : preL p x = .ok (b, N, T)) : ∃ b', x = .ok (b', N, T) ∧ b = p ++ b' := by
  cases x with
  | error e => simp [preL] at h
  | ok y =>
    obtain ⟨b1, N1, T1⟩ := y
    simp only [preL, Except.ok.injEq, Prod.mk.injEq] at h
    obtain ⟨rfl, rfl, rfl⟩ := h
    exact ⟨b1, rfl, rfl⟩
theorem andL_ok {x : Lr} {f : List Int → List ByteArray → Lr} {b : List UInt8} {N : List Int} {T : List ByteArray} (h : andL x f = .ok (b, N, T)) : ∃ b1 N1 T1 b2, x = .ok (b1, N1, T1) ∧ f N1 T1 = .ok (b2, N, T) ∧ b = b1 ++ b2 := by
  cases x with
  | error e => simp [andL] at h
  | ok y =>
    obtain ⟨b1, N1, T1⟩ := y
    simp only [andL] at h
    obtain ⟨b2, h2, h3⟩ := preL_ok h
    exact ⟨b1, N1, T1, b2, rfl, h2, h3⟩
theorem frm_and {f f' : List Int → List ByteArray → Lr} (h : Frm f) (h' : Frm f') : Frm (fun N T => andL (f N T) f') := by
  intro N T b N' T' X Z e
  obtain ⟨b1, N1, T1, b2, e1, e2, rfl⟩ := andL_ok e
  simp only [h N T b1 N1 T1 X Z e1, andL, h' N1 T1 b2 N' T' X Z e2, preL]
theorem frm_num (least most : Int) (size : Nat) : Frm (numL least most size) := by
  intro N T b N' T' X Z e
  cases N with
  | nil => simp [numL] at e
  | cons n N =>
    simp only [numL] at e
    simp only [List.cons_append, numL]
    split at e
    · rename_i h
      simp only [Except.ok.injEq, Prod.mk.injEq] at e
      obtain ⟨rfl, rfl, rfl⟩ := e
      rw [if_pos h]
    · cases e
theorem frm_one (c : UInt8) : Frm (oneL c) := by
  intro N T b N' T' X Z e
  unfold oneL at e ⊢
  split at e
  · rename_i h; rw [if_pos h]; exact frm_num _ _ _ N T b N' T' X Z e
  · rename_i h
    rw [if_neg h]
    split at e
    · rename_i h; rw [if_pos h]; exact frm_num _ _ _ N T b N' T' X Z e
    · rename_i h; rw [if_neg h]; exact frm_num _ _ _ N T b N' T' X Z e
theorem frm_txt (c : UInt8) (k : Nat) : Frm (txtL c k) := by
  intro N T b N' T' X Z e
  cases T with
  | nil => simp [txtL] at e
  | cons s T =>
    simp only [txtL] at e
    simp only [List.cons_append, txtL]
    split at e
    · rename_i h
      rw [if_pos h]
      split at e
      · rename_i h
        rw [if_pos h]
        simp only [Except.ok.injEq, Prod.mk.injEq] at e
        obtain ⟨rfl, rfl, rfl⟩ := e
        rfl
      · cases e
    · rename_i h
      rw [if_neg h]
      split at e
      · rename_i h
        rw [if_pos h]
        simp only [Except.ok.injEq, Prod.mk.injEq] at e
        obtain ⟨rfl, rfl, rfl⟩ := e
        rfl
      · cases e
theorem frm_rep {f : List Int → List ByteArray → Lr} (h : Frm f) : ∀ k : Nat, Frm (repL f k)
  | 0 => by
    intro N T b N' T' X Z e
    simp only [repL, Except.ok.injEq, Prod.mk.injEq] at e ⊢
    obtain ⟨rfl, rfl, rfl⟩ := e
    exact ⟨rfl, rfl, rfl⟩
  | k + 1 => by
    intro N T b N' T' X Z e
    simp only [repL] at e ⊢
    obtain ⟨b', e1, rfl⟩ := preL_ok e
    have e2 : andL (f (N ++ X) (T ++ Z)) (repL f k) = .ok (b', N' ++ X, T' ++ Z) := frm_and h (frm_rep h k) N T b' N' T' X Z e1
    rw [e2]
    rfl
theorem frm_times {f : List Int → List ByteArray → Lr} (h : Frm f) : Frm (timesL f) := by
  intro N T b N' T' X Z e
  cases N with
  | nil => simp [timesL] at e
  | cons n N =>
    simp only [timesL] at e
    simp only [List.cons_append, timesL]
    split at e
    · rename_i hn
      rw [if_pos hn]
      exact frm_rep h _ N T b N' T' X Z e
    · cases e
theorem frm_maybe {f : List Int → List ByteArray → Lr} (h : Frm f) : Frm (maybeL f) := by
  intro N T b N' T' X Z e
  cases N with
  | nil => simp [maybeL, numL, andL] at e
  | cons n N =>
    unfold maybeL at e ⊢
    obtain ⟨b1, N1, T1, b2, e1, e2, rfl⟩ := andL_ok e
    rw [frm_num _ _ _ (n :: N) T b1 N1 T1 X Z e1]
    show preL b1 (if ((n :: N) ++ X).head? = some 1 then f (N1 ++ X) (T1 ++ Z) else .ok ([], N1 ++ X, T1 ++ Z)) = _
    by_cases hh : (n :: N).head? = some (1 : Int)
    · rw [if_pos hh] at e2
      rw [if_pos (show ((n :: N) ++ X).head? = some 1 from hh), h N1 T1 b2 N' T' X Z e2]
      rfl
    · rw [if_neg hh] at e2
      rw [if_neg (show ¬((n :: N) ++ X).head? = some 1 from hh)]
      simp only [Except.ok.injEq, Prod.mk.injEq] at e2
      obtain ⟨rfl, rfl, rfl⟩ := e2
      rfl
theorem frm_arm {f : Int → List Int → List ByteArray → Lr} (h : ∀ n, Frm (f n)) : Frm (armL f) := by
  intro N T b N' T' X Z e
  cases N with
  | nil => simp [armL, numL, andL] at e
  | cons n N =>
    unfold armL at e ⊢
    obtain ⟨b1, N1, T1, b2, e1, e2, rfl⟩ := andL_ok e
    rw [frm_num _ _ _ (n :: N) T b1 N1 T1 X Z e1]
    simp only [List.cons_append, List.headD_cons] at e2 ⊢
    simp only [andL]
    rw [h n N1 T1 b2 N' T' X Z e2]
    rfl
theorem frm_ly : ∀ (r : Row) (m : Option Int), Frm (ly m r)
  | .nil, none => by
    intro N T b N' T' X Z e
    simp only [ly, Except.ok.injEq, Prod.mk.injEq] at e ⊢
    obtain ⟨rfl, rfl, rfl⟩ := e
    exact ⟨rfl, rfl, rfl⟩
  | .one c r, none => by
    intro N T b N' T' X Z e
    rw [ly] at e ⊢
    exact frm_and (frm_one c) (frm_ly r none) N T b N' T' X Z e
  | .num c k r, none => by
    intro N T b N' T' X Z e
    rw [ly] at e ⊢
    exact frm_and (frm_txt c k) (frm_ly r none) N T b N' T' X Z e
  | .opt c i r, none => by
    intro N T b N' T' X Z e
    rw [ly] at e ⊢
    by_cases hc : c = 63
    · rw [if_pos hc] at e ⊢
      exact frm_and (frm_maybe (frm_ly i none)) (frm_ly r none) N T b N' T' X Z e
    · rw [if_neg hc] at e ⊢
      exact frm_and (frm_times (frm_ly i none)) (frm_ly r none) N T b N' T' X Z e
  | .ch a r, none => by
    intro N T b N' T' X Z e
    rw [ly] at e ⊢
    exact frm_and (frm_arm fun n => frm_ly a (some n)) (frm_ly r none) N T b N' T' X Z e
  | .arm k i r, some n => by
    intro N T b N' T' X Z e
    rw [ly] at e ⊢
    split at e
    · rename_i h; rw [if_pos h]; exact frm_ly i none N T b N' T' X Z e
    · rename_i h; rw [if_neg h]; exact frm_ly r (some n) N T b N' T' X Z e
  | .arm _ _ _, none => by intro N T b N' T' X Z e; unfold ly at e; cases e
  | .nil, some _ => by intro N T b N' T' X Z e; unfold ly at e; cases e
  | .one _ _, some _ => by intro N T b N' T' X Z e; unfold ly at e; cases e
  | .num _ _ _, some _ => by intro N T b N' T' X Z e; unfold ly at e; cases e
  | .opt _ _ _, some _ => by intro N T b N' T' X Z e; unfold ly at e; cases e
  | .ch _ _, some _ => by intro N T b N' T' X Z e; unfold ly at e; cases e
theorem andL_assoc (x : Lr) (f g : List Int → List ByteArray → Lr) : andL (andL x f) g = andL x fun N T => andL (f N T) g := by
  cases x with
  | error e => rfl
  | ok y =>
    obtain ⟨b, N, T⟩ := y
    simp only [andL]
    cases hf : f N T with
    | error e => rfl
    | ok z =>
      obtain ⟨b2, N2, T2⟩ := z
      simp only [preL]
      cases g N2 T2 with
      | error e => rfl
      | ok y => obtain ⟨b3, N3, T3⟩ := y; simp
/-- A row of signs alone: no arm stands in it. -/
def noArm : Row → Prop
  | .nil => True
  | .one _ r => noArm r
  | .num _ _ r => noArm r
  | .opt _ _ r => noArm r
  | .ch _ r => noArm r
  | .arm _ _ _ => False
theorem ly_app : ∀ (r x : Row), noArm r → ∀ (N : List Int) (T : List ByteArray), ly none (r.app x) N T = andL (ly none r N T) (ly none x)
  | .nil, x, _, N, T => by simp only [Row.app, ly, andL, preL_nil]
  | .one c r, x, h, N, T => by
    rw [Row.app, ly, ly, andL_assoc]
    congr 1
    funext N' T'
    exact ly_app r x h N' T'
  | .num c k r, x, h, N, T => by
    rw [Row.app, ly, ly, andL_assoc]
    congr 1
    funext N' T'
    exact ly_app r x h N' T'
  | .opt c i r, x, h, N, T => by
    rw [Row.app, ly, ly, andL_assoc]
    congr 1
    funext N' T'
    exact ly_app r x h N' T'
  | .ch a r, x, h, N, T => by
    rw [Row.app, ly, ly, andL_assoc]
    congr 1
    funext N' T'
    exact ly_app r x h N' T'
  | .arm _ _ _, _, h, _, _ => h.elim
end Go.Proofs.YtakfpfnaogdmlaaDoor
