/-
  What the layer lays out, as a plain function, and how much that can be. No condition.
-/
import Derived.Test.YtjogcdkebplcpaaGreatDoorTn
import Derived.Test.YtjogcdkebplcpaaGreatDoorYPut
namespace Go.Proofs.YtjogcdkebplcpaaGreatDoor
open Sch
/-- The bytes that were put, the numbers and the texts that are left. -/
abbrev Lr := Except Int (List UInt8 × List Int × List ByteArray)
def preL (b : List UInt8) : Lr → Lr
  | .error e => .error e
  | .ok (b', N, T) => .ok (b ++ b', N, T)
def andL (x : Lr) (f : List Int → List ByteArray → Lr) : Lr :=
  match x with
  | .error e => .error e
  | .ok (b, N, T) => preL b (f N T)
def numL (least most : Int) (size : Nat) : List Int → List ByteArray → Lr
  | [], _ => .error 4
  | n :: N, T => if least ≤ n ∧ n ≤ most then .ok (Y.numBytes n size, N, T) else .error 4
def oneL (c : UInt8) (N : List Int) (T : List ByteArray) : Lr :=
  if c = 117 then numL 0 4294967295 4 N T else if c = 113 then numL (-9223372036854775808) 9223372036854775807 8 N T else numL 0 1 4 N T
def txtL (c : UInt8) (k : Nat) (N : List Int) : List ByteArray → Lr
  | [] => .error 4
  | s :: T => if c = 111 then (if s.size ≤ k then .ok (Y.opaqueOf s, N, T) else .error 4) else (if s.size = k then .ok (Y.fixedOf s, N, T) else .error 4)
/-- So often a 1 and the row, then a 0. -/
def repL (f : List Int → List ByteArray → Lr) : Nat → List Int → List ByteArray → Lr
  | 0, N, T => .ok (Y.numBytes 0 4, N, T)
  | k + 1, N, T => preL (Y.numBytes 1 4) (andL (f N T) (repL f k))
def timesL (f : List Int → List ByteArray → Lr) : List Int → List ByteArray → Lr
  | [], _ => .error 4
  | n :: N, T => if 0 ≤ n ∧ n ≤ 9223372036854775807 then repL f n.toNat N T else .error 4
def maybeL (f : List Int → List ByteArray → Lr) (N : List Int) (T : List ByteArray) : Lr :=
  andL (numL 0 1 4 N T) fun N' T' => if N.head? = some 1 then f N' T' else .ok ([], N', T')
def armL (f : Int → List Int → List ByteArray → Lr) (N : List Int) (T : List ByteArray) : Lr :=
  andL (numL 0 4294967295 4 N T) fun N' T' => f (N.headD 0) N' T'
def ly : Option Int → Row → List Int → List ByteArray → Lr
  | none, .nil, N, T => .ok ([], N, T)
  | none, .one c r, N, T => andL (oneL c N T) (ly none r)
  | none, .num c k r, N, T => andL (txtL c k N T) (ly none r)
  | none, .opt c i r, N, T => andL (if c = 63 then maybeL (ly none i) N T else timesL (ly none i) N T) (ly none r)
  | none, .ch a r, N, T => andL (armL (fun n N' T' => ly (some n) a N' T') N T) (ly none r)
  | some n, .arm k i r, N, T => if k = n ∨ k = -1 then ly none i N T else ly (some n) r N T
  | _, _, _, _ => .error 4
theorem preL_nil (x : Lr) : preL [] x = x := by
  cases x with
  | error e => rfl
  | ok y => rfl
theorem preL_preL (a b : List UInt8) (x : Lr) : preL a (preL b x) = preL (a ++ b) x := by
  cases x with
  | error e => rfl
  | ok y => obtain ⟨c, N, T⟩ := y; simp [preL]
theorem ly_some (n : Int) (N : List Int) (T : List ByteArray) : ∀ a : Row, ly (some n) a N T = match pick n a with | none => .error 4 | some i => ly none i N T
  | .nil => by simp [ly, pick]
  | .one _ _ => by simp [ly, pick]
  | .num _ _ _ => by simp [ly, pick]
  | .opt _ _ _ => by simp [ly, pick]
  | .ch _ _ => by simp [ly, pick]
  | .arm k i r => by
    simp only [ly, pick]
    by_cases h : k = n ∨ k = -1
    · rw [if_pos h, if_pos h]
    · rw [if_neg h, if_neg h]; exact ly_some n N T r
/-- What a list of things is worth: more than the bytes that any of them becomes. -/
def worth (N : List Int) (T : List ByteArray) : Nat := 100100 * (N.length + T.length)
/-- What was put is worth less than what it was put for. -/
def Cheap (d : Nat) (N : List Int) (T : List ByteArray) (x : Lr) : Prop := ∀ b N' T', x = .ok (b, N', T') → b.length + worth N' T' + d ≤ worth N T
theorem cheap_and {d d' : Nat} {N : List Int} {T : List ByteArray} {x : Lr} {f : List Int → List ByteArray → Lr} (h : Cheap d N T x) (hf : ∀ N' T', Cheap d' N' T' (f N' T')) : Cheap (d + d') N T (andL x f) := by
  intro b N' T' e
  cases x with
  | error e' => simp [andL] at e
  | ok y =>
    obtain ⟨b1, N1, T1⟩ := y
    have h1 := h b1 N1 T1 rfl
    simp only [andL] at e
    cases hx : f N1 T1 with
    | error e' => rw [hx] at e; simp [preL] at e
    | ok z =>
      obtain ⟨b2, N2, T2⟩ := z
      rw [hx] at e
      simp only [preL, Except.ok.injEq, Prod.mk.injEq] at e
      obtain ⟨rfl, rfl, rfl⟩ := e
      have h2 := hf N1 T1 b2 N2 T2 hx
      rw [List.length_append]
      omega
theorem cheap_num (least most : Int) (size : Nat) (hs : size ≤ 8) (N : List Int) (T : List ByteArray) : Cheap 88 N T (numL least most size N T) := by
  intro b N' T' e
  cases N with
  | nil => simp [numL] at e
  | cons n N =>
    simp only [numL] at e
    split at e
    · simp only [Except.ok.injEq, Prod.mk.injEq] at e
      obtain ⟨rfl, rfl, rfl⟩ := e
      have : (Y.numBytes n size).length = size := by simp [Y.numBytes, Y.numTo_length]
      simp only [worth, List.length_cons, this]
      omega
    · cases e
theorem cheap_txt (c : UInt8) (k : Nat) (hk : k ≤ 99999) (N : List Int) (T : List ByteArray) : Cheap 88 N T (txtL c k N T) := by
  intro b N' T' e
  cases T with
  | nil => simp [txtL] at e
  | cons s T =>
    have h1 := Y.opaqueOf_length s
    have h2 := Y.fixedOf_length s
    have h3 := Y.pad_lt s.size
    simp only [txtL] at e
    split at e
    · split at e
      · simp only [Except.ok.injEq, Prod.mk.injEq] at e
        obtain ⟨rfl, rfl, rfl⟩ := e
        simp only [worth, List.length_cons]
        omega
      · cases e
    · split at e
      · simp only [Except.ok.injEq, Prod.mk.injEq] at e
        obtain ⟨rfl, rfl, rfl⟩ := e
        simp only [worth, List.length_cons]
        omega
      · cases e
/-- In it nothing is counted that isn't there. -/
def fullR : Row → Prop
  | .nil => True
  | .one _ r => fullR r
  | .num _ _ r => fullR r
  | .opt c i r => (c ≠ 63 → i.empty = false) ∧ fullR i ∧ fullR r
  | .ch a r => fullR a ∧ fullR r
  | .arm _ i r => fullR i ∧ fullR r
theorem rep_cheap {f : List Int → List ByteArray → Lr} (hf : ∀ N T, Cheap 88 N T (f N T)) : ∀ (k : Nat) (N : List Int) (T : List ByteArray) b N' T', repL f k N T = .ok (b, N', T') → b.length + worth N' T' ≤ worth N T + 4
  | 0, N, T, b, N', T', e => by
    simp only [repL, Except.ok.injEq, Prod.mk.injEq] at e
    obtain ⟨rfl, rfl, rfl⟩ := e
    rw [Y.numBytes_length]
    omega
  | k + 1, N, T, b, N', T', e => by
    simp only [repL] at e
    cases hx : f N T with
    | error e' => rw [hx] at e; simp [andL, preL] at e
    | ok y =>
      obtain ⟨b1, N1, T1⟩ := y
      have h1 := hf N T b1 N1 T1 hx
      rw [hx] at e
      simp only [andL] at e
      cases hy : repL f k N1 T1 with
      | error e' => rw [hy] at e; simp [preL] at e
      | ok z =>
        obtain ⟨b2, N2, T2⟩ := z
        have h2 := rep_cheap hf k N1 T1 b2 N2 T2 hy
        rw [hy] at e
        simp only [preL, Except.ok.injEq, Prod.mk.injEq] at e
        obtain ⟨rfl, rfl, rfl⟩ := e
        rw [List.length_append, List.length_append, Y.numBytes_length]
        omega
theorem Cheap.less {d d' : Nat} {N : List Int} {T : List ByteArray} {x : Lr} (h : Cheap d N T x) (hd : d' ≤ d) : Cheap d' N T x := fun b N' T' e => by have := h b N' T' e; omega
theorem cheap_ly : ∀ (r : Row) (m : Option Int) (b : Bool), wf b r → fullR r → ∀ (N : List Int) (T : List ByteArray), Cheap (if m = none ∧ r.empty = false then 88 else 0) N T (ly m r N T)
  | .nil, none, _, _, _, N, T => fun b N' T' e => by
    simp only [ly, Except.ok.injEq, Prod.mk.injEq] at e
    obtain ⟨rfl, rfl, rfl⟩ := e
    simp [Row.empty]
  | .one c r, none, true, hw, hf, N, T => by
    refine Cheap.less (d := 88 + 0) (cheap_and ?_ fun N' T' => (cheap_ly r none true hw.2 hf N' T').less (Nat.zero_le _)) (by split <;> omega)
    unfold oneL
    split
    · exact cheap_num _ _ 4 (by omega) N T
    · split
      · exact cheap_num _ _ 8 (by omega) N T
      · exact cheap_num _ _ 4 (by omega) N T
  | .num c k r, none, true, hw, hf, N, T => by
    refine Cheap.less (d := 88 + 0) (cheap_and (cheap_txt c k hw.2.1 N T) fun N' T' => (cheap_ly r none true hw.2.2 hf N' T').less (Nat.zero_le _)) (by split <;> omega)
  | .opt c i r, none, true, hw, hf, N, T => by
    refine Cheap.less (d := 88 + 0) (cheap_and ?_ fun N' T' => (cheap_ly r none true hw.2.2 hf.2.2 N' T').less (Nat.zero_le _)) (by split <;> omega)
    by_cases hc : c = 63
    · simp only [if_pos hc]
      refine Cheap.less (d := 88 + 0) (cheap_and (cheap_num _ _ 4 (by omega) N T) fun N' T' => ?_) (by omega)
      split
      · exact (cheap_ly i none true hw.2.1 hf.2.1 N' T').less (Nat.zero_le _)
      · intro b N1 T1 e
        simp only [Except.ok.injEq, Prod.mk.injEq] at e
        obtain ⟨rfl, rfl, rfl⟩ := e
        simp
    · simp only [if_neg hc]
      have hi : ∀ N T, Cheap 88 N T (ly none i N T) := fun N T => by
        have := cheap_ly i none true hw.2.1 hf.2.1 N T
        rwa [if_pos ⟨rfl, hf.1 hc⟩] at this
      intro b N' T' e
      cases N with
      | nil => simp [timesL] at e
      | cons n N =>
        simp only [timesL] at e
        split at e
        · have := rep_cheap hi _ N T b N' T' e
          simp only [worth, List.length_cons] at this ⊢
          omega
        · cases e
  | .ch a r, none, true, hw, hf, N, T => by
    refine Cheap.less (d := 88 + 0) (cheap_and ?_ fun N' T' => (cheap_ly r none true hw.2 hf.2 N' T').less (Nat.zero_le _)) (by split <;> omega)
    exact Cheap.less (d := 88 + 0) (cheap_and (cheap_num _ _ 4 (by omega) N T) fun N' T' => (cheap_ly a (some _) false hw.1 hf.1 N' T').less (Nat.zero_le _)) (by omega)
  | .arm k i r, some n, false, hw, hf, N, T => by
    rw [if_neg (by simp)]
    simp only [ly]
    split
    · exact (cheap_ly i none true hw.1 hf.1 N T).less (Nat.zero_le _)
    · have := cheap_ly r (some n) false hw.2 hf.2 N T
      exact this.less (Nat.zero_le _)
  | .arm _ _ _, none, _, _, _, _, _ => fun _ _ _ e => by simp [ly] at e
  | .nil, some _, _, _, _, _, _ => fun _ _ _ e => by simp [ly] at e
  | .one _ _, some _, _, _, _, _, _ => fun _ _ _ e => by simp [ly] at e
  | .num _ _ _, some _, _, _, _, _, _ => fun _ _ _ e => by simp [ly] at e
  | .opt _ _ _, some _, _, _, _, _, _ => fun _ _ _ e => by simp [ly] at e
  | .ch _ _, some _, _, _, _, _, _ => fun _ _ _ e => by simp [ly] at e
  | .one _ _, none, false, hw, _, _, _ => absurd hw (by simp [wf])
  | .num _ _ _, none, false, hw, _, _, _ => absurd hw (by simp [wf])
  | .opt _ _ _, none, false, hw, _, _, _ => absurd hw (by simp [wf])
  | .ch _ _, none, false, hw, _, _, _ => absurd hw (by simp [wf])
  | .arm _ _ _, some _, true, hw, _, _, _ => absurd hw (by simp [wf])
end Go.Proofs.YtjogcdkebplcpaaGreatDoor
