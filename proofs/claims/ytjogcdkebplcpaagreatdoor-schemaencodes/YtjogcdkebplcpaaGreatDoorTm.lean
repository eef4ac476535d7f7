/-
  What the taker takes, as a plain function, and how much that can be. No condition.
-/
import Derived.Test.YtjogcdkebplcpaaGreatDoorMath
import Derived.Test.YtjogcdkebplcpaaGreatDoorXOpen
namespace Go.Proofs.YtjogcdkebplcpaaGreatDoor
open Sch

abbrev Tr := Except Int (List Int × List ByteArray × List UInt8)
def pre (n : List Int) (t : List ByteArray) : Tr → Tr
  | .error e => .error e
  | .ok (n', t', l) => .ok (n ++ n', t ++ t', l)
def andT (x : Tr) (f : List UInt8 → Tr) : Tr :=
  match x with
  | .error e => .error e
  | .ok (n, t, l) => pre n t (f l)
def ofN (x : Int × List UInt8 × Int) : Tr := if x.2.2 = 0 then .ok ([x.1], [], x.2.1) else .error x.2.2
def ofT (x : ByteArray × List UInt8 × Int) : Tr := if x.2.2 = 0 then .ok ([], [x.1], x.2.1) else .error x.2.2
def b2i (b : Bool) : Int := if b then 1 else 0
def boolN (l : List UInt8) : Int × List UInt8 × Int := (b2i (X.boolR l 0).1, (X.boolR l 0).2)
def oneT (c : UInt8) (l : List UInt8) : Tr := ofN (if c = 117 then X.numR 4 l 0 else if c = 113 then X.numR 8 l 0 else boolN l)
def numT (c : UInt8) (n : Nat) (l : List UInt8) : Tr := ofT (if c = 111 then X.opqR n l 0 else X.fixR n l 0)
/-- As often as a Bool tells: how often, and what was taken. -/
def times (f : List UInt8 → Tr) : Nat → List UInt8 → Except Int (Nat × List Int × List ByteArray × List UInt8)
  | 0, _ => .error 0
  | k + 1, l =>
    if (X.boolR l 0).2.2 ≠ 0 then .error (X.boolR l 0).2.2
    else if (X.boolR l 0).1 then
      match f (X.boolR l 0).2.1 with
      | .error e => .error e
      | .ok (n, t, l1) =>
        match times f k l1 with
        | .error e => .error e
        | .ok (j, n', t', l2) => .ok (j + 1, n ++ n', t ++ t', l2)
    else .ok (0, [], [], (X.boolR l 0).2.1)
def timesT (f : List UInt8 → Tr) (l : List UInt8) : Tr :=
  match times f (l.length + 1) l with
  | .error e => .error e
  | .ok (j, n, t, l') => .ok ((j : Int) :: n, t, l')
def maybeT (f : List UInt8 → Tr) (l : List UInt8) : Tr := andT (ofN (boolN l)) fun l1 => if (X.boolR l 0).1 then f l1 else .ok ([], [], l1)
def armT (f : Int → List UInt8 → Tr) (l : List UInt8) : Tr := andT (ofN (X.numR 4 l 0)) fun l1 => f (X.numR 4 l 0).1 l1
/-- A row; or, for a number, the arm of a choice. -/
def tk : Option Int → Row → List UInt8 → Tr
  | none, .nil, l => .ok ([], [], l)
  | none, .one c r, l => andT (oneT c l) (tk none r)
  | none, .num c n r, l => andT (numT c n l) (tk none r)
  | none, .opt c i r, l => andT (if c = 63 then maybeT (tk none i) l else timesT (tk none i) l) (tk none r)
  | none, .ch a r, l => andT (armT (fun n l1 => tk (some n) a l1) l) (tk none r)
  | some n, .arm k i r, l => if k = n ∨ k = -1 then tk none i l else tk (some n) r l
  | _, _, _ => .error 4

theorem pre_nil (x : Tr) : pre [] [] x = x := by
  cases x with
  | error e => rfl
  | ok y => rfl
theorem pre_pre (a b : List Int) (c d : List ByteArray) (x : Tr) : pre a c (pre b d x) = pre (a ++ b) (c ++ d) x := by
  cases x with
  | error e => rfl
  | ok y => obtain ⟨n, t, l⟩ := y; simp [pre]
theorem pre_and (a : List Int) (c : List ByteArray) (x : Tr) (f : List UInt8 → Tr) : pre a c (andT x f) = andT (pre a c x) f := by
  cases x with
  | error e => rfl
  | ok y => obtain ⟨n, t, l⟩ := y; exact pre_pre a n c t (f l)

def Sch.Row.sz : Row → Nat
  | .nil => 0
  | .one _ r => 1 + r.sz
  | .num _ _ r => 1 + r.sz
  | .opt _ i r => 1 + i.sz + r.sz
  | .ch a r => 1 + a.sz + r.sz
  | .arm _ i r => 1 + i.sz + r.sz
/-- At most so many things for so many bytes. -/
def Few (s : Nat) (l : List UInt8) (x : Tr) : Prop := ∀ n t l', x = .ok (n, t, l') → l'.length ≤ l.length ∧ n.length + t.length ≤ s * ((l.length - l'.length) / 4 + 1)
theorem few_and {s s' : Nat} {l : List UInt8} {x : Tr} {f : List UInt8 → Tr} (h : Few s l x) (hf : ∀ l1, l1.length ≤ l.length → Few s' l1 (f l1)) : Few (s + s') l (andT x f) := by
  intro n t l' e
  cases x with
  | error e' => simp [andT] at e
  | ok y =>
    obtain ⟨n1, t1, l1⟩ := y
    obtain ⟨a1, a2⟩ := h n1 t1 l1 rfl
    simp only [andT] at e
    cases hx : f l1 with
    | error e' => rw [hx] at e; simp [pre] at e
    | ok z =>
      obtain ⟨n2, t2, l2⟩ := z
      rw [hx] at e
      simp only [pre, Except.ok.injEq, Prod.mk.injEq] at e
      obtain ⟨rfl, rfl, rfl⟩ := e
      obtain ⟨b1, b2⟩ := hf l1 a1 n2 t2 l2 hx
      refine ⟨by omega, ?_⟩
      simp only [List.length_append]
      have c1 : s * ((l.length - l1.length) / 4 + 1) ≤ s * ((l.length - l2.length) / 4 + 1) := Nat.mul_le_mul_left _ (by omega)
      have c2 : s' * ((l1.length - l2.length) / 4 + 1) ≤ s' * ((l.length - l2.length) / 4 + 1) := Nat.mul_le_mul_left _ (by omega)
      rw [Nat.add_mul]
      omega
theorem few_ofN {l : List UInt8} {x : Int × List UInt8 × Int} (h : x.2.1.length ≤ l.length) : Few 1 l (ofN x) := by
  intro n t l' e
  unfold ofN at e
  split at e
  · simp only [Except.ok.injEq, Prod.mk.injEq] at e
    obtain ⟨rfl, rfl, rfl⟩ := e
    exact ⟨h, by simp⟩
  · cases e
theorem few_ofT {l : List UInt8} {x : ByteArray × List UInt8 × Int} (h : x.2.1.length ≤ l.length) : Few 1 l (ofT x) := by
  intro n t l' e
  unfold ofT at e
  split at e
  · simp only [Except.ok.injEq, Prod.mk.injEq] at e
    obtain ⟨rfl, rfl, rfl⟩ := e
    exact ⟨h, by simp⟩
  · cases e
theorem numR_len (size : Nat) (l : List UInt8) (e : Int) : (X.numR size l e).2.1.length ≤ l.length := (X.numR_le size l e).2
theorem boolR_len (l : List UInt8) : (X.boolR l 0).2.1.length ≤ l.length := by
  unfold X.boolR
  split
  · simp
  · exact numR_len 4 l 0
theorem boolR_four {l : List UInt8} (h : (X.boolR l 0).2.2 = 0) : (X.boolR l 0).2.1.length + 4 ≤ l.length := by
  unfold X.boolR X.numR at h ⊢
  by_cases hl : l.length < 4
  · simp only [if_pos hl] at h ⊢
    simp [X.failE] at h
  · simp only [if_neg hl] at h ⊢
    split at h
    · simp [X.failE] at h
    · rename_i hn
      rw [if_neg hn]
      simp
      omega
theorem fixR_len (n : Int) (l : List UInt8) (e : Int) : (X.fixR n l e).2.1.length ≤ l.length := by
  unfold X.fixR
  split
  · simp
  · split
    · simp
    · split <;> simp
theorem opqR_len (n : Int) (l : List UInt8) (e : Int) : (X.opqR n l e).2.1.length ≤ l.length := by
  unfold X.opqR
  by_cases h : (if n < 0 then 0 else n) < (X.numR 4 l e).1
  · rw [if_pos h]; simp
  · rw [if_neg h]; exact Nat.le_trans (fixR_len _ _ _) (numR_len 4 l e)
theorem few_times {s : Nat} {f : List UInt8 → Tr} (hf : ∀ l, Few s l (f l)) : ∀ (k : Nat) (l : List UInt8) j n t l', times f k l = .ok (j, n, t, l') → l'.length ≤ l.length ∧ n.length + t.length ≤ s * ((l.length - l'.length) / 4)
  | 0, _, _, _, _, _, e => by simp [times] at e
  | k + 1, l, j, n, t, l', e => by
    unfold times at e
    split at e
    · cases e
    · rename_i h0
      have h0' : (X.boolR l 0).2.2 = 0 := by simpa using h0
      have h4 := boolR_four h0'
      split at e
      · cases hx : f (X.boolR l 0).2.1 with
        | error e' => rw [hx] at e; simp at e
        | ok y =>
          obtain ⟨n1, t1, l1⟩ := y
          rw [hx] at e
          dsimp only at e
          cases hy : times f k l1 with
          | error e' => rw [hy] at e; simp at e
          | ok z =>
            obtain ⟨j2, n2, t2, l2⟩ := z
            rw [hy] at e
            simp only [Except.ok.injEq, Prod.mk.injEq] at e
            obtain ⟨_, rfl, rfl, rfl⟩ := e
            obtain ⟨a1, a2⟩ := hf _ n1 t1 l1 hx
            obtain ⟨b1, b2⟩ := few_times hf k l1 j2 n2 t2 l2 hy
            refine ⟨by omega, ?_⟩
            simp only [List.length_append]
            have c : s * (((X.boolR l 0).2.1.length - l1.length) / 4 + 1) + s * ((l1.length - l2.length) / 4) ≤ s * ((l.length - l2.length) / 4) := by
              rw [← Nat.mul_add]
              exact Nat.mul_le_mul_left _ (by omega)
            omega
      · simp only [Except.ok.injEq, Prod.mk.injEq] at e
        obtain ⟨_, rfl, rfl, rfl⟩ := e
        exact ⟨by omega, by simp⟩
theorem few_tk : ∀ (r : Row) (m : Option Int) (l : List UInt8), Few r.sz l (tk m r l)
  | .nil, none, l => fun n t l' e => by
    simp only [tk, Except.ok.injEq, Prod.mk.injEq] at e
    obtain ⟨rfl, rfl, rfl⟩ := e
    exact ⟨Nat.le_refl _, by simp⟩
  | .one c r, none, l => by
    simp only [tk, Sch.Row.sz]
    refine few_and ?_ fun l1 _ => few_tk r none l1
    refine few_ofN ?_
    split
    · exact numR_len 4 l 0
    · split
      · exact numR_len 8 l 0
      · exact boolR_len l
  | .num c k r, none, l => by
    simp only [tk, Sch.Row.sz]
    refine few_and ?_ fun l1 _ => few_tk r none l1
    refine few_ofT ?_
    split
    · exact opqR_len _ l 0
    · exact fixR_len _ l 0
  | .opt c i r, none, l => by
    simp only [tk, Sch.Row.sz]
    refine few_and ?_ fun l1 _ => few_tk r none l1
    split
    · refine few_and (few_ofN (boolR_len l)) fun l1 _ => ?_
      split
      · exact few_tk i none l1
      · intro n t l' e
        simp only [Except.ok.injEq, Prod.mk.injEq] at e
        obtain ⟨rfl, rfl, rfl⟩ := e
        exact ⟨Nat.le_refl _, by simp⟩
    · intro n t l' e
      unfold timesT at e
      split at e
      · cases e
      · rename_i j n1 t1 l1 hx
        simp only [Except.ok.injEq, Prod.mk.injEq] at e
        obtain ⟨rfl, rfl, rfl⟩ := e
        obtain ⟨a1, a2⟩ := few_times (fun l => few_tk i none l) _ l _ _ _ _ hx
        refine ⟨a1, ?_⟩
        simp only [List.length_cons]
        have c1 : i.sz * ((l.length - l1.length) / 4) ≤ i.sz * ((l.length - l1.length) / 4 + 1) := Nat.mul_le_mul_left _ (by omega)
        rw [Nat.add_mul]
        omega
  | .ch a r, none, l => by
    simp only [tk, Sch.Row.sz]
    refine few_and ?_ fun l1 _ => few_tk r none l1
    exact few_and (few_ofN (numR_len 4 l 0)) fun l1 _ => few_tk a (some _) l1
  | .arm k i r, some n, l => by
    simp only [tk, Sch.Row.sz]
    intro n' t l' e
    split at e
    · obtain ⟨a1, a2⟩ := few_tk i none l n' t l' e
      refine ⟨a1, Nat.le_trans a2 (Nat.mul_le_mul_right _ (by omega))⟩
    · obtain ⟨a1, a2⟩ := few_tk r (some n) l n' t l' e
      refine ⟨a1, Nat.le_trans a2 (Nat.mul_le_mul_right _ (by omega))⟩
  | .arm _ _ _, none, _ => fun _ _ _ e => by simp [tk] at e
  | .nil, some _, _ => fun _ _ _ e => by simp [tk] at e
  | .one _ _, some _, _ => fun _ _ _ e => by simp [tk] at e
  | .num _ _ _, some _, _ => fun _ _ _ e => by simp [tk] at e
  | .opt _ _ _, some _, _ => fun _ _ _ e => by simp [tk] at e
  | .ch _ _, some _, _ => fun _ _ _ e => by simp [tk] at e
end Go.Proofs.YtjogcdkebplcpaaGreatDoor
