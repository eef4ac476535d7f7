/-
  GetCall, in one contract. No condition.
-/
import Derived.Test.YtkbjimbnbocfpaaGg
namespace Go.Proofs.Ytkbjimbnbocfpaa
open Go.RowKit

/-- What GetCall makes of the bytes. -/
inductive Gco where
  | err (e : Int)
  | ref (xid v lo hi : Int)
  | ok (xid prog vers proc : Int) (unix : Bool) (st : Int) (m : ByteArray) (uid gid : Int) (G : List Int) (args : ByteArray)
def getO (s : ByteArray) : Gco :=
  let a := numR 4 s.data.toList 0
  let b := numR 4 a.2.1 a.2.2
  if 65536 < s.size then .err 2 else if wellR b.2.1 b.2.2 = false then .err 5 else if b.1 ≠ 0 then .err 4 else match takeO b.2.1 with
    | .bad v lo hi => .ref a.1 v lo hi
    | .ok prog vers proc unix st m uid gid G args => .ok a.1 prog vers proc unix st m uid gid G args
/-- No call. -/
abbrev zeroC : Value := .agg #[.int .i64 0, .int .i64 0, .int .i64 0, .int .i64 0, .bool false, .int .i64 0, .string ⟨#[]⟩, .int .i64 0, .int .i64 0, .slice none 0 0, .string ⟨#[]⟩]
def GcTo (w : World) (t : Gco) (r : Ending) (w' : World) : Prop :=
  match t with
  | .err e => r = .returned (.tuple #[zeroC, .string ⟨#[]⟩, .int .i64 e]) ∧ Below w.heap.size w w'
  | .ref xid v lo hi => r = .returned (.tuple #[zeroC, .string (Rp.mk xid v lo hi ⟨#[]⟩).bytes, .int .i64 62]) ∧ Below w.heap.size w w'
  | .ok xid prog vers proc unix st m uid gid G args => ∃ vg, r = .returned (.tuple #[.agg #[.int .i64 xid, .int .i64 prog, .int .i64 vers, .int .i64 proc, .bool unix, .int .i64 st, .string m, .int .i64 uid, .int .i64 gid, vg, .string args], .string ⟨#[]⟩, .int .i64 0]) ∧ w'.ownsRow 0 3 1 vg G.length (ints G) ∧ Below w.heap.size w w'

theorem numR_err (l : List UInt8) (e : Int) (h : e = 0 ∨ e = 5) : (numR 4 l e).2.2 = 0 ∨ (numR 4 l e).2.2 = 5 := by
  unfold numR
  split
  · rcases h with rfl | rfl
    · exact .inr rfl
    · exact .inr rfl
  · exact h

theorem getCall_any (s : ByteArray) (w : World) : Calls Try.prog 14 #[.string s] w (GcTo w (getO s)) := by
  unfold getO
  have e0 := numR_err s.data.toList 0 (.inl rfl)
  generalize h1 : numR 4 s.data.toList 0 = A at e0 ⊢
  obtain ⟨xid, l1, e1⟩ := A
  dsimp only at e0 ⊢
  have e0' := numR_err l1 e1 e0
  generalize h2 : numR 4 l1 e1 = A at e0' ⊢
  obtain ⟨kind, l2, e2⟩ := A
  dsimp only at e0' ⊢
  by_cases q1 : 65536 < s.size
  · rw [if_pos q1]
    exact get_long s w q1
  rw [if_neg q1]
  have hs : s.size ≤ 65536 := by omega
  cases q2 : wellR l2 e2 with
  | false => exact get_short s w hs xid l1 e1 h1 kind l2 e2 h2 q2
  | true =>
  rw [if_neg (by decide)]
  by_cases q3 : kind ≠ 0
  · rw [if_pos q3]
    exact get_form s w hs xid l1 e1 h1 kind l2 e2 h2 q2 q3
  rw [if_neg q3]
  have q3' : kind = 0 := by omega
  subst q3'
  have he : e2 = 0 := by
    rcases e0' with h | h
    · exact h
    · subst h; revert q2; unfold wellR endR; simp
  subst he
  have n1 := numR_len h1
  have n2 := numR_len h2
  have n0 : s.data.toList.length ≤ 65536 := by rw [Array.length_toList]; exact hs
  have ht := fun (p x : Nat) (wx : World) (a : Rd wx p l2 0) (b : wx.cell? ⟨x, 0, none⟩ = some (.int .i64 xid)) (c : x < wx.heap.size) (d : x ≠ p) => takeCall_any p x xid l2 wx a (by omega) b c d
  generalize takeO l2 = T at ht ⊢
  cases T with
  | bad v lo hi => exact get_thrown s w hs xid l1 e1 h1 l2 h2 q2 v lo hi ht
  | ok prog vers proc unix st m uid gid G args => exact get_ok s w hs xid l1 e1 h1 l2 h2 q2 prog vers proc unix st m uid gid G args ht
end Go.Proofs.Ytkbjimbnbocfpaa
