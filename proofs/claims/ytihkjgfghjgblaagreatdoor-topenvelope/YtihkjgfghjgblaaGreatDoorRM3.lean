/-
  Several texts in one (RGg, RGh, RTr, RSk, RCt, RAp, RRf, RGm, RIv, RPu, RPv, RFw, RPb, RAa): contracts of package rpc and what they stand on. Their conditions: as each says.
-/
import Derived.Test.YtihkjgfghjgblaaGreatDoorRM2
import Derived.Test.YtihkjgfghjgblaaGreatDoorRM1
import Derived.Deep.DeepCutAuto
import Derived.Deep.QuietTactic
import Derived.BigQuiet
import Derived.WalkSmall
import Derived.Deep.AppendSrc
import Derived.Deep.OwnRows
import Derived.OwnWalk
namespace Go.Proofs.YtihkjgfghjgblaaGreatDoor.R
open Go.RowKit

/-- What takeCall makes of the bytes. -/
inductive Tc where
  | bad (v lo hi : Int)
  | ok (prog vers proc : Int) (unix : Bool) (st : Int) (m : ByteArray) (uid gid : Int) (G : List Int) (args : ByteArray)

/-- Behind the credential: the verifier and the arguments. -/
def tailO (l : List UInt8) (e : Int) (f : ByteArray → Tc) : Tc :=
  if wellR (opqR 0 (numR 4 l e).2.1 (numR 4 l e).2.2).2.1 (opqR 0 (numR 4 l e).2.1 (numR 4 l e).2.2).2.2 = false then .bad 7 3 0
  else if (numR 4 l e).1 ≠ 0 then .bad 7 3 0
  else if (opqR 0 (numR 4 l e).2.1 (numR 4 l e).2.2).2.1.length % 4 ≠ 0 then .bad 7 3 0
  else f (fixR (opqR 0 (numR 4 l e).2.1 (numR 4 l e).2.2).2.1.length (opqR 0 (numR 4 l e).2.1 (numR 4 l e).2.2).2.1 (opqR 0 (numR 4 l e).2.1 (numR 4 l e).2.2).2.2).1

theorem numR_nat (l : List UInt8) (e : Int) : 0 ≤ (numR 4 l e).1 := by
  unfold numR
  split
  · simp
  · rename_i h
    match l, h with
    | a :: b :: c :: d :: t, _ =>
      have ha := a.toNat_lt
      have hb := b.toNat_lt
      have hc := c.toNat_lt
      have hd := d.toNat_lt
      have hbe : be (List.take 4 (a :: b :: c :: d :: t)) = 256 * (256 * (256 * (256 * 0 + a.toNat) + b.toNat) + c.toNat) + d.toNat := rfl
      show 0 ≤ IntKind.i64.wrap _
      rw [hbe, IntWalk.i64_in _ (by omega)]
      omega
    | [], h => simp at h
    | [_], h => simp at h
    | [_, _], h => simp at h
    | [_, _, _], h => simp at h

/-- AUTH_SYS's body. -/
def unixO (s : ByteArray) : Option (Int × ByteArray × Int × Int × List Int) :=
  let a := numR 4 s.data.toList 0
  let b := opqR 255 a.2.1 a.2.2
  let c := numR 4 b.2.1 b.2.2
  let d := numR 4 c.2.1 c.2.2
  let k := numR 4 d.2.1 d.2.2
  let g := grpR k.2.1 k.2.2 k.1.toNat
  if (decide (k.1.toNat ≤ 16) && (endR g.2.1 g.2.2 == 0)) = true then some (a.1, b.1, c.1, d.1, g.1) else none
/-- What takeCall answers. -/
def takeO (l : List UInt8) : Tc :=
  let a := numR 4 l 0
  let b := numR 4 a.2.1 a.2.2
  let c := numR 4 b.2.1 b.2.2
  let d := numR 4 c.2.1 c.2.2
  let f := numR 4 d.2.1 d.2.2
  let y := opqR 400 f.2.1 f.2.2
  if a.1 ≠ 2 then .bad 6 2 2 else if wellR d.2.1 d.2.2 = false then .bad 4 0 0 else if wellR y.2.1 y.2.2 = false then .bad 7 1 0 else if 1 < f.1 then .bad 7 5 0
  else if f.1 = 1 then (match unixO y.1 with
    | none => .bad 7 1 0
    | some (st, m, uid, gid, G) => tailO y.2.1 y.2.2 (.ok b.1 c.1 d.1 true st m uid gid G))
  else if y.1.toList.isEmpty = false then .bad 7 1 0
  else tailO y.2.1 y.2.2 (.ok b.1 c.1 d.1 false 0 ⟨#[]⟩ 0 0 [])
/-- An answer of takeCall. -/
def TcTo (p : Nat) (xid : Int) (w : World) (t : Tc) (r : Ending) (w' : World) : Prop :=
  match t with
  | .bad v lo hi => r = Thrown xid v lo hi ∧ Fq p w w'
  | .ok prog vers proc unix st m uid gid G args => TkTo p prog vers proc unix st m uid gid G args w r w'

set_option maxHeartbeats 1000000 in
theorem takeCall_any (p x : Nat) (xid : Int) (l : List UInt8) (w : World) (hR : Rd w p l 0) (hl : l.length ≤ 65536) (hc : w.cell? ⟨x, 0, none⟩ = some (.int .i64 xid)) (hx : x < w.heap.size) (hxp : x ≠ p) :
    Calls Tryz.prog 15 #[.pointer (some ⟨p, 0, none⟩), .func (.func 12) #[] #[.pointer (some ⟨x, 0, none⟩)]] w (TcTo p xid w (takeO l)) := by
  unfold takeO
  generalize h1 : numR 4 l 0 = A
  obtain ⟨v, l1, e1⟩ := A
  dsimp only
  by_cases q1 : v ≠ 2
  · rw [if_pos q1]
    exact take_version p x xid l w hR hl hc hx hxp v l1 e1 h1 q1
  rw [if_neg q1]
  have q1' : v = 2 := by omega
  subst q1'
  generalize h2 : numR 4 l1 e1 = A
  obtain ⟨prog, l2, e2⟩ := A
  dsimp only
  generalize h3 : numR 4 l2 e2 = A
  obtain ⟨vers, l3, e3⟩ := A
  dsimp only
  generalize h4 : numR 4 l3 e3 = A
  obtain ⟨proc, l4, e4⟩ := A
  dsimp only
  cases q2 : wellR l4 e4 with
  | false => exact take_head p x xid l w hR hl hc hx hxp l1 e1 h1 prog l2 e2 h2 vers l3 e3 h3 proc l4 e4 h4 q2
  | true =>
  rw [if_neg (by decide)]
  have hf0 := numR_nat l4 e4
  generalize h5 : numR 4 l4 e4 = A at hf0 ⊢
  obtain ⟨fl, l5, e5⟩ := A
  dsimp only at hf0 ⊢
  generalize h6 : opqR 400 l5 e5 = A
  obtain ⟨body, l6, e6⟩ := A
  dsimp only
  cases q3 : wellR l6 e6 with
  | false => exact take_short p x xid l w hR hl hc hx hxp l1 e1 h1 prog l2 e2 h2 vers l3 e3 h3 proc l4 e4 h4 q2 fl l5 e5 h5 body l6 e6 h6 q3
  | true =>
  rw [if_neg (by decide)]
  by_cases q4 : 1 < fl
  · rw [if_pos q4]
    exact take_weak p x xid l w hR hl hc hx hxp l1 e1 h1 prog l2 e2 h2 vers l3 e3 h3 proc l4 e4 h4 q2 fl l5 e5 h5 body l6 e6 h6 q3 q4
  rw [if_neg q4]
  by_cases q5 : fl = 1
  · rw [if_pos q5]
    unfold unixO
    generalize hu1 : numR 4 body.data.toList 0 = A
    obtain ⟨st, u1, g1⟩ := A
    dsimp only
    generalize hu2 : opqR 255 u1 g1 = A
    obtain ⟨m, u2, g2⟩ := A
    dsimp only
    generalize hu3 : numR 4 u2 g2 = A
    obtain ⟨uid, u3, g3⟩ := A
    dsimp only
    generalize hu4 : numR 4 u3 g3 = A
    obtain ⟨gid, u4, g4⟩ := A
    dsimp only
    have hk0 := numR_nat u4 g4
    generalize hu5 : numR 4 u4 g4 = A at hk0 ⊢
    obtain ⟨kk, u5, g5⟩ := A
    dsimp only at hk0 ⊢
    obtain ⟨k, rfl⟩ := Int.eq_ofNat_of_zero_le hk0
    rw [Int.toNat_natCast]
    cases qB : (decide (k ≤ 16) && (endR (grpR u5 g5 k).2.1 (grpR u5 g5 k).2.2 == 0)) with
    | false =>
      rw [if_neg (by decide)]
      exact unix_bad p x xid l w hR hl hc hx hxp l1 e1 h1 prog l2 e2 h2 vers l3 e3 h3 proc l4 e4 h4 q2 fl l5 e5 h5 body l6 e6 h6 q3 q5 st u1 g1 hu1 m u2 g2 hu2 uid u3 g3 hu3 gid u4 g4 hu4 k u5 g5 hu5 qB
    | true =>
    rw [if_pos rfl]
    dsimp only
    unfold tailO
    generalize h7 : numR 4 l6 e6 = A
    obtain ⟨fl2, l7, e7⟩ := A
    dsimp only
    generalize h8 : opqR 0 l7 e7 = A
    obtain ⟨b8, l8, e8⟩ := A
    dsimp only
    cases q8 : wellR l8 e8 with
    | false => exact unix_v1 p x xid l w hR hl hc hx hxp l1 e1 h1 prog l2 e2 h2 vers l3 e3 h3 proc l4 e4 h4 q2 fl l5 e5 h5 body l6 e6 h6 q3 q5 st u1 g1 hu1 m u2 g2 hu2 uid u3 g3 hu3 gid u4 g4 hu4 k u5 g5 hu5 qB fl2 l7 e7 h7 b8 l8 e8 h8 q8
    | true =>
    rw [if_neg (by decide)]
    by_cases q9 : fl2 ≠ 0
    · rw [if_pos q9]
      exact unix_v2 p x xid l w hR hl hc hx hxp l1 e1 h1 prog l2 e2 h2 vers l3 e3 h3 proc l4 e4 h4 q2 fl l5 e5 h5 body l6 e6 h6 q3 q5 st u1 g1 hu1 m u2 g2 hu2 uid u3 g3 hu3 gid u4 g4 hu4 k u5 g5 hu5 qB fl2 l7 e7 h7 b8 l8 e8 h8 q8 q9
    rw [if_neg q9]
    by_cases q10 : l8.length % 4 ≠ 0
    · rw [if_pos q10]
      exact unix_v3 p x xid l w hR hl hc hx hxp l1 e1 h1 prog l2 e2 h2 vers l3 e3 h3 proc l4 e4 h4 q2 fl l5 e5 h5 body l6 e6 h6 q3 q5 st u1 g1 hu1 m u2 g2 hu2 uid u3 g3 hu3 gid u4 g4 hu4 k u5 g5 hu5 qB fl2 l7 e7 h7 b8 l8 e8 h8 q8 (by omega) q10
    rw [if_neg q10]
    exact unix_ok p x xid l w hR hl hc hx hxp l1 e1 h1 prog l2 e2 h2 vers l3 e3 h3 proc l4 e4 h4 q2 fl l5 e5 h5 body l6 e6 h6 q3 q5 st u1 g1 hu1 m u2 g2 hu2 uid u3 g3 hu3 gid u4 g4 hu4 k u5 g5 hu5 qB fl2 l7 e7 h7 b8 l8 e8 h8 q8 (by omega) (by omega) _ _ _ rfl
  · rw [if_neg q5]
    have q6 : fl = 0 := by omega
    cases q7 : body.toList.isEmpty with
    | false => exact take_full p x xid l w hR hl hc hx hxp l1 e1 h1 prog l2 e2 h2 vers l3 e3 h3 proc l4 e4 h4 q2 fl l5 e5 h5 body l6 e6 h6 q3 q6 q7
    | true =>
    rw [if_neg (by decide)]
    unfold tailO
    generalize h7 : numR 4 l6 e6 = A
    obtain ⟨fl2, l7, e7⟩ := A
    dsimp only
    generalize h8 : opqR 0 l7 e7 = A
    obtain ⟨b8, l8, e8⟩ := A
    dsimp only
    cases q8 : wellR l8 e8 with
    | false => exact plain_v1 p x xid l w hR hl hc hx hxp l1 e1 h1 prog l2 e2 h2 vers l3 e3 h3 proc l4 e4 h4 q2 fl l5 e5 h5 body l6 e6 h6 q3 q6 q7 fl2 l7 e7 h7 b8 l8 e8 h8 q8
    | true =>
    rw [if_neg (by decide)]
    by_cases q9 : fl2 ≠ 0
    · rw [if_pos q9]
      exact plain_v2 p x xid l w hR hl hc hx hxp l1 e1 h1 prog l2 e2 h2 vers l3 e3 h3 proc l4 e4 h4 q2 fl l5 e5 h5 body l6 e6 h6 q3 q6 q7 fl2 l7 e7 h7 b8 l8 e8 h8 q8 q9
    rw [if_neg q9]
    by_cases q10 : l8.length % 4 ≠ 0
    · rw [if_pos q10]
      exact plain_v3 p x xid l w hR hl hc hx hxp l1 e1 h1 prog l2 e2 h2 vers l3 e3 h3 proc l4 e4 h4 q2 fl l5 e5 h5 body l6 e6 h6 q3 q6 q7 fl2 l7 e7 h7 b8 l8 e8 h8 q8 (by omega) q10
    rw [if_neg q10]
    exact plain_ok p x xid l w hR hl hc hx hxp l1 e1 h1 prog l2 e2 h2 vers l3 e3 h3 proc l4 e4 h4 q2 fl l5 e5 h5 body l6 e6 h6 q3 q6 q7 fl2 l7 e7 h7 b8 l8 e8 h8 q8 (by omega) (by omega) _ _ _ rfl
end Go.Proofs.YtihkjgfghjgblaaGreatDoor.R
namespace Go.Proofs.YtihkjgfghjgblaaGreatDoor.R
open Go.RowKit

/-- What GetCall makes of the bytes. -/
inductive Gco where
  | err (e : Int)
  | ref (xid v lo hi : Int)
  | ok (xid prog vers proc : Int) (unix : Bool) (st : Int) (m : ByteArray) (uid gid : Int) (G : List Int) (args : ByteArray)
def getO (s : ByteArray) : Gco :=
  let a := numR 4 s.data.toList 0
  let b := numR 4 a.2.1 a.2.2
  if 65536 < s.size then .err 2 else if wellR b.2.1 b.2.2 = false then .err 5 else if b.1 ≠ 0 then .err 4 else match takeO b.2.1 with
    | .bad v lo hi => .ref a.1 v lo hi
    | .ok prog vers proc unix st m uid gid G args => .ok a.1 prog vers proc unix st m uid gid G args
/-- No call. -/
abbrev zeroC : Value := .agg #[.int .i64 0, .int .i64 0, .int .i64 0, .int .i64 0, .bool false, .int .i64 0, .string ⟨#[]⟩, .int .i64 0, .int .i64 0, .slice none 0 0, .string ⟨#[]⟩]
def GcTo (w : World) (t : Gco) (r : Ending) (w' : World) : Prop :=
  match t with
  | .err e => r = .returned (.tuple #[zeroC, .string ⟨#[]⟩, .int .i64 e]) ∧ Below w.heap.size w w'
  | .ref xid v lo hi => r = .returned (.tuple #[zeroC, .string (Rp.mk xid v lo hi ⟨#[]⟩).bytes, .int .i64 62]) ∧ Below w.heap.size w w'
  | .ok xid prog vers proc unix st m uid gid G args => ∃ vg, r = .returned (.tuple #[.agg #[.int .i64 xid, .int .i64 prog, .int .i64 vers, .int .i64 proc, .bool unix, .int .i64 st, .string m, .int .i64 uid, .int .i64 gid, vg, .string args], .string ⟨#[]⟩, .int .i64 0]) ∧ w'.ownsRow 0 3 1 vg G.length (ints G) ∧ Below w.heap.size w w'

theorem numR_err (l : List UInt8) (e : Int) (h : e = 0 ∨ e = 5) : (numR 4 l e).2.2 = 0 ∨ (numR 4 l e).2.2 = 5 := by
  unfold numR
  split
  · rcases h with rfl | rfl
    · exact .inr rfl
    · exact .inr rfl
  · exact h

theorem getCall_any (s : ByteArray) (w : World) : Calls Tryz.prog 4 #[.string s] w (GcTo w (getO s)) := by
  unfold getO
  have e0 := numR_err s.data.toList 0 (.inl rfl)
  generalize h1 : numR 4 s.data.toList 0 = A at e0 ⊢
  obtain ⟨xid, l1, e1⟩ := A
  dsimp only at e0 ⊢
  have e0' := numR_err l1 e1 e0
  generalize h2 : numR 4 l1 e1 = A at e0' ⊢
  obtain ⟨kind, l2, e2⟩ := A
  dsimp only at e0' ⊢
  by_cases q1 : 65536 < s.size
  · rw [if_pos q1]
    exact get_long s w q1
  rw [if_neg q1]
  have hs : s.size ≤ 65536 := by omega
  cases q2 : wellR l2 e2 with
  | false => exact get_short s w hs xid l1 e1 h1 kind l2 e2 h2 q2
  | true =>
  rw [if_neg (by decide)]
  by_cases q3 : kind ≠ 0
  · rw [if_pos q3]
    exact get_form s w hs xid l1 e1 h1 kind l2 e2 h2 q2 q3
  rw [if_neg q3]
  have q3' : kind = 0 := by omega
  subst q3'
  have he : e2 = 0 := by
    rcases e0' with h | h
    · exact h
    · subst h; revert q2; unfold wellR endR; simp
  subst he
  have n1 := numR_len h1
  have n2 := numR_len h2
  have n0 : s.data.toList.length ≤ 65536 := by rw [Array.length_toList]; exact hs
  have ht := fun (p x : Nat) (wx : World) (a : Rd wx p l2 0) (b : wx.cell? ⟨x, 0, none⟩ = some (.int .i64 xid)) (c : x < wx.heap.size) (d : x ≠ p) => takeCall_any p x xid l2 wx a (by omega) b c d
  generalize takeO l2 = T at ht ⊢
  cases T with
  | bad v lo hi => exact get_thrown s w hs xid l1 e1 h1 l2 h2 q2 v lo hi ht
  | ok prog vers proc unix st m uid gid G args => exact get_ok s w hs xid l1 e1 h1 l2 h2 q2 prog vers proc unix st m uid gid G args ht
end Go.Proofs.YtihkjgfghjgblaaGreatDoor.R
namespace Go.Proofs.YtihkjgfghjgblaaGreatDoor.R
open Go.RowKit

/-- A number, where it is asked for. -/
def ifR (b : Bool) (l : List UInt8) (e : Int) : Int × List UInt8 × Int := if b then numR 4 l e else (0, l, e)
/-- The verdict. -/
def tvR (l : List UInt8) (e : Int) : Int × List UInt8 × Int :=
  if (numR 4 l e).1 = 1 then
    (if (numR 4 (numR 4 l e).2.1 (numR 4 l e).2.2).1 = 1 then 7 else 6, (numR 4 (numR 4 l e).2.1 (numR 4 l e).2.2).2)
  else numR 4 (opqR 0 (numR 4 (numR 4 l e).2.1 (numR 4 l e).2.2).2.1 (numR 4 (numR 4 l e).2.1 (numR 4 l e).2.2).2.2).2.1 (opqR 0 (numR 4 (numR 4 l e).2.1 (numR 4 l e).2.2).2.1 (numR 4 (numR 4 l e).2.1 (numR 4 l e).2.2).2.2).2.2
/-- What stands behind the verdict. -/
def trR (xid v : Int) (l : List UInt8) (e : Int) : Rp :=
  ⟨xid, v, (ifR (loB v) l e).1, (ifR (hiB v) (ifR (loB v) l e).2.1 (ifR (loB v) l e).2.2).1,
    if boB v then (fixR (ifR (hiB v) (ifR (loB v) l e).2.1 (ifR (loB v) l e).2.2).2.1.length (ifR (hiB v) (ifR (loB v) l e).2.1 (ifR (loB v) l e).2.2).2.1 (ifR (hiB v) (ifR (loB v) l e).2.1 (ifR (loB v) l e).2.2).2.2).1 else ⟨#[]⟩⟩
def takeR (l : List UInt8) : Rp :=
  trR (numR 4 l 0).1 (tvR (numR 4 (numR 4 l 0).2.1 (numR 4 l 0).2.2).2.1 (numR 4 (numR 4 l 0).2.1 (numR 4 l 0).2.2).2.2).1
    (tvR (numR 4 (numR 4 l 0).2.1 (numR 4 l 0).2.2).2.1 (numR 4 (numR 4 l 0).2.1 (numR 4 l 0).2.2).2.2).2.1 (tvR (numR 4 (numR 4 l 0).2.1 (numR 4 l 0).2.2).2.1 (numR 4 (numR 4 l 0).2.1 (numR 4 l 0).2.2).2.2).2.2
abbrev Rp.cells (R : Rp) : Array Value := #[.int .i64 R.xid, .int .i64 R.v, .int .i64 R.low, .int .i64 R.high, .string R.body]
def RpAt (w : World) (x : Nat) (R : Rp) : Prop := w.heap[x]? = some (.cells R.cells 31 (0, 0))
theorem RpAt.all {w : World} {x : Nat} {R : Rp} (h : RpAt w x R) : w.cell? ⟨x, 0, none⟩ = some (.int .i64 R.xid) ∧ w.cell? ⟨x, 1, none⟩ = some (.int .i64 R.v) ∧ w.cell? ⟨x, 2, none⟩ = some (.int .i64 R.low) ∧ w.cell? ⟨x, 3, none⟩ = some (.int .i64 R.high) ∧ w.cell? ⟨x, 4, none⟩ = some (.string R.body) := by
  have hh : w.heap[x]? = _ := h
  refine ⟨?_, ?_, ?_, ?_, ?_⟩ <;> (rw [cell_of_row w x _ _ _ _ hh]; rfl)
theorem RpAt.free {w : World} {x : Nat} {R : Rp} (h : RpAt w x R) (o : Nat) : w.frozen? ⟨x, o, none⟩ = false := Lib.frozen_of_heap h _
theorem Rd.set49 {w : World} {p q o : Nat} {l : List UInt8} {e : Int} {cs : Array Value} (h : Rd w p l e) (hq : w.heap[q]? = some (.cells cs 31 (0, 0))) (x : Value) : Rd (w.setCell ⟨q, o, none⟩ x) p l e := by
  refine h.keep fun k cs' t fr hk ht => Below.heap_setCell _ _ _ _ ?_
  intro e
  subst e
  rw [hq] at hk
  simp only [Option.some.injEq, Obj.cells.injEq] at hk
  rcases ht with rfl | rfl <;> simp at hk

theorem RpAt.s {w : World} {x : Nat} {R R' : Rp} (h : RpAt w x R) (o : Nat) (u : Value) (hR : R.cells.setIfInBounds o u = R'.cells) : RpAt (w.setCell ⟨x, o, none⟩ u) x R' := by
  have hh := heap_set (o := o) u h
  rw [hR] at hh
  exact hh
/-- A reply is laid into its block, field by field. -/
theorem lay5 {w : World} {a : Nat} {Z : Rp} (h : RpAt w a Z) (R : Rp) (W : World)
    (hW : W = (((((w.setCell ⟨a, 0, none⟩ (.int .i64 R.xid)).setCell ⟨a, 1, none⟩ (.int .i64 R.v)).setCell ⟨a, 2, none⟩ (.int .i64 R.low)).setCell ⟨a, 3, none⟩ (.int .i64 R.high)).setCell ⟨a, 4, none⟩ (.string R.body))) : RpAt W a R ∧ Only a w W := by
  subst hW
  refine ⟨?_, (((((Only.refl a w).set 0 _).set 1 _).set 2 _).set 3 _).set 4 _⟩
  exact ((((h.s (R' := ⟨R.xid, Z.v, Z.low, Z.high, Z.body⟩) 0 _ rfl).s (R' := ⟨R.xid, R.v, Z.low, Z.high, Z.body⟩) 1 _ rfl).s (R' := ⟨R.xid, R.v, R.low, Z.high, Z.body⟩) 2 _ rfl).s (R' := ⟨R.xid, R.v, R.low, R.high, Z.body⟩) 3 _ rfl).s (R' := R) 4 _ rfl

theorem results_row_tmp {P : Program} {fn : Func} {p q : Tmp} {ty : TypeId} (h : fn.results = #[.cell p ty, .tmp q]) (tmps : Array Value) (w : World) (g : Nat) (t : TypeId) (cs : Array Value) (fr : Nat × Nat) (d : TypeDesc)
    (hp : tmps.getD p undef = .pointer (some ⟨g, 0, none⟩)) (hg : w.heap[g]? = some (.cells cs t fr))
    (hu : P.underlying ty = some d) (hd : (match d with | .struct _ | .array _ _ => true | _ => false) = true) (hi : (P.info? ty).map (·.size) = some cs.size) :
    (results fn tmps).run P w = .ok (.tuple #[.agg cs, tmps.getD q undef]) w := by
  have hp' : tmps[p]?.getD undef = .pointer (some ⟨g, 0, none⟩) := by simpa using hp
  simp [results, h, hp', asAddr, run_loadVar_row w g t ty cs fr d hg hu hd hi]

/-- In the middle of takeReply. -/
structure Tr (w : World) (p x : Nat) (l : List UInt8) (e : Int) (R : Rp) (wc : World) : Prop where
  rd : Rd wc p l e
  x : RpAt wc x R
  a : RpAt wc w.heap.size ⟨0, 0, 0, 0, ⟨#[]⟩⟩
  f : Fq p w wc
theorem Tr.only {w wc w' : World} {p x : Nat} {l l' : List UInt8} {e e' : Int} {R : Rp} (h : Tr w p x l e R wc) (hp : p < w.heap.size) (hx : w.heap.size < x) (ho : Only p wc w') (hR : Rd w' p l' e') : Tr w p x l' e' R w' :=
  ⟨hR, (ho.block _ (by omega)).trans h.x, (ho.block _ (by omega)).trans h.a, h.f.trans (Fq.ofOnly ho)⟩
theorem Tr.set {w wc : World} {p x : Nat} {l : List UInt8} {e : Int} {R R' : Rp} (h : Tr w p x l e R wc) (hx : w.heap.size < x) (o : Nat) (u : Value) (hR : R.cells.setIfInBounds o u = R'.cells) : Tr w p x l e R' (wc.setCell ⟨x, o, none⟩ u) := by
  have hh := heap_set (o := o) u h.x
  rw [hR] at hh
  exact ⟨h.rd.set49 h.x u, hh, (Below.heap_setCell _ _ _ _ (Nat.ne_of_lt hx)).trans h.a, h.f.only ((Only.refl x wc).set o u) (by omega)⟩
theorem tvR_len (l : List UInt8) (e : Int) : (tvR l e).2.1.length ≤ l.length := by
  have h1 := (numR_le 4 l e).2
  unfold tvR
  generalize numR 4 l e = A at *
  have h2 := (numR_le 4 A.2.1 A.2.2).2
  generalize numR 4 A.2.1 A.2.2 = B at *
  split
  · dsimp only; omega
  · have h3 := @opqR_len 0 B.2.1 B.2.2 (opqR 0 B.2.1 B.2.2).1 (opqR 0 B.2.1 B.2.2).2.1 (opqR 0 B.2.1 B.2.2).2.2 rfl
    have h4 := (numR_le 4 (opqR 0 B.2.1 B.2.2).2.1 (opqR 0 B.2.1 B.2.2).2.2).2
    omega
theorem ifR_len (b : Bool) (l : List UInt8) (e : Int) : (ifR b l e).2.1.length ≤ l.length := by
  unfold ifR
  split
  · exact (numR_le 4 l e).2
  · exact Nat.le_refl _

set_option maxRecDepth 100000 in
set_option maxHeartbeats 2000000 in
theorem takeReply_any (p : Nat) (l : List UInt8) (w : World) (hR : Rd w p l 0) (hl : l.length ≤ 65536) :
    Calls Tryz.prog 16 #[.pointer (some ⟨p, 0, none⟩)] w fun r w' => r = .returned (.agg (takeR l).cells) ∧ Fq p w w' := by
  have hp := hR.lt
  unfold takeR
  generalize h1 : numR 4 l 0 = A
  obtain ⟨xid, l1, e1⟩ := A
  dsimp only
  generalize h2 : numR 4 l1 e1 = A
  obtain ⟨n2, l2, e2⟩ := A
  dsimp only
  have hl1 := numR_len h1
  have hl2 := numR_len h2
  generalize h3 : tvR l2 e2 = A
  have hl3 := tvR_len l2 e2
  rw [h3] at hl3
  obtain ⟨v, l3, e3⟩ := A
  dsimp only at hl3 ⊢
  unfold trR
  generalize h4 : ifR (loB v) l3 e3 = A
  have hl4 := ifR_len (loB v) l3 e3
  rw [h4] at hl4
  obtain ⟨lo, l4, e4⟩ := A
  dsimp only at hl4 ⊢
  generalize h5 : ifR (hiB v) l4 e4 = A
  have hl5 := ifR_len (hiB v) l4 e4
  rw [h5] at hl5
  obtain ⟨hi, l5, e5⟩ := A
  dsimp only at hl5 ⊢
  generalize h6 : (if boB v then (fixR (l5.length : Int) l5 e5).1 else ⟨#[]⟩) = body
  have H1 := Lib.hid h1
  have H2 := Lib.hid h2
  have H3 := Lib.hid h3
  have H4 := Lib.hid h4
  have H5 := Lib.hid h5
  have H6 := Lib.hid h6
  have HR := Lib.hid hR
  clear h1 h2 h3 h4 h5 h6 hR
  obtain ⟨bl, hbl⟩ : ∃ u, loB v = u := ⟨_, rfl⟩
  obtain ⟨bh, hbh⟩ : ∃ u, hiB v = u := ⟨_, rfl⟩
  obtain ⟨bo, hbo⟩ : ∃ u, boB v = u := ⟨_, rfl⟩
  have HL := Lib.hid hbl
  have HH := Lib.hid hbh
  have HO := Lib.hid hbo
  clear hbl hbh hbo
  go_enter Tryz.func16, Tryz.ntmps16
  go_wp2_with fail
  refine (ruint_n p l 0 _ (HR.out.alloc _) (by omega) xid l1 e1 H1.out).mono ?_
  rintro r w1 ⟨rfl, hR1, hO1⟩
  have hT : Tr w p (w1.heap.size) l1 e1 ⟨xid, 0, 0, 0, ⟨#[]⟩⟩ (w1.alloc (.cells #[.int .i64 xid, .int .i64 0, .int .i64 0, .int .i64 0, .string ⟨#[]⟩] 31)) := by
    refine ⟨hR1.alloc _, heap_alloc_new w1 _, ?_, (((Fq.refl p w).alloc _).trans (Fq.ofOnly hO1)).alloc _⟩
    have hs := hO1.size
    exact ((World.grownBy_alloc w1 _ none).block w.heap.size (by rw [hs]; simp) (by simp)).trans ((hO1.block _ (by omega)).trans (heap_alloc_new w _))
  have hx : w.heap.size < w1.heap.size := by have := hO1.size; simp at this; omega
  obtain ⟨X, hX⟩ : ∃ X, w1.heap.size = X := ⟨_, rfl⟩
  rw [hX] at hT hx
  have HX := Lib.hid hX
  have HT := Lib.hid hT
  clear hR1 hO1 hT hX HR
  go_wp2_with fail
  rw [HX.out]
  generalize (w1.alloc (.cells #[.int .i64 xid, .int .i64 0, .int .i64 0, .int .i64 0, .string ⟨#[]⟩] 31)) = W1 at *
  refine (ruint_n p l1 e1 W1 HT.out.rd (by omega) n2 l2 e2 H2.out).mono ?_
  rintro r w2 ⟨rfl, hR2, hO2⟩
  have HT2 := Lib.hid (HT.out.only hp hx hO2 hR2)
  clear hR2 hO2 HT
  have h3 := H3.out
  unfold tvR at h3
  generalize g1 : numR 4 l2 e2 = A at h3
  obtain ⟨c, m1, f1⟩ := A
  dsimp only at h3
  have hm1 := numR_len g1
  generalize g2 : numR 4 m1 f1 = A at h3
  obtain ⟨d, m2, f2⟩ := A
  dsimp only at h3
  have hm2 := numR_len g2
  have G1 := Lib.hid g1
  have G2 := Lib.hid g2
  have H3' := Lib.hid h3
  clear g1 g2 h3 H3
  go_wp2_with fail
  refine (ruint_n p l2 e2 w2 HT2.out.rd (by omega) c m1 f1 G1.out).mono ?_
  rintro r w3 ⟨rfl, hR3, hO3⟩
  have HT3 := Lib.hid (HT2.out.only hp hx hO3 hR3)
  clear hR3 hO3 HT2
  go_upto_if 11 with (fail)
  go_cut [] (fun wc => Tr w p X l3 e3 ⟨xid, v, 0, 0, ⟨#[]⟩⟩ wc)
  case first =>
    by_cases hc : c = 1
    · have h3 := H3'.out
      rw [if_pos hc] at h3
      simp only [Prod.mk.injEq] at h3
      obtain ⟨hv, rfl, rfl⟩ := h3
      have HV := Lib.hid hv
      clear hv
      subst hc
      have k1 := HT3.out.x.free 1
      obtain ⟨_, x1, _⟩ := HT3.out.x.all
      go_wp2_with fail
      have HT4 := Lib.hid (HT3.out.set (R' := ⟨xid, 6, 0, 0, ⟨#[]⟩⟩) hx 1 (.int .i64 6) rfl)
      refine (ruint_n p m1 f1 _ HT4.out.rd (by omega) d m2 f2 G2.out).mono ?_
      rintro r w4 ⟨rfl, hR4, hO4⟩
      have HT5 := Lib.hid (HT4.out.only hp hx hO4 hR4)
      clear hR4 hO4 HT4 HT3
      have k1 := HT5.out.x.free 1
      obtain ⟨_, x1, _⟩ := HT5.out.x.all
      by_cases hd : d = 1
      · go_wp2
        go_meet
        have hv := HV.out
        rw [if_pos hd] at hv
        subst hv
        exact HT5.out.set hx 1 (.int .i64 7) rfl
      · have hb : (d == 1) = false := by simpa using hd
        go_wp2
        go_meet
        have hv := HV.out
        rw [if_neg hd] at hv
        subst hv
        exact HT5.out
    · have hb : (c == 1) = false := by simpa using hc
      have h3 := H3'.out
      rw [if_neg hc] at h3
      generalize g3 : opqR 0 m2 f2 = A at h3
      obtain ⟨s, m3, f3⟩ := A
      dsimp only at h3
      have hm3 := opqR_len g3
      have G3 := Lib.hid g3
      have H3'' := Lib.hid h3
      clear g3 h3 hc
      go_wp2_with fail
      refine (ruint_n p m1 f1 w3 HT3.out.rd (by omega) d m2 f2 G2.out).mono ?_
      rintro r w4 ⟨rfl, hR4, hO4⟩
      have HT4 := Lib.hid (HT3.out.only hp hx hO4 hR4)
      clear hR4 hO4 HT3
      go_wp2_with fail
      refine (ropaque_n p m2 f2 0 w4 HT4.out.rd (by omega) s m3 f3 G3.out).mono ?_
      rintro r w5 ⟨rfl, hR5, hO5⟩
      have HT5 := Lib.hid (HT4.out.only hp hx hO5 hR5)
      clear hR5 hO5 HT4
      go_wp2_with fail
      refine (ruint_n p m3 f3 w5 HT5.out.rd (by omega) v l3 e3 H3''.out).mono ?_
      rintro r w6 ⟨rfl, hR6, hO6⟩
      have HT6 := Lib.hid (HT5.out.only hp hx hO6 hR6)
      clear hR6 hO6 HT5
      have k1 := HT6.out.x.free 1
      obtain ⟨_, x1, _⟩ := HT6.out.x.all
      go_wp2
      go_meet
      exact HT6.out.set hx 1 (.int .i64 v) rfl
  case rest =>
    have HT4 := Lib.hid hcut
    clear hcut HT3 H3' G1 G2
    obtain ⟨_, x1, _⟩ := HT4.out.x.all
    go_wp2_with fail
    refine (hasLow_any v wc bl HL.out).mono ?_
    rintro e w5 ⟨rfl, rfl⟩
    go_upto_if 26 with (fail)
    go_cut [] (fun wd => Tr w p X l4 e4 ⟨xid, v, lo, 0, ⟨#[]⟩⟩ wd)
    case first =>
      have h4 := H4.out
      rw [HL.out] at h4
      unfold ifR at h4
      cases bl
      · simp only [Bool.false_eq_true, if_false, Prod.mk.injEq] at h4
        obtain ⟨rfl, rfl, rfl⟩ := h4
        go_wp2
        go_meet
        exact HT4.out
      · simp only [if_true] at h4
        have H4' := Lib.hid h4
        clear h4
        go_wp2_with fail
        refine (ruint_n p l3 e3 wc HT4.out.rd (by omega) lo l4 e4 H4'.out).mono ?_
        rintro r w6 ⟨rfl, hR6, hO6⟩
        have HT6 := Lib.hid (HT4.out.only hp hx hO6 hR6)
        clear hR6 hO6
        have k2 := HT6.out.x.free 2
        obtain ⟨_, _, x2, _⟩ := HT6.out.x.all
        go_wp2
        go_meet
        exact HT6.out.set hx 2 (.int .i64 lo) rfl
    case rest =>
      have HT5 := Lib.hid hcut
      clear hcut HT4 x1
      obtain ⟨_, x1, _⟩ := HT5.out.x.all
      go_wp2_with fail
      refine (hasHigh_any v wc bh HH.out).mono ?_
      rintro e w6 ⟨rfl, rfl⟩
      go_upto_if 32 with (fail)
      go_cut [] (fun wd => Tr w p X l5 e5 ⟨xid, v, lo, hi, ⟨#[]⟩⟩ wd)
      case first =>
        have h5 := H5.out
        rw [HH.out] at h5
        unfold ifR at h5
        cases bh
        · simp only [Bool.false_eq_true, if_false, Prod.mk.injEq] at h5
          obtain ⟨rfl, rfl, rfl⟩ := h5
          go_wp2
          go_meet
          exact HT5.out
        · simp only [if_true] at h5
          have H5' := Lib.hid h5
          clear h5
          go_wp2_with fail
          refine (ruint_n p l4 e4 wc HT5.out.rd (by omega) hi l5 e5 H5'.out).mono ?_
          rintro r w7 ⟨rfl, hR7, hO7⟩
          have HT7 := Lib.hid (HT5.out.only hp hx hO7 hR7)
          clear hR7 hO7
          have k3 := HT7.out.x.free 3
          obtain ⟨_, _, _, x3, _⟩ := HT7.out.x.all
          go_wp2
          go_meet
          exact HT7.out.set hx 3 (.int .i64 hi) rfl
      case rest =>
        have HT6 := Lib.hid hcut
        clear hcut HT5 x1
        obtain ⟨_, x1, _⟩ := HT6.out.x.all
        go_wp2_with fail
        refine (hasBody_any v wc bo HO.out).mono ?_
        rintro e w7 ⟨rfl, rfl⟩
        go_upto_if 38 with (fail)
        go_cut [] (fun wd => ∃ l e, Tr w p X l e ⟨xid, v, lo, hi, body⟩ wd)
        case first =>
          have h6 := H6.out
          rw [HO.out] at h6
          cases bo
          · simp only [Bool.false_eq_true, if_false] at h6
            subst h6
            go_wp2
            go_meet
            exact ⟨_, _, HT6.out⟩
          · simp only [if_true] at h6
            generalize g6 : fixR (l5.length : Int) l5 e5 = A at h6
            obtain ⟨s6, l6, e6⟩ := A
            dsimp only at h6
            subst h6
            have G6 := Lib.hid g6
            clear g6
            go_wp2_with fail
            refine (left_same' p l5 e5 wc HT6.out.rd).mono ?_
            rintro r w8 ⟨rfl, rfl⟩
            go_wp2_with fail
            refine (rfixed_n p l5 e5 (l5.length : Int) wc HT6.out.rd (by omega) (by omega) s6 l6 e6 G6.out).mono ?_
            rintro r w9 ⟨rfl, hR9, hO9⟩
            have HT9 := Lib.hid (HT6.out.only hp hx hO9 hR9)
            clear hR9 hO9
            have k4 := HT9.out.x.free 4
            obtain ⟨_, _, _, _, x4⟩ := HT9.out.x.all
            go_wp2
            go_meet
            exact ⟨_, _, HT9.out.set hx 4 (.string s6) rfl⟩
        case rest =>
          obtain ⟨lz, ez, hT⟩ := hcut
          obtain ⟨x0, x1, x2, x3, x4⟩ := hT.x.all
          obtain ⟨y0, y1, y2, y3, y4⟩ := hT.a.all
          have k0 := hT.a.free 0
          have k1 := hT.a.free 1
          have k2 := hT.a.free 2
          have k3 := hT.a.free 3
          have k4 := hT.a.free 4
          have HT7 := Lib.hid hT
          clear hT HT6
          go_wp2
          obtain ⟨q1, q2⟩ := lay5 HT7.out.a ⟨xid, v, lo, hi, body⟩ _ rfl
          refine bodyPost_ret (results_cell_row rfl _ _ w.heap.size 31 _ (0, 0) _ rfl q1 Tryz.underlying31 rfl (by kernel_rfl)) rfl ?_
          exact ⟨rfl, HT7.out.f.only q2 (Nat.le_refl _)⟩

/-- What GetReply makes of bytes. -/
def getR (s : ByteArray) : Rp × Int :=
  if 65536 < s.size then (⟨0, 0, 0, 0, ⟨#[]⟩⟩, 2)
  else if (takeR s.data.toList).ok = true ∧ restC (takeR s.data.toList).head (takeR s.data.toList).body = 0 ∧ restS (takeR s.data.toList).head (takeR s.data.toList).body = s then (takeR s.data.toList, 0)
  else (⟨0, 0, 0, 0, ⟨#[]⟩⟩, 4)
theorem fixR_whole_size (l : List UInt8) (e : Int) : (fixR (l.length : Int) l e).1.size ≤ l.length := by
  rw [fixR_nat]
  split
  · exact Nat.zero_le _
  · split
    · show (l.take l.length).toArray.size ≤ _
      simp
    · exact Nat.zero_le _
theorem takeR_size (l : List UInt8) : (takeR l).body.size ≤ l.length := by
  unfold takeR
  have a := (numR_le 4 l 0).2
  generalize numR 4 l 0 = A at *
  have b := (numR_le 4 A.2.1 A.2.2).2
  generalize numR 4 A.2.1 A.2.2 = B at *
  have c := tvR_len B.2.1 B.2.2
  generalize tvR B.2.1 B.2.2 = C at *
  unfold trR
  have d := ifR_len (loB C.1) C.2.1 C.2.2
  generalize ifR (loB C.1) C.2.1 C.2.2 = D at *
  have e := ifR_len (hiB C.1) D.2.1 D.2.2
  generalize ifR (hiB C.1) D.2.1 D.2.2 = E at *
  dsimp only
  split
  · exact Nat.le_trans (fixR_whole_size _ _) (by omega)
  · exact Nat.zero_le _
set_option maxRecDepth 100000 in
set_option maxHeartbeats 2000000 in
theorem getReply_any (s : ByteArray) (w : World) :
    Calls Tryz.prog 5 #[.string s] w fun r w' => r = .returned (.tuple #[.agg (getR s).1.cells, .int .i64 (getR s).2]) ∧ Below w.heap.size w w' := by
  by_cases hs : 65536 < s.size
  · have hg : getR s = (⟨0, 0, 0, 0, ⟨#[]⟩⟩, 2) := if_pos hs
    rw [hg]
    have hd : decide ((65536 : Int) < (s.size : Int)) = true := decide_eq_true (by omega)
    go_enter Tryz.func5, Tryz.ntmps5
    go_wp2
    refine bodyPost_ret (results_row_tmp rfl _ _ w.heap.size 31 _ (0, 0) _ rfl (heap_alloc_new w _) Tryz.underlying31 rfl (by kernel_rfl)) rfl ?_
    exact ⟨rfl, (Below.refl _ w).alloc (Nat.le_refl _) _⟩
  · have hd : decide ((65536 : Int) < (s.size : Int)) = false := decide_eq_false (by omega)
    have hs' : s.size ≤ 65536 := by omega
    have hsl : s.data.toList.length ≤ 65536 := by rw [Array.length_toList]; exact hs'
    have hbs := takeR_size s.data.toList
    have hg : getR s = if (takeR s.data.toList).ok = true ∧ restC (takeR s.data.toList).head (takeR s.data.toList).body = 0 ∧ restS (takeR s.data.toList).head (takeR s.data.toList).body = s then (takeR s.data.toList, 0) else (⟨0, 0, 0, 0, ⟨#[]⟩⟩, 4) := if_neg hs
    rw [hg]
    have hpr := fun wz => putReply_any (takeR s.data.toList) wz (by omega)
    have htk := fun p wz h => takeReply_any p s.data.toList wz h hsl
    generalize takeR s.data.toList = R at *
    generalize h1 : (if R.ok then restS R.head R.body else ⟨#[]⟩) = S1 at hpr
    generalize h2 : (if R.ok then restC R.head R.body else 4) = S2 at hpr
    have he : (R.ok = true ∧ restC R.head R.body = 0 ∧ restS R.head R.body = s) ↔ (S2 = 0 ∧ S1 = s) := by
      subst h1 h2
      cases R.ok <;> simp
    simp only [he]
    generalize hG : (if S2 = 0 ∧ S1 = s then (R, (0 : Int)) else (⟨0, 0, 0, 0, ⟨#[]⟩⟩, 4)) = G
    have HG := Lib.hid hG
    clear hG
    have HPR := Lib.hid hpr
    have HTK := Lib.hid htk
    clear hpr htk h1 h2 he hg hs hbs
    obtain ⟨x, v, lo, hi, b⟩ := R
    go_enter Tryz.func5, Tryz.ntmps5
    go_wp2_with fail
    refine (open_any s _ (by unfold maxLen; omega)).mono ?_
    rintro r w1 ⟨rfl, hR1, hB1, n1⟩
    have hA1 : RpAt w1 w.heap.size ⟨0, 0, 0, 0, ⟨#[]⟩⟩ := (hB1.block _ (by simp)).trans (heap_alloc_new w _)
    have hbb : Below w.heap.size w w1 := ((Below.refl _ w).alloc (Nat.le_refl _) _).trans (hB1.mono (by simp))
    have n1' : w1.heap.size = w.heap.size + 3 := by rw [n1]; simp
    have e1 : (w.alloc (.cells #[.int .i64 0, .int .i64 0, .int .i64 0, .int .i64 0, .string ⟨#[]⟩] 31)).heap.size + 1 = w.heap.size + 2 := by simp
    rw [e1] at hR1
    have HA1 := Lib.hid hA1
    have HB1 := Lib.hid hbb
    have HR1 := Lib.hid hR1
    clear hR1 hB1 n1 e1 hA1 hbb
    go_wp2_with fail
    refine (HTK.out (w.heap.size + 2) w1 (by simpa using HR1.out)).mono ?_
    rintro r w2 ⟨rfl, hF2⟩
    have hA2 : RpAt w2 w.heap.size ⟨0, 0, 0, 0, ⟨#[]⟩⟩ := (hF2.block _ (by omega) (by omega)).trans HA1.out
    have hB2 : Below w.heap.size w w2 := HB1.out.trans ⟨hF2.os, hF2.tape, hF2.output, hF2.size, fun k hk => hF2.block k (by omega) (by omega)⟩
    have n2 : w.heap.size + 3 ≤ w2.heap.size := by have := hF2.size; omega
    have HA2 := Lib.hid hA2
    have HB2 := Lib.hid hB2
    clear hF2 hA2 hB2 HA1 HB1 HR1
    go_wp2_with fail
    refine (HPR.out _).mono ?_
    rintro r w3 ⟨rfl, hB3⟩
    have hA3 : RpAt w3 w.heap.size ⟨0, 0, 0, 0, ⟨#[]⟩⟩ := (hB3.block _ (by simp; omega)).trans (((World.grownBy_alloc w2 _ none).block w.heap.size (by omega) (by simp)).trans HA2.out)
    have hX3 : RpAt w3 w2.heap.size ⟨x, v, lo, hi, b⟩ := (hB3.block _ (by simp)).trans (heap_alloc_new w2 _)
    have HB3 := Lib.hid ((HB2.out.alloc (by omega) (.cells #[.int .i64 x, .int .i64 v, .int .i64 lo, .int .i64 hi, .string b] 31)).trans (hB3.mono (by simp; omega)))
    obtain ⟨x0, x1, x2, x3, x4⟩ := hX3.all
    obtain ⟨y0, y1, y2, y3, y4⟩ := hA3.all
    have k0 := hA3.free 0
    have k1 := hA3.free 1
    have k2 := hA3.free 2
    have k3 := hA3.free 3
    have k4 := hA3.free 4
    have HA3 := Lib.hid hA3
    clear hB3 hA3 hX3 HA2 HB2 HPR HTK
    have hne : w2.heap.size ≠ w.heap.size := by omega
    by_cases c2 : S2 = 0
    · subst c2
      by_cases c1 : S1 = s
      · subst c1
        have hG := HG.out
        rw [if_pos ⟨rfl, rfl⟩] at hG
        subst hG
        go_wp2
        obtain ⟨q1, q2⟩ := lay5 HA3.out ⟨x, v, lo, hi, b⟩ _ rfl
        refine bodyPost_ret (results_row_tmp rfl _ _ w.heap.size 31 _ (0, 0) _ rfl q1 Tryz.underlying31 rfl (by kernel_rfl)) rfl ?_
        exact ⟨rfl, HB3.out.trans (q2.below (Nat.le_refl _))⟩
      · have hG := HG.out
        rw [if_neg (fun h => c1 h.2)] at hG
        subst hG
        have c1' := Lib.hid c1
        have hb1 : (S1.toList == s.toList) = false := by
          cases hq : (S1.toList == s.toList) with
          | false => rfl
          | true => exact absurd (ByteArray.ext (Array.ext' (by simpa [ByteArray.toList_eq] using beq_iff_eq.1 hq))) c1
        clear c1
        go_wp2
        all_goals first
          | (obtain ⟨q1, q2⟩ := lay5 HA3.out ⟨0, 0, 0, 0, ⟨#[]⟩⟩ _ rfl
             refine bodyPost_ret (results_row_tmp rfl _ _ w.heap.size 31 _ (0, 0) _ rfl q1 Tryz.underlying31 rfl (by kernel_rfl)) rfl ?_
             exact ⟨rfl, HB3.out.trans (q2.below (Nat.le_refl _))⟩)
          | (exfalso; simp_all)
    · have hG := HG.out
      rw [if_neg (fun h => c2 h.1)] at hG
      subst hG
      have hb2 : (S2 != 0) = true := by simpa using c2
      go_wp2
      obtain ⟨q1, q2⟩ := lay5 HA3.out ⟨0, 0, 0, 0, ⟨#[]⟩⟩ _ rfl
      refine bodyPost_ret (results_row_tmp rfl _ _ w.heap.size 31 _ (0, 0) _ rfl q1 Tryz.underlying31 rfl (by kernel_rfl)) rfl ?_
      exact ⟨rfl, HB3.out.trans (q2.below (Nat.le_refl _))⟩
end Go.Proofs.YtihkjgfghjgblaaGreatDoor.R
namespace Go.Proofs.YtihkjgfghjgblaaGreatDoor.R
open Go.RowKit
def sk : ByteArray := ⟨#[0,0,0,1, 0,0,0,0, 0,0,0,2, 0,1,134,163, 0,0,0,3, 0,0,0,0, 0,0,0,0, 0,0,0,0, 0,0,0,0, 0,0,0,0]⟩
theorem sk_get : getO sk = .ok 1 100003 3 0 false 0 ⟨#[]⟩ 0 0 [] ⟨#[]⟩ := by kernel_rfl
abbrev skC : Cl := ⟨1, 100003, 3, 0, false, 0, ⟨#[]⟩, 0, 0, [], ⟨#[]⟩⟩
theorem sk_ok : skC.ok = true := by kernel_rfl
theorem sk_put : restS skC.headP skC.args = sk := by kernel_rfl
theorem sk_code : restC skC.headP skC.args = 0 := by kernel_rfl
theorem sk_size : sk.size = 40 := by kernel_rfl
theorem sk_putCall (w : World) : Calls Tryz.prog 6 #[.agg #[.int .i64 1, .int .i64 100003, .int .i64 3, .int .i64 0, .bool false, .int .i64 0, .string ⟨#[]⟩, .int .i64 0, .int .i64 0, .slice none 0 0, .string ⟨#[]⟩]] w
    fun e w' => e = .returned (.tuple #[.string sk, .int .i64 0]) ∧ Below w.heap.size w w' := by
  have h := putCall_plain skC none 0 w rfl (by show (#[] : Array UInt8).size ≤ _; simp)
  rw [if_pos sk_ok, if_pos sk_ok, sk_put, sk_code] at h
  exact h
theorem sk_getCall (w : World) : Calls Tryz.prog 4 #[.string sk] w fun r w' => ∃ vo va vc, r = .returned (.tuple #[.agg #[.int .i64 1, .int .i64 100003, .int .i64 3, .int .i64 0, .bool false, .int .i64 0, .string ⟨#[]⟩, .int .i64 0, .int .i64 0, .slice vo va vc, .string ⟨#[]⟩], .string ⟨#[]⟩, .int .i64 0]) ∧ Below w.heap.size w w' := by
  have h := getCall_any sk w
  rw [sk_get] at h
  refine h.mono ?_
  rintro r w' ⟨vg, rfl, ho, hb⟩
  obtain ⟨vo, va, vc, rfl⟩ := owned_slice ho
  exact ⟨vo, va, vc, rfl, hb⟩
end Go.Proofs.YtihkjgfghjgblaaGreatDoor.R
namespace Go.Proofs.YtihkjgfghjgblaaGreatDoor.R
open Go.RowKit

theorem nb4 (n : Int) : numBytes n 4 = [byteAt n 24, byteAt n 16, byteAt n 8, byteAt n 0] := rfl
theorem be4 (n : Int) : ((be (numBytes n 4) : Nat) : Int) = n % 4294967296 := by
  have h0 := byteAt_toNat n 0
  have h1 := byteAt_toNat n 8
  have h2 := byteAt_toNat n 16
  have h3 := byteAt_toNat n 24
  rw [nb4]
  simp only [be, List.foldl_cons, List.foldl_nil]
  simp only [Int.reducePow] at h0 h1 h2 h3
  omega
theorem numR_app (E rest : List UInt8) (e : Int) : numR E.length (E ++ rest) e = (IntKind.i64.wrap (be E), rest, e) := by
  unfold numR
  rw [if_neg (by simp), List.take_left, List.drop_left]
theorem nR (n : Int) (hn : isU n = true) (rest : List UInt8) (e : Int) : numR 4 (numBytes n 4 ++ rest) e = (n, rest, e) := by
  have h := numR_app (numBytes n 4) rest e
  rw [numBytes_length] at h
  have hn := of_decide_eq_true hn
  rw [h, be4, IntKind.wrap_i64]
  have : (n % 4294967296 + 9223372036854775808) % 18446744073709551616 - 9223372036854775808 = n := by omega
  rw [this]
theorem nShort {l : List UInt8} (h : l.length < 4) : numR 4 l 0 = (0, [], 5) := if_pos h
theorem nDead : numR 4 [] 5 = (0, [], 5) := rfl
theorem oNone (most : Int) (hm : 0 ≤ most) (l : List UInt8) : opqR most (numBytes 0 4 ++ l) 0 = (⟨#[]⟩, l, 0) := by
  unfold opqR
  rw [nR 0 (by decide)]
  simp only
  rw [if_neg (by split <;> omega)]
  unfold fixR
  rw [if_neg (by decide), if_neg (by simp [pad]), if_pos (by simp [pad])]
  simp [pad]
theorem oShort (most : Int) (hm : 0 ≤ most) {l : List UInt8} (h : l.length < 4) : opqR most l 0 = (⟨#[]⟩, [], 5) := by
  unfold opqR
  rw [nShort h]
  simp only
  rw [if_neg (by split <;> omega)]
  rfl
theorem oDead (most : Int) (hm : 0 ≤ most) : opqR most [] 5 = (⟨#[]⟩, [], 5) := by
  unfold opqR
  rw [nDead]
  simp only
  rw [if_neg (by split <;> omega)]
  rfl
theorem wellOk (l : List UInt8) : wellR l 0 = true := by
  unfold wellR endR
  by_cases h : l.length = 0 <;> simp [h]
theorem wellBad : wellR [] 5 = false := rfl
theorem take4 (n : Int) (l : List UInt8) (k : Nat) : (numBytes n 4 ++ l).take (k + 4) = numBytes n 4 ++ l.take k := by
  rw [List.take_append, List.take_of_length_le (by simp [numBytes_length]), numBytes_length, show k + 4 - 4 = k from by omega]
theorem takeS (n : Int) (l : List UInt8) (k : Nat) (h : k < 4) : ((numBytes n 4 ++ l).take k).length < 4 := by simp; omega

def Tc.isBad : Tc → Bool
  | .bad .. => true
  | .ok .. => false
theorem tail_ok (A : List UInt8) (f : ByteArray → Tc) (h : A.length % 4 = 0) : tailO (numBytes 0 4 ++ (numBytes 0 4 ++ A)) 0 f = f ⟨A.toArray⟩ := by
  unfold tailO
  rw [nR 0 (by decide)]
  simp only
  rw [oNone 0 (by decide)]
  simp only
  rw [if_neg (by simp [wellOk]), if_neg (by simp), if_neg (by omega)]
  have e : fixR (A.length : Int) A 0 = (⟨A.toArray⟩, [], 0) := by
    have hp : pad A.length = 0 := by unfold pad; omega
    rw [fixR_nat, hp, if_neg (by omega)]
    simp
  rw [e]
theorem tail_bad (A : List UInt8) (f : ByteArray → Tc) (n : Nat) (hn : n ≤ 8 + A.length) (h : n < 8 ∨ n % 4 ≠ 0) : (tailO ((numBytes 0 4 ++ (numBytes 0 4 ++ A)).take n) 0 f).isBad = true := by
  by_cases h1 : n < 4
  · unfold tailO
    rw [nShort (takeS _ _ _ h1)]
    simp only
    rw [oDead 0 (by decide), if_pos wellBad]
    rfl
  · obtain ⟨k, rfl⟩ : ∃ k, n = k + 4 := ⟨n - 4, by omega⟩
    rw [take4]
    unfold tailO
    rw [nR 0 (by decide)]
    simp only
    by_cases h2 : k < 4
    · rw [oShort 0 (by decide) (takeS _ _ _ h2), if_pos wellBad]
      rfl
    · obtain ⟨j, rfl⟩ : ∃ j, k = j + 4 := ⟨k - 4, by omega⟩
      rw [take4, oNone 0 (by decide)]
      simp only
      rw [if_neg (by simp [wellOk]), if_neg (by simp), if_pos (by rw [List.length_take]; omega)]
      rfl

/-- The words of a call behind the first two. -/
def words (prog vers proc : Int) (l : List UInt8) : List UInt8 := numBytes 2 4 ++ (numBytes prog 4 ++ (numBytes vers 4 ++ (numBytes proc 4 ++ (numBytes 0 4 ++ (numBytes 0 4 ++ l)))))
theorem take_ok (prog vers proc : Int) (h1 : isU prog = true) (h2 : isU vers = true) (h3 : isU proc = true) (A : List UInt8) (h : A.length % 4 = 0) :
    takeO (words prog vers proc (numBytes 0 4 ++ (numBytes 0 4 ++ A))) = .ok prog vers proc false 0 ⟨#[]⟩ 0 0 [] ⟨A.toArray⟩ := by
  unfold takeO words
  simp only [nR 2 (by decide), nR prog h1, nR vers h2, nR proc h3, nR 0 (by decide), oNone 400 (by decide), tail_ok A _ h]
  rw [if_neg (by decide), if_neg (by simp [wellOk]), if_neg (by simp [wellOk]), if_neg (by decide), if_neg (by decide), if_neg (by decide +kernel)]
theorem take_bad (prog vers proc : Int) (h1 : isU prog = true) (h2 : isU vers = true) (h3 : isU proc = true) (A : List UInt8) (n : Nat) (hn : n ≤ 32 + A.length) (h : n < 32 ∨ n % 4 ≠ 0) :
    (takeO ((words prog vers proc (numBytes 0 4 ++ (numBytes 0 4 ++ A))).take n)).isBad = true := by
  unfold words
  by_cases c0 : n < 4
  · unfold takeO
    simp only [nShort (takeS _ _ _ c0)]
    rfl
  obtain ⟨n1, rfl⟩ : ∃ k, n = k + 4 := ⟨n - 4, by omega⟩
  rw [take4]
  by_cases c1 : n1 < 4
  · unfold takeO
    simp only [nR 2 (by decide), nShort (takeS _ _ _ c1), nDead]
    rfl
  obtain ⟨n2, rfl⟩ : ∃ k, n1 = k + 4 := ⟨n1 - 4, by omega⟩
  rw [take4]
  by_cases c2 : n2 < 4
  · unfold takeO
    simp only [nR 2 (by decide), nR prog h1, nShort (takeS _ _ _ c2), nDead]
    rfl
  obtain ⟨n3, rfl⟩ : ∃ k, n2 = k + 4 := ⟨n2 - 4, by omega⟩
  rw [take4]
  by_cases c3 : n3 < 4
  · unfold takeO
    simp only [nR 2 (by decide), nR prog h1, nR vers h2, nShort (takeS _ _ _ c3), nDead]
    rfl
  obtain ⟨n4, rfl⟩ : ∃ k, n3 = k + 4 := ⟨n3 - 4, by omega⟩
  rw [take4]
  by_cases c4 : n4 < 4
  · unfold takeO
    simp only [nR 2 (by decide), nR prog h1, nR vers h2, nR proc h3, nShort (takeS _ _ _ c4), oDead 400 (by decide)]
    rw [if_neg (by decide), if_neg (by simp [wellOk]), if_pos wellBad]
    rfl
  obtain ⟨n5, rfl⟩ : ∃ k, n4 = k + 4 := ⟨n4 - 4, by omega⟩
  rw [take4]
  by_cases c5 : n5 < 4
  · unfold takeO
    simp only [nR 2 (by decide), nR prog h1, nR vers h2, nR proc h3, nR 0 (by decide), oShort 400 (by decide) (takeS _ _ _ c5)]
    rw [if_neg (by decide), if_neg (by simp [wellOk]), if_pos wellBad]
    rfl
  obtain ⟨n6, rfl⟩ : ∃ k, n5 = k + 4 := ⟨n5 - 4, by omega⟩
  rw [take4]
  have ht := tail_bad A (.ok prog vers proc false 0 ⟨#[]⟩ 0 0 []) n6 (by omega) (by omega)
  unfold takeO
  simp only [nR 2 (by decide), nR prog h1, nR vers h2, nR proc h3, nR 0 (by decide), oNone 400 (by decide)]
  rw [if_neg (by decide), if_neg (by simp [wellOk]), if_neg (by simp [wellOk]), if_neg (by decide), if_neg (by decide), if_neg (by decide +kernel)]
  exact ht

def Gco.isBad : Gco → Bool
  | .err e => e != 0
  | .ref .. => true
  | .ok .. => false
theorem headP_words (c : Cl) (A : List UInt8) : c.headP ++ A = numBytes c.xid 4 ++ (numBytes 0 4 ++ words c.prog c.vers c.proc (numBytes 0 4 ++ (numBytes 0 4 ++ A))) := by
  have e : opaqueOf ⟨#[]⟩ = numBytes 0 4 := by decide +kernel
  simp [Cl.headP, putU, e, words]
theorem get_whole (c : Cl) (A : List UInt8) (hx : isU c.xid = true) (h1 : isU c.prog = true) (h2 : isU c.vers = true) (h3 : isU c.proc = true) (h : A.length % 4 = 0) (hl : 40 + A.length ≤ 65536) :
    getO ⟨(c.headP ++ A).toArray⟩ = .ok c.xid c.prog c.vers c.proc false 0 ⟨#[]⟩ 0 0 [] ⟨A.toArray⟩ := by
  have hs : (⟨(c.headP ++ A).toArray⟩ : ByteArray).size = 40 + A.length := by
    show (c.headP ++ A).toArray.size = _
    simp [headP_length]
  unfold getO
  rw [hs, headP_words]
  simp only [nR c.xid hx, nR 0 (by decide), take_ok c.prog c.vers c.proc h1 h2 h3 A h]
  rw [if_neg (by omega), if_neg (by simp [wellOk]), if_neg (by simp)]
theorem get_cut (c : Cl) (A : List UInt8) (n : Nat) (hx : isU c.xid = true) (h1 : isU c.prog = true) (h2 : isU c.vers = true) (h3 : isU c.proc = true) (hn : n ≤ 40 + A.length) (h : n < 40 ∨ n % 4 ≠ 0) (hl : 40 + A.length ≤ 65536) :
    (getO ⟨((c.headP ++ A).take n).toArray⟩).isBad = true := by
  have hs : (⟨((c.headP ++ A).take n).toArray⟩ : ByteArray).size ≤ 65536 := by
    show ((c.headP ++ A).take n).toArray.size ≤ _
    simp [headP_length]; omega
  unfold getO
  rw [if_neg (by omega), headP_words]
  by_cases c0 : n < 4
  · simp only [nShort (takeS _ _ _ c0), nDead]
    rfl
  obtain ⟨n1, rfl⟩ : ∃ k, n = k + 4 := ⟨n - 4, by omega⟩
  rw [take4]
  by_cases c1 : n1 < 4
  · simp only [nR c.xid hx, nShort (takeS _ _ _ c1)]
    rfl
  obtain ⟨n2, rfl⟩ : ∃ k, n1 = k + 4 := ⟨n1 - 4, by omega⟩
  rw [take4]
  have ht := take_bad c.prog c.vers c.proc h1 h2 h3 A n2 (by omega) (by omega)
  simp only [nR c.xid hx, nR 0 (by decide)]
  rw [if_neg (by simp [wellOk]), if_neg (by simp)]
  generalize takeO _ = T at *
  cases T with
  | bad v lo hi => rfl
  | ok => cases ht
end Go.Proofs.YtihkjgfghjgblaaGreatDoor.R
namespace Go.Proofs.YtihkjgfghjgblaaGreatDoor.R
open Go.RowKit
theorem opq_empty : opaqueOf ⟨#[]⟩ = numBytes 0 4 := by decide +kernel
theorem ifR_yes (n : Int) (hn : isU n = true) (rest : List UInt8) : ifR true (numBytes n 4 ++ rest) 0 = (n, rest, 0) := nR n hn rest 0
theorem ifR_no (rest : List UInt8) : ifR false rest 0 = (0, rest, 0) := rfl
theorem tv6 (rest : List UInt8) : tvR (numBytes 1 4 ++ (numBytes 0 4 ++ rest)) 0 = (6, rest, 0) := by
  unfold tvR
  simp only [nR 1 (by decide), nR 0 (by decide)]
  simp
theorem tv7 (rest : List UInt8) : tvR (numBytes 1 4 ++ (numBytes 1 4 ++ rest)) 0 = (7, rest, 0) := by
  unfold tvR
  simp only [nR 1 (by decide)]
  simp
theorem tvN (v : Int) (hv : isU v = true) (rest : List UInt8) : tvR (numBytes 0 4 ++ (numBytes 0 4 ++ (numBytes 0 4 ++ (numBytes v 4 ++ rest)))) 0 = (v, rest, 0) := by
  unfold tvR
  simp only [nR 0 (by decide), oNone 0 (by decide), nR v hv]
  simp
theorem fix_all (A : List UInt8) (h : A.length % 4 = 0) : fixR (A.length : Int) A 0 = (⟨A.toArray⟩, [], 0) := by
  have hp : pad A.length = 0 := by unfold pad; omega
  rw [fixR_nat, hp, if_neg (by omega)]
  simp
theorem bytes_nil {b : ByteArray} (h : b.toList.isEmpty = true) : b = ⟨#[]⟩ := by
  have h1 : b.toList = [] := List.isEmpty_iff.1 h
  apply ByteArray.ext
  apply Array.ext'
  simpa [ByteArray.toList_eq] using h1
theorem takeR_back (R : Rp) (h : R.ok = true) (h4 : R.body.size % 4 = 0) : takeR (R.head ++ R.body.data.toList) = R := by
  obtain ⟨xid, v, low, high, body⟩ := R
  simp only [Rp.ok, Bool.and_eq_true, decide_eq_true_eq, areU, List.all_cons, List.all_nil, and_true] at h
  obtain ⟨⟨⟨⟨⟨h0, h7⟩, hx, hl, hh⟩, h3⟩, h5⟩, h6⟩ := h
  have h4' : body.data.toList.length % 4 = 0 := by rw [Array.length_toList]; exact h4
  have hv : isU v = true := by unfold isU; simp; omega
  unfold Rp.head Rp.mid takeR
  simp only [putU, List.flatMap_cons, List.flatMap_nil, List.append_nil, opq_empty, List.append_assoc, nR xid hx, nR 1 (by decide)]
  by_cases c6 : v = 6
  · subst c6
    have hb := bytes_nil (show body.toList.isEmpty = true from by simpa [boB] using h6)
    subst hb
    simp only [if_true, List.append_assoc, tv6]
    unfold trR
    simp only [show loB 6 = true from rfl, show hiB 6 = true from rfl, show boB 6 = false from rfl, if_true, ifR_yes low hl, ifR_yes high hh]
    rfl
  · by_cases c7 : v = 7
    · subst c7
      have hb := bytes_nil (show body.toList.isEmpty = true from by simpa [boB] using h6)
      subst hb
      have e0 : high = 0 := by simpa [hiB] using h5
      subst e0
      simp only [if_neg c6, if_true, List.append_assoc, tv7]
      unfold trR
      simp only [show loB 7 = true from rfl, show hiB 7 = false from rfl, show boB 7 = false from rfl, if_true, ifR_yes low hl, ifR_no]
      rfl
    · simp only [if_neg c6, if_neg c7, List.append_assoc, tvN v hv]
      unfold trR
      by_cases c2 : v = 2
      · subst c2
        have hb := bytes_nil (show body.toList.isEmpty = true from by simpa [boB] using h6)
        subst hb
        simp only [show loB 2 = true from rfl, show hiB 2 = true from rfl, show boB 2 = false from rfl, if_true, ifR_yes low hl, ifR_yes high hh]
        rfl
      · have e1 : hiB v = false := by simp [hiB, c2, c6]
        have e2 : loB v = false := by simp [loB, e1, c7]
        have el : low = 0 := by simpa [e2] using h3
        have eh : high = 0 := by simpa [e1] using h5
        subst el eh
        simp only [e1, e2, Bool.false_eq_true, if_false, List.nil_append, ifR_no]
        by_cases c0 : v = 0
        · subst c0
          simp only [show boB 0 = true from rfl, if_true, fix_all _ h4']
        · have e3 : boB v = false := by simp [boB, c0]
          have hb := bytes_nil (show body.toList.isEmpty = true from by simpa [e3] using h6)
          subst hb
          simp [e3]
theorem restS_data {hd : List UInt8} {b s : ByteArray} (hc : restC hd b = 0) (hs : restS hd b = s) : s.data.toList = hd ++ b.data.toList ∧ b.size % 4 = 0 ∧ hd.length + b.size ≤ 65536 := by
  unfold restC at hc
  split at hc
  · omega
  · rename_i hr
    have hr' : b.size % 4 = 0 ∧ hd.length + b.size ≤ 65536 := by omega
    unfold restS at hs
    rw [if_neg hr] at hs
    subst hs
    exact ⟨by simp, hr'⟩
/-- What GetReply makes of a reply that was put. -/
theorem getR_back (R : Rp) (h : R.ok = true) (hc : restC R.head R.body = 0) : getR (restS R.head R.body) = (R, 0) := by
  obtain ⟨h1, h2, h3⟩ := restS_data hc rfl
  have hz : (restS R.head R.body).size ≤ 65536 := by
    have : (restS R.head R.body).size = (restS R.head R.body).data.toList.length := by simp
    rw [this, h1, List.length_append, Array.length_toList]
    exact h3
  unfold getR
  rw [if_neg (by omega), h1, takeR_back R h h2, if_pos ⟨h, hc, rfl⟩]
theorem rp_apart {R S : Rp} (h1 : R.ok = true) (h2 : S.ok = true) (c1 : restC R.head R.body = 0) (c2 : restC S.head S.body = 0) (h : restS R.head R.body = restS S.head S.body) : R = S := by
  have a := getR_back R h1 c1
  rw [h, getR_back S h2 c2] at a
  exact (Prod.mk.inj a).1.symm
theorem cl_apart {c d : Cl} (hc : c.unix = false) (hd : d.unix = false) (h1 : c.ok = true) (h2 : d.ok = true) (c1 : restC c.headP c.args = 0) (c2 : restC d.headP d.args = 0) (h : restS c.headP c.args = restS d.headP d.args) :
    c.xid = d.xid ∧ c.prog = d.prog ∧ c.vers = d.vers ∧ c.proc = d.proc ∧ c.args = d.args := by
  obtain ⟨k1, k2, k3⟩ := restS_data c1 rfl
  obtain ⟨m1, m2, m3⟩ := restS_data c2 rfl
  rw [h, m1] at k1
  simp only [Cl.ok, hc, hd, areU, Bool.and_eq_true, List.all_cons, List.all_nil, and_true] at h1 h2
  have q1 : c.args.data.toList.length = c.args.size := by simp
  have q2 : d.args.data.toList.length = d.args.size := by simp
  rw [headP_length] at k3 m3
  have a := get_whole c c.args.data.toList h1.1.1 h1.1.2.1 h1.1.2.2.1 h1.1.2.2.2 (by omega) (by omega)
  have b := get_whole d d.args.data.toList h2.1.1 h2.1.2.1 h2.1.2.2.1 h2.1.2.2.2 (by omega) (by omega)
  rw [← k1, b] at a
  simp only [Gco.ok.injEq] at a
  obtain ⟨a1, a2, a3, a4, _, _, _, _, _, _, a5⟩ := a
  refine ⟨a1.symm, a2.symm, a3.symm, a4.symm, ?_⟩
  apply ByteArray.ext
  simpa using a5.symm
end Go.Proofs.YtihkjgfghjgblaaGreatDoor.R
namespace Go.Proofs.YtihkjgfghjgblaaGreatDoor.R
open Go.RowKit
theorem numBytes_be (a b c d : UInt8) : numBytes (((256 * (256 * (256 * (256 * 0 + a.toNat) + b.toNat) + c.toNat) + d.toNat : Nat)) : Int) 4 = [a, b, c, d] := by
  have ha := a.toNat_lt
  have hb := b.toNat_lt
  have hc := c.toNat_lt
  have hd := d.toNat_lt
  generalize hn : (((256 * (256 * (256 * (256 * 0 + a.toNat) + b.toNat) + c.toNat) + d.toNat : Nat)) : Int) = n
  have h0 := byteAt_toNat n 0
  have h1 := byteAt_toNat n 8
  have h2 := byteAt_toNat n 16
  have h3 := byteAt_toNat n 24
  simp only [Int.reducePow] at h0 h1 h2 h3
  rw [nb4]
  have e3 : byteAt n 24 = a := UInt8.toNat_inj.1 (by omega)
  have e2 : byteAt n 16 = b := UInt8.toNat_inj.1 (by omega)
  have e1 : byteAt n 8 = c := UInt8.toNat_inj.1 (by omega)
  have e0 : byteAt n 0 = d := UInt8.toNat_inj.1 (by omega)
  rw [e3, e2, e1, e0]
/-- A number that was taken has just its bytes. -/
theorem numR_took {l : List UInt8} {n : Int} {l' : List UInt8} (h : numR 4 l 0 = (n, l', 0)) : l = numBytes n 4 ++ l' ∧ isU n = true := by
  unfold numR at h
  split at h
  · simp [failE] at h
  · rename_i hl
    match l, hl with
    | a :: b :: c :: d :: t, _ =>
      have ha := a.toNat_lt
      have hb := b.toNat_lt
      have hc := c.toNat_lt
      have hd := d.toNat_lt
      have hbe : be (List.take 4 (a :: b :: c :: d :: t)) = 256 * (256 * (256 * (256 * 0 + a.toNat) + b.toNat) + c.toNat) + d.toNat := rfl
      rw [hbe, IntWalk.i64_in _ (by omega)] at h
      simp only [Prod.mk.injEq, and_true] at h
      obtain ⟨h1, h2⟩ := h
      refine ⟨?_, ?_⟩
      · rw [← h1, numBytes_be, ← h2]; rfl
      · unfold isU
        rw [decide_eq_true_eq]
        omega
    | [], h => simp at h
    | [_], h => simp at h
    | [_, _], h => simp at h
    | [_, _, _], h => simp at h
/-- The error of a reader once it is there stays. -/
theorem numR_dead {l : List UInt8} {e : Int} (he : e ≠ 0) : (numR 4 l e).2.2 = e := by
  unfold numR failE
  split
  · rfl
  · rfl
theorem numR_live {l : List UInt8} {e n : Int} {l' : List UInt8} (h : numR 4 l e = (n, l', 0)) : e = 0 := by
  by_cases he : e = 0
  · exact he
  · have := numR_dead (l := l) he
    rw [h] at this
    exact this.symm
def Refs (v lo hi : Int) : Prop := (v = 6 ∧ lo = 2 ∧ hi = 2) ∨ (v = 4 ∧ lo = 0 ∧ hi = 0) ∨ (v = 7 ∧ (lo = 1 ∨ lo = 3 ∨ lo = 5) ∧ hi = 0)
theorem tail_refs {l : List UInt8} {e : Int} {f : ByteArray → Tc} (hf : ∀ a, (f a).isBad = false) {v lo hi : Int} (h : tailO l e f = .bad v lo hi) : Refs v lo hi := by
  unfold tailO at h
  split at h
  · simp only [Tc.bad.injEq] at h; unfold Refs; omega
  · split at h
    · simp only [Tc.bad.injEq] at h; unfold Refs; omega
    · split at h
      · simp only [Tc.bad.injEq] at h; unfold Refs; omega
      · have := hf (fixR (opqR 0 (numR 4 l e).2.1 (numR 4 l e).2.2).2.1.length (opqR 0 (numR 4 l e).2.1 (numR 4 l e).2.2).2.1 (opqR 0 (numR 4 l e).2.1 (numR 4 l e).2.2).2.2).1
        rw [h] at this
        cases this
theorem take_refs {l : List UInt8} {v lo hi : Int} (h : takeO l = .bad v lo hi) : Refs v lo hi := by
  unfold takeO at h
  dsimp only at h
  split at h
  · simp only [Tc.bad.injEq] at h; unfold Refs; omega
  · split at h
    · simp only [Tc.bad.injEq] at h; unfold Refs; omega
    · split at h
      · simp only [Tc.bad.injEq] at h; unfold Refs; omega
      · split at h
        · simp only [Tc.bad.injEq] at h; unfold Refs; omega
        · split at h
          · split at h
            · simp only [Tc.bad.injEq] at h; unfold Refs; omega
            · exact tail_refs (fun _ => rfl) h
          · split at h
            · simp only [Tc.bad.injEq] at h; unfold Refs; omega
            · exact tail_refs (fun _ => rfl) h
theorem get_refs {s : ByteArray} {xid v lo hi : Int} (h : getO s = .ref xid v lo hi) : 8 ≤ s.size ∧ (∃ l, s.data.toList = numBytes xid 4 ++ l) ∧ isU xid = true ∧ Refs v lo hi := by
  unfold getO at h
  generalize h1 : numR 4 s.data.toList 0 = A at h
  obtain ⟨x, l1, e1⟩ := A
  dsimp only at h
  generalize h2 : numR 4 l1 e1 = A at h
  obtain ⟨kind, l2, e2⟩ := A
  dsimp only at h
  split at h
  · cases h
  · split at h
    · cases h
    · rename_i hw
      split at h
      · cases h
      · have he2 : e2 = 0 := by
          have q1 := numR_err s.data.toList 0 (.inl rfl)
          rw [h1] at q1
          have q2 := numR_err l1 e1 q1
          rw [h2] at q2
          rcases q2 with q | q
          · exact q
          · have q' : e2 = 5 := q
            subst q'; revert hw; unfold wellR endR; simp
        subst he2
        have he1 := numR_live h2
        subst he1
        obtain ⟨b1, u1⟩ := numR_took h1
        obtain ⟨b2, _⟩ := numR_took h2
        generalize ht : takeO l2 = T at h
        cases T with
        | ok => cases h
        | bad a b c =>
          simp only [Gco.ref.injEq] at h
          obtain ⟨rfl, rfl, rfl, rfl⟩ := h
          refine ⟨?_, ⟨l1, b1⟩, u1, take_refs ht⟩
          have : s.size = s.data.toList.length := by simp
          rw [this, b1, b2]
          simp only [List.length_append, numBytes_length]
          omega
theorem refs_rp {xid v lo hi : Int} (hx : isU xid = true) (h : Refs v lo hi) : (Rp.mk xid v lo hi ⟨#[]⟩).ok = true ∧ restC (Rp.mk xid v lo hi ⟨#[]⟩).head ⟨#[]⟩ = 0 := by
  refine ⟨?_, ?_⟩
  · rcases h with ⟨rfl, rfl, rfl⟩ | ⟨rfl, rfl, rfl⟩ | ⟨rfl, h, rfl⟩
    · simp only [Rp.ok, areU, List.all_cons, hx]; kernel_rfl
    · simp only [Rp.ok, areU, List.all_cons, hx]; kernel_rfl
    · rcases h with rfl | rfl | rfl
      · simp only [Rp.ok, areU, List.all_cons, hx]; kernel_rfl
      · simp only [Rp.ok, areU, List.all_cons, hx]; kernel_rfl
      · simp only [Rp.ok, areU, List.all_cons, hx]; kernel_rfl
  · have := head_le (Rp.mk xid v lo hi ⟨#[]⟩)
    unfold restC
    rw [if_neg]
    have hz : (⟨#[]⟩ : ByteArray).size = 0 := rfl
    omega
/-- What GetReply makes of a refusal, and its first four bytes. -/
theorem refs_get {s : ByteArray} {xid v lo hi : Int} (h : getO s = .ref xid v lo hi) : getR (Rp.mk xid v lo hi ⟨#[]⟩).bytes = (⟨xid, v, lo, hi, ⟨#[]⟩⟩, 0) ∧ (Rp.mk xid v lo hi ⟨#[]⟩).bytes.extract 0 4 = s.extract 0 4 ∧ 4 ≤ (Rp.mk xid v lo hi ⟨#[]⟩).bytes.size := by
  obtain ⟨h8, ⟨l, hl⟩, hx, hr⟩ := get_refs h
  obtain ⟨ho, hc⟩ := refs_rp hx hr
  have e : (Rp.mk xid v lo hi ⟨#[]⟩).bytes = restS (Rp.mk xid v lo hi ⟨#[]⟩).head ⟨#[]⟩ := by unfold Rp.bytes; rw [if_pos ho]
  obtain ⟨d1, _, _⟩ := restS_data hc rfl
  rw [e]
  have t4 : ∀ m : List UInt8, (numBytes xid 4 ++ m).take 4 = numBytes xid 4 := fun m => by rw [List.take_append, List.take_of_length_le (by rw [numBytes_length]; omega), numBytes_length]; simp
  have d2 : (restS (Rp.mk xid v lo hi ⟨#[]⟩).head ⟨#[]⟩).data.toList = numBytes xid 4 ++ (numBytes 1 4 ++ ((Rp.mk xid v lo hi ⟨#[]⟩).mid ++ ((if loB v then numBytes lo 4 else []) ++ (if hiB v then numBytes hi 4 else [])))) := by
    rw [d1]
    unfold Rp.head
    simp [putU]
  refine ⟨getR_back (Rp.mk xid v lo hi ⟨#[]⟩) ho hc, ?_, ?_⟩
  · apply ByteArray.ext
    apply Array.ext'
    rw [ByteArray.data_extract, ByteArray.data_extract, Array.toList_extract, Array.toList_extract, d2, hl]
    simp only [List.extract_eq_take_drop, List.drop_zero, Nat.sub_zero, t4]
  · have : (restS (Rp.mk xid v lo hi ⟨#[]⟩).head ⟨#[]⟩).size = (restS (Rp.mk xid v lo hi ⟨#[]⟩).head ⟨#[]⟩).data.toList.length := by simp
    rw [this, d2, List.length_append, numBytes_length]
    omega
end Go.Proofs.YtihkjgfghjgblaaGreatDoor.R
namespace Go.Proofs.YtihkjgfghjgblaaGreatDoor.R
open Go.RowKit
theorem well_e {l : List UInt8} {e : Int} (h : e ≠ 6) : wellR l e = (e == 0) := by
  unfold wellR endR
  by_cases h0 : e = 0
  · subst h0
    by_cases hl : l.length = 0 <;> simp [hl]
  · simp [h0, h]
theorem fixR_err {n : Int} {l : List UInt8} {e : Int} : (fixR n l e).2.2 = e ∨ (e = 0 ∧ ((fixR n l e).2.2 = 5 ∨ (fixR n l e).2.2 = 4)) := by
  unfold fixR failE
  by_cases h0 : e = 0
  · subst h0
    split
    · exact .inl rfl
    · split
      · exact .inr ⟨rfl, .inl rfl⟩
      · split
        · exact .inl rfl
        · exact .inr ⟨rfl, .inr rfl⟩
  · left
    split
    · rfl
    · split
      · rfl
      · split
        · rfl
        · rfl
theorem numR_err2 {l : List UInt8} {e : Int} : (numR 4 l e).2.2 = e ∨ (e = 0 ∧ (numR 4 l e).2.2 = 5) := by
  unfold numR failE
  by_cases h0 : e = 0
  · subst h0
    split
    · exact .inr ⟨rfl, rfl⟩
    · exact .inl rfl
  · left
    split
    · rfl
    · rfl
theorem opqR_err {m : Int} {l : List UInt8} {e : Int} (h : e = 0 ∨ e = 5) : (opqR m l e).2.2 ≠ 6 := by
  unfold opqR
  have h1 := numR_err2 (l := l) (e := e)
  generalize numR 4 l e = A at *
  have hA : A.2.2 = 0 ∨ A.2.2 = 5 := by omega
  by_cases hc : (if m < 0 then 0 else m) < A.1
  · rw [if_pos hc]
    show failE A.2.2 2 ≠ 6
    unfold failE
    split <;> omega
  · rw [if_neg hc]
    have := fixR_err (n := A.1) (l := A.2.1) (e := A.2.2)
    omega
theorem numR_two {l : List UInt8} {v : Int} {l' : List UInt8} {e' : Int} (h : numR 4 l 0 = (v, l', e')) (hv : v ≠ 0) : e' = 0 := by
  unfold numR at h
  split at h
  · simp only [Prod.mk.injEq] at h
    exact absurd h.1.symm hv
  · simp only [Prod.mk.injEq] at h
    exact h.2.2.symm
theorem getO_big {s : ByteArray} (h : 65536 < s.size) : getO s = .err 2 := by
  unfold getO
  simp only [if_pos h]
theorem getO_short {s : ByteArray} (h : s.size < 8) : getO s = .err 5 := by
  unfold getO
  have hl : s.data.toList.length = s.size := by simp
  have hw : wellR (numR 4 (numR 4 s.data.toList 0).2.1 (numR 4 s.data.toList 0).2.2).2.1 (numR 4 (numR 4 s.data.toList 0).2.1 (numR 4 s.data.toList 0).2.2).2.2 = false := by
    by_cases h4 : s.data.toList.length < 4
    · rw [nShort h4, nDead]; rfl
    · have e1 : (numR 4 s.data.toList 0) = (IntKind.i64.wrap (be (s.data.toList.take 4)), s.data.toList.drop 4, 0) := by unfold numR; rw [if_neg h4]
      rw [e1]
      dsimp only
      rw [nShort (by rw [List.length_drop]; omega)]; rfl
  dsimp only
  rw [if_neg (by omega), if_pos hw]
theorem getO_eq {s : ByteArray} {xid kind : Int} {l1 l2 : List UInt8} (hs : s.size ≤ 65536) (h1 : numR 4 s.data.toList 0 = (xid, l1, 0)) (h2 : numR 4 l1 0 = (kind, l2, 0)) :
    getO s = if kind ≠ 0 then .err 4 else match takeO l2 with
      | .bad v lo hi => .ref xid v lo hi
      | .ok prog vers proc unix st m uid gid G args => .ok xid prog vers proc unix st m uid gid G args := by
  unfold getO
  simp only [h1, h2]
  rw [if_neg (by omega), if_neg (by simp [wellOk])]
theorem takeO_ver {l2 : List UInt8} {v : Int} {l3 : List UInt8} {e3 : Int} (h3 : numR 4 l2 0 = (v, l3, e3)) (hv : v ≠ 2) : takeO l2 = .bad 6 2 2 := by
  unfold takeO
  simp only [h3]
  rw [if_pos hv]
theorem takeO_eq {l2 l3 l4 l5 l6 l7 l8 : List UInt8} {prog vers proc fl e4 e5 e6 e7 e8 : Int} {body : ByteArray} (h3 : numR 4 l2 0 = (2, l3, 0)) (h4 : numR 4 l3 0 = (prog, l4, e4)) (h5 : numR 4 l4 e4 = (vers, l5, e5)) (h6 : numR 4 l5 e5 = (proc, l6, e6)) (h7 : numR 4 l6 e6 = (fl, l7, e7)) (h8 : opqR 400 l7 e7 = (body, l8, e8)) :
    takeO l2 = if e6 ≠ 0 then .bad 4 0 0 else if e8 ≠ 0 then .bad 7 1 0 else if 1 < fl then .bad 7 5 0
      else if fl = 1 then (match unixO body with
        | none => .bad 7 1 0
        | some (st, m, uid, gid, G) => tailO l8 e8 (.ok prog vers proc true st m uid gid G))
      else if body.toList.isEmpty = false then .bad 7 1 0
      else tailO l8 e8 (.ok prog vers proc false 0 ⟨#[]⟩ 0 0 []) := by
  have q4 := numR_err2 (l := l3) (e := 0)
  rw [h4] at q4
  have q5 := numR_err2 (l := l4) (e := e4)
  rw [h5] at q5
  have q6 := numR_err2 (l := l5) (e := e5)
  rw [h6] at q6
  have q7 := numR_err2 (l := l6) (e := e6)
  rw [h7] at q7
  dsimp only at q4 q5 q6 q7
  have q8 := opqR_err (m := 400) (l := l7) (e := e7) (by omega)
  rw [h8] at q8
  dsimp only at q8
  unfold takeO
  simp only [h3, h4, h5, h6, h7, h8, well_e (show e6 ≠ 6 by omega), well_e q8]
  rw [if_neg (by decide)]
  by_cases c6 : e6 = 0
  · subst c6
    by_cases c8 : e8 = 0
    · subst c8; simp
    · simp [c8]
  · simp [c6]
theorem opq400 {l : List UInt8} {e : Int} (he : e = 0 ∨ e = 5) {b : ByteArray} {l' : List UInt8} {e' : Int} (h : opqR 400 l e = (b, l', e')) :
    (e' = 0 ∧ b.toList.isEmpty = true ∧ opqR 0 l e = (⟨#[]⟩, l', 0)) ∨ ((e' ≠ 0 ∨ b.toList.isEmpty = false) ∧ (opqR 0 l e).2.2 ≠ 0 ∧ (opqR 0 l e).2.2 ≠ 6) := by
  have h6 := opqR_err (m := 0) (l := l) he
  have hn := numR_nat l e
  have hne := numR_err2 (l := l) (e := e)
  unfold opqR at h h6 ⊢
  generalize numR 4 l e = A at *
  simp only [show (if (400 : Int) < 0 then (0 : Int) else 400) = 400 from rfl, show (if (0 : Int) < 0 then (0 : Int) else 0) = 0 from rfl] at h h6 ⊢
  by_cases c0 : A.1 = 0
  · rw [if_neg (by omega)] at h
    rw [if_neg (by omega)] at h6 ⊢
    rw [c0] at h h6 ⊢
    have e0 : fixR 0 A.2.1 A.2.2 = (⟨#[]⟩, A.2.1, A.2.2) := by
      unfold fixR
      rw [if_neg (by decide), if_neg (by simp [pad]), if_pos (by simp [pad])]
      simp [pad]
    rw [e0] at h h6 ⊢
    dsimp only at h6
    simp only [Prod.mk.injEq] at h
    obtain ⟨rfl, rfl, rfl⟩ := h
    by_cases c : A.2.2 = 0
    · left; exact ⟨c, by decide +kernel, by rw [c]⟩
    · right; exact ⟨.inl c, c, by omega⟩
  · have c1 : 0 < A.1 := by omega
    rw [if_pos c1] at h6 ⊢
    right
    refine ⟨?_, ?_, h6⟩
    · by_cases c4 : (400 : Int) < A.1
      · rw [if_pos c4] at h
        simp only [Prod.mk.injEq] at h
        left
        rw [← h.2.2]
        show failE A.2.2 2 ≠ 0
        unfold failE; split <;> omega
      · rw [if_neg c4] at h
        unfold fixR at h
        rw [if_neg (by omega)] at h
        split at h
        · simp only [Prod.mk.injEq] at h
          left
          rw [← h.2.2]; unfold failE; split <;> omega
        · rename_i hlen
          split at h
          · simp only [Prod.mk.injEq] at h
            right
            rw [← h.1]
            have hl : (A.2.1.take A.1.toNat).length = A.1.toNat := by rw [List.length_take]; omega
            cases hq : A.2.1.take A.1.toNat with
            | nil => rw [hq] at hl; simp at hl; omega
            | cons x r => simp [ByteArray.toList_eq]
          · simp only [Prod.mk.injEq] at h
            left
            rw [← h.2.2]; unfold failE; split <;> omega
    · show failE A.2.2 2 ≠ 0
      unfold failE; split <;> omega
theorem tailO_eq {l8 l9 l10 : List UInt8} {fl2 e9 e10 : Int} {b2 : ByteArray} {f : ByteArray → Tc} (h9 : numR 4 l8 0 = (fl2, l9, e9)) (h10 : opqR 400 l9 e9 = (b2, l10, e10)) :
    tailO l8 0 f = if e10 ≠ 0 ∨ fl2 ≠ 0 ∨ b2.toList.isEmpty = false ∨ l10.length % 4 ≠ 0 then .bad 7 3 0 else f ⟨l10.toArray⟩ := by
  have q9 := numR_err2 (l := l8) (e := 0)
  rw [h9] at q9
  dsimp only at q9
  unfold tailO
  simp only [h9]
  rcases opq400 (by omega) h10 with ⟨rfl, hb, h0⟩ | ⟨hb, k1, k2⟩
  · rw [h0]
    dsimp only
    rw [if_neg (by simp [wellOk])]
    by_cases cf : fl2 ≠ 0
    · rw [if_pos cf, if_pos (.inr (.inl cf))]
    · rw [if_neg cf]
      by_cases cl : l10.length % 4 ≠ 0
      · rw [if_pos cl, if_pos (.inr (.inr (.inr cl)))]
      · rw [if_neg cl, if_neg (by rw [hb]; simp; omega), fix_all _ (by omega)]
  · rw [well_e k2, if_pos (by simpa using k1), if_pos (by rcases hb with h | h; exact .inl h; exact .inr (.inr (.inl h)))]
end Go.Proofs.YtihkjgfghjgblaaGreatDoor.R
namespace Go.Proofs.YtihkjgfghjgblaaGreatDoor.R
open Go.RowKit
theorem opaque_cons (s : ByteArray) : opaqueOf s = numBytes s.size 4 ++ fixedOf s := rfl
/-- A text that was taken has just its bytes. -/
theorem opqR_took {m : Int} (hm : 0 ≤ m) (hm2 : m ≤ 1000000) {l : List UInt8} {b : ByteArray} {l' : List UInt8} (h : opqR m l 0 = (b, l', 0)) : l = opaqueOf b ++ l' ∧ (b.size : Int) ≤ m := by
  unfold opqR at h
  have hn := numR_nat l 0
  generalize hA : numR 4 l 0 = A at h hn
  obtain ⟨n, l1, e1⟩ := A
  dsimp only at h hn
  rw [if_neg (show ¬ m < 0 by omega)] at h
  by_cases c : m < n
  · rw [if_pos c] at h
    simp only [Prod.mk.injEq] at h
    have := h.2.2
    unfold failE at this
    split at this <;> omega
  · rw [if_neg c] at h
    obtain ⟨k, rfl⟩ : ∃ k : Nat, n = k := ⟨n.toNat, by omega⟩
    rw [fixR_nat] at h
    split at h
    · simp only [Prod.mk.injEq] at h
      have := h.2.2
      unfold failE at this
      split at this <;> omega
    · rename_i hl
      split at h
      · rename_i hz
        simp only [Prod.mk.injEq] at h
        obtain ⟨rfl, rfl, rfl⟩ := h
        obtain ⟨h1, _⟩ := numR_took hA
        have hp := pad_lt k
        have hsz : (⟨(l1.take k).toArray⟩ : ByteArray).size = k := by
          show (l1.take k).toArray.size = k
          simp; omega
        refine ⟨?_, by rw [hsz]; omega⟩
        rw [h1, opaque_cons, hsz]
        have hf : fixedOf ⟨(l1.take k).toArray⟩ = l1.take k ++ List.replicate (pad k) 0 := by
          unfold fixedOf
          rw [hsz]
        rw [hf]
        have hr : (l1.drop k).take (pad k) = List.replicate (pad k) 0 := by
          apply List.eq_replicate_iff.2
          refine ⟨by rw [List.length_take, List.length_drop]; omega, fun x hx => ?_⟩
          have := List.all_eq_true.1 hz x hx
          simpa using this
        have e1 : l1 = l1.take k ++ ((l1.drop k).take (pad k) ++ l1.drop (k + pad k)) := by
          rw [← List.drop_drop, List.take_append_drop, List.take_append_drop]
        conv => lhs; rw [e1, hr]
        simp
      · simp only [Prod.mk.injEq] at h
        have := h.2.2
        unfold failE at this
        split at this <;> omega
theorem opqR_live {m : Int} {l : List UInt8} {e : Int} {b : ByteArray} {l' : List UInt8} (h : opqR m l e = (b, l', 0)) : e = 0 := by
  by_cases he : e = 0
  · exact he
  · exfalso
    unfold opqR at h
    have h1 := numR_err2 (l := l) (e := e)
    generalize numR 4 l e = A at h h1
    have hA : A.2.2 = e := by omega
    by_cases c : (if m < 0 then 0 else m) < A.1
    · rw [if_pos c] at h
      simp only [Prod.mk.injEq] at h
      have := h.2.2
      unfold failE at this
      rw [if_neg (by omega)] at this
      omega
    · rw [if_neg c] at h
      have := fixR_err (n := A.1) (l := A.2.1) (e := A.2.2)
      rw [h] at this
      dsimp only at this
      omega
theorem grpR_live {l : List UInt8} {e : Int} : ∀ k, (grpR l e k).2.2 = 0 → e = 0
  | 0, h => h
  | k + 1, h => by
    have h1 := numR_err2 (l := (grpR l e k).2.1) (e := (grpR l e k).2.2)
    have h2 : (numR 4 (grpR l e k).2.1 (grpR l e k).2.2).2.2 = 0 := h
    exact grpR_live (l := l) k (by omega)
theorem grpR_took {l : List UInt8} : ∀ k, (grpR l 0 k).2.2 = 0 → l = putU (grpR l 0 k).1 ++ (grpR l 0 k).2.1 ∧ areU (grpR l 0 k).1 = true
  | 0, _ => ⟨rfl, rfl⟩
  | k + 1, h => by
    obtain ⟨n, l', e', hn⟩ : ∃ n l' e', numR 4 (grpR l 0 k).2.1 (grpR l 0 k).2.2 = (n, l', e') := ⟨_, _, _, rfl⟩
    have hg : grpR l 0 (k + 1) = ((grpR l 0 k).1 ++ [n], l', e') := by show (_, _, _) = _; rw [hn]
    rw [hg] at h ⊢
    dsimp only at h ⊢
    subst h
    have h0 := numR_live hn
    obtain ⟨i1, i2⟩ := grpR_took k h0
    rw [h0] at hn
    obtain ⟨j1, j2⟩ := numR_took hn
    refine ⟨?_, ?_⟩
    · conv => lhs; rw [i1, j1]
      simp [putU]
    · unfold areU at i2 ⊢
      rw [List.all_append, i2]
      simp [j2]
theorem endR_zero {l : List UInt8} {e : Int} (h : endR l e = 0) : e = 0 ∧ l = [] := by
  unfold endR at h
  split at h
  · split at h
    · rename_i h0 h1
      exact ⟨h0, List.eq_nil_of_length_eq_zero h1⟩
    · omega
  · exact absurd h ‹_›
theorem unixO_took {body : ByteArray} {st : Int} {m : ByteArray} {uid gid : Int} {G : List Int} (h : unixO body = some (st, m, uid, gid, G)) :
    body.data.toList = numBytes st 4 ++ opaqueOf m ++ putU [uid, gid, (G.length : Int)] ++ putU G ∧ isU st = true ∧ isU uid = true ∧ isU gid = true ∧ m.size ≤ 255 ∧ G.length ≤ 16 ∧ areU G = true := by
  unfold unixO at h
  obtain ⟨a, l1, e1, h1⟩ : ∃ n l e, numR 4 body.data.toList 0 = (n, l, e) := ⟨_, _, _, rfl⟩
  obtain ⟨b, l2, e2, h2⟩ : ∃ n l e, opqR 255 l1 e1 = (n, l, e) := ⟨_, _, _, rfl⟩
  obtain ⟨c, l3, e3, h3⟩ : ∃ n l e, numR 4 l2 e2 = (n, l, e) := ⟨_, _, _, rfl⟩
  obtain ⟨d, l4, e4, h4⟩ : ∃ n l e, numR 4 l3 e3 = (n, l, e) := ⟨_, _, _, rfl⟩
  obtain ⟨k, l5, e5, h5⟩ : ∃ n l e, numR 4 l4 e4 = (n, l, e) := ⟨_, _, _, rfl⟩
  simp only [h1, h2, h3, h4, h5] at h
  split at h
  · rename_i hc
    simp only [Bool.and_eq_true, decide_eq_true_eq, beq_iff_eq] at hc
    simp only [Option.some.injEq, Prod.mk.injEq] at h
    obtain ⟨rfl, rfl, rfl, rfl, rfl⟩ := h
    obtain ⟨z1, z2⟩ := endR_zero hc.2
    have y5 := grpR_live _ z1
    subst y5
    have y4 := numR_live h5
    subst y4
    have y3 := numR_live h4
    subst y3
    have y2 := numR_live h3
    subst y2
    have y1 := opqR_live h2
    subst y1
    obtain ⟨p1, u1⟩ := numR_took h1
    obtain ⟨p2, u2⟩ := opqR_took (by decide) (by decide) h2
    obtain ⟨p3, u3⟩ := numR_took h3
    obtain ⟨p4, u4⟩ := numR_took h4
    obtain ⟨p5, u5⟩ := numR_took h5
    obtain ⟨p6, u6⟩ := grpR_took _ z1
    have hk := of_decide_eq_true u5
    have hl := (grpR_len l5 0 k.toNat).1
    refine ⟨?_, u1, u3, u4, by omega, by omega, u6⟩
    rw [hl, p1, p2, p3, p4, p5]
    conv => lhs; rw [p6, z2]
    simp [putU, Int.toNat_of_nonneg hk.1]
  · cases h
theorem tail_took {l : List UInt8} {f : ByteArray → Tc} (h : (tailO l 0 f).isBad = false) : ∃ A : List UInt8, l = numBytes 0 4 ++ (numBytes 0 4 ++ A) ∧ A.length % 4 = 0 ∧ tailO l 0 f = f ⟨A.toArray⟩ := by
  obtain ⟨fl2, l9, e9, h9⟩ : ∃ n l' e, numR 4 l 0 = (n, l', e) := ⟨_, _, _, rfl⟩
  obtain ⟨b2, l10, e10, h10⟩ : ∃ n l' e, opqR 400 l9 e9 = (n, l', e) := ⟨_, _, _, rfl⟩
  have ht := tailO_eq (f := f) h9 h10
  rw [ht] at h
  split at h
  · cases h
  · rename_i hc
    rw [if_neg hc] at ht
    simp only [not_or, Decidable.not_not] at hc
    obtain ⟨rfl, rfl, hb, hl⟩ := hc
    have y := opqR_live h10
    subst y
    obtain ⟨p1, _⟩ := numR_took h9
    obtain ⟨p2, _⟩ := opqR_took (by decide) (by decide) h10
    have hb0 := bytes_nil (show b2.toList.isEmpty = true by simpa using hb)
    subst hb0
    rw [opq_empty] at p2
    exact ⟨l10, by rw [p1, p2], hl, ht⟩
/-- A call that was taken: it can be laid out, and has just these bytes. -/
theorem getO_took {s : ByteArray} {xid prog vers proc : Int} {unix : Bool} {st : Int} {m : ByteArray} {uid gid : Int} {G : List Int} {args : ByteArray} (h : getO s = .ok xid prog vers proc unix st m uid gid G args) :
    (Cl.mk xid prog vers proc unix st m uid gid G args).ok = true ∧ restC (Cl.mk xid prog vers proc unix st m uid gid G args).head args = 0 ∧ restS (Cl.mk xid prog vers proc unix st m uid gid G args).head args = s := by
  have hbig : s.size ≤ 65536 := by
    by_cases hb : 65536 < s.size
    · rw [getO_big hb] at h; cases h
    · omega
  have h8 : 8 ≤ s.size := by
    by_cases hb : s.size < 8
    · rw [getO_short hb] at h; cases h
    · omega
  have hl0 : s.data.toList.length = s.size := by simp
  obtain ⟨x, l1, h1⟩ : ∃ n l', numR 4 s.data.toList 0 = (n, l', 0) := ⟨_, _, by unfold numR; rw [if_neg (by omega)]⟩
  have hl1 : l1.length + 4 = s.data.toList.length := by rw [(numR_took h1).1, List.length_append, numBytes_length]; omega
  obtain ⟨kind, l2, h2⟩ : ∃ n l', numR 4 l1 0 = (n, l', 0) := ⟨_, _, by unfold numR; rw [if_neg (by omega)]⟩
  have hget := getO_eq hbig h1 h2
  rw [h] at hget
  by_cases hk : kind ≠ 0
  · rw [if_pos hk] at hget; cases hget
  · rw [if_neg hk] at hget
    have hk0 : kind = 0 := by omega
    subst hk0
    obtain ⟨v, l3, e3, h3⟩ : ∃ n l e, numR 4 l2 0 = (n, l, e) := ⟨_, _, _, rfl⟩
    by_cases hv : v ≠ 2
    · rw [takeO_ver h3 hv] at hget; cases hget
    · have hv2 : v = 2 := by omega
      subst hv2
      have he3 := numR_two h3 (by decide)
      subst he3
      obtain ⟨pr, l4, e4, h4⟩ : ∃ n l e, numR 4 l3 0 = (n, l, e) := ⟨_, _, _, rfl⟩
      obtain ⟨ve, l5, e5, h5⟩ : ∃ n l e, numR 4 l4 e4 = (n, l, e) := ⟨_, _, _, rfl⟩
      obtain ⟨pc, l6, e6, h6⟩ : ∃ n l e, numR 4 l5 e5 = (n, l, e) := ⟨_, _, _, rfl⟩
      obtain ⟨fl, l7, e7, h7⟩ : ∃ n l e, numR 4 l6 e6 = (n, l, e) := ⟨_, _, _, rfl⟩
      obtain ⟨body, l8, e8, h8'⟩ : ∃ n l e, opqR 400 l7 e7 = (n, l, e) := ⟨_, _, _, rfl⟩
      rw [takeO_eq h3 h4 h5 h6 h7 h8'] at hget
      by_cases c6 : e6 ≠ 0
      · rw [if_pos c6] at hget; cases hget
      rw [if_neg c6] at hget
      by_cases c8 : e8 ≠ 0
      · rw [if_pos c8] at hget; cases hget
      rw [if_neg c8] at hget
      by_cases cf : 1 < fl
      · rw [if_pos cf] at hget; cases hget
      rw [if_neg cf] at hget
      have y8 : e8 = 0 := by omega
      subst y8
      have y7 := opqR_live h8'
      subst y7
      have y6 : e6 = 0 := by omega
      subst y6
      have y5 := numR_live h6
      subst y5
      have y4 := numR_live h5
      subst y4
      obtain ⟨p1, u1⟩ := numR_took h1
      obtain ⟨p2, _⟩ := numR_took h2
      obtain ⟨p3, _⟩ := numR_took h3
      obtain ⟨p4, u4⟩ := numR_took h4
      obtain ⟨p5, u5⟩ := numR_took h5
      obtain ⟨p6, u6⟩ := numR_took h6
      obtain ⟨p7, u7⟩ := numR_took h7
      obtain ⟨p8, _⟩ := opqR_took (by decide) (by decide) h8'
      have hf0 := (of_decide_eq_true u7).1
      have fin : ∀ (c : Cl) (A : List UInt8), c.ok = true → c.args = ⟨A.toArray⟩ → A.length % 4 = 0 → s.data.toList = c.head ++ A → c.ok = true ∧ restC c.head c.args = 0 ∧ restS c.head c.args = s := by
        intro c A k1 k2 k3 k4
        have hA : c.args.size = A.length := by rw [k2]; show A.toArray.size = _; simp
        have hcs : ¬ (c.args.size % 4 ≠ 0 ∨ 65536 < c.head.length + c.args.size) := by
          have : s.data.toList.length = c.head.length + A.length := by rw [k4, List.length_append]
          omega
        refine ⟨k1, if_neg hcs, ?_⟩
        unfold restS
        rw [if_neg hcs]
        apply ByteArray.ext
        apply Array.ext'
        rw [k4, k2]
      by_cases c1 : fl = 1
      · subst c1
        rw [if_pos rfl] at hget
        generalize hu : unixO body = U at hget
        cases U with
        | none => cases hget
        | some t =>
          obtain ⟨st', m', uid', gid', G'⟩ := t
          dsimp only at hget
          obtain ⟨w1, w2, w3, w4, w5, w6, w7⟩ := unixO_took hu
          have hbad : (tailO l8 0 (Tc.ok pr ve pc true st' m' uid' gid' G')).isBad = false := by
            generalize tailO l8 0 (Tc.ok pr ve pc true st' m' uid' gid' G') = T at hget
            cases T with
            | bad => cases hget
            | ok => rfl
          obtain ⟨A, t1, t2, t3⟩ := tail_took hbad
          rw [t3] at hget
          simp only [Gco.ok.injEq] at hget
          obtain ⟨rfl, rfl, rfl, rfl, rfl, rfl, rfl, rfl, rfl, rfl, rfl⟩ := hget
          refine fin _ A ?_ rfl t2 ?_
          · simp [Cl.ok, areU, u1, u4, u5, u6, w2, w3, w4, w5, w6]
            unfold areU at w7
            simpa using w7
          · have hcr : (⟨(Cl.mk xid prog vers proc true st m uid gid G ⟨A.toArray⟩).cred.toArray⟩ : ByteArray) = body := by
              apply ByteArray.ext
              apply Array.ext'
              rw [w1]; rfl
            unfold Cl.head
            rw [hcr, p1, p2, p3, p4, p5, p6, p7, p8, t1]
            simp [putU, opq_empty]
      · have c0 : fl = 0 := by omega
        subst c0
        rw [if_neg (by decide)] at hget
        by_cases cb : body.toList.isEmpty = false
        · rw [if_pos cb] at hget; cases hget
        rw [if_neg cb] at hget
        have hb0 := bytes_nil (show body.toList.isEmpty = true by simpa using cb)
        subst hb0
        have hbad : (tailO l8 0 (Tc.ok pr ve pc false 0 ⟨#[]⟩ 0 0 [])).isBad = false := by
          generalize tailO l8 0 (Tc.ok pr ve pc false 0 ⟨#[]⟩ 0 0 []) = T at hget
          cases T with
          | bad => cases hget
          | ok => rfl
        obtain ⟨A, t1, t2, t3⟩ := tail_took hbad
        rw [t3] at hget
        simp only [Gco.ok.injEq] at hget
        obtain ⟨rfl, rfl, rfl, rfl, rfl, rfl, rfl, rfl, rfl, rfl, rfl⟩ := hget
        refine fin _ A ?_ rfl t2 ?_
        · simp only [Cl.ok, Cl.zero, areU, List.all_cons, u1, u4, u5, u6]
          kernel_rfl
        · unfold Cl.head
          rw [p1, p2, p3, p4, p5, p6, p7, p8, t1]
          simp [putU, opq_empty]
end Go.Proofs.YtihkjgfghjgblaaGreatDoor.R
namespace Go.Proofs.YtihkjgfghjgblaaGreatDoor.R
open Go.RowKit
theorem IntsAt.alloc {w : World} {ao : Option Addr} {L : List Int} (h : IntsAt w ao L) (o : Obj) : IntsAt (w.alloc o) ao L := h.below ((Below.refl _ _).alloc (Nat.le_refl _) o)

set_option maxRecDepth 100000 in
set_option maxHeartbeats 2000000 in
theorem isCall_unix (xid prog vers proc stamp uid gid : Int) (mach args : ByteArray) (G : List Int) (ao : Option Addr) (cap : Nat) (w : World) (hI : IntsAt w ao G) (hG : G.length ≤ 140737488355328) (b : Bool) (hb : Cl.ok ⟨xid, prog, vers, proc, true, stamp, mach, uid, gid, G, args⟩ = b) :
    Calls Tryz.prog 18 #[.agg #[.int .i64 xid, .int .i64 prog, .int .i64 vers, .int .i64 proc, .bool true, .int .i64 stamp, .string mach, .int .i64 uid, .int .i64 gid, .slice ao G.length cap, .string args]] w
      fun e w' => e = .returned (.bool b) ∧ Below w.heap.size w w' := by
  have HI := Lib.hid hI
  clear hI
  obtain ⟨b1, h1⟩ : ∃ b, areU [xid, prog, vers, proc] = b := ⟨_, rfl⟩
  obtain ⟨b2, h2⟩ : ∃ b, areU [stamp, uid, gid] = b := ⟨_, rfl⟩
  obtain ⟨b3, h3⟩ : ∃ b, areU G = b := ⟨_, rfl⟩
  have hb' : (b1 && (b2 && decide (mach.size ≤ 255) && decide (G.length ≤ 16) && b3)) = b := by rw [← hb, ← h1, ← h2, ← h3]; rfl
  have HB := Lib.hid hb'
  have H1 := Lib.hid h1
  have H2 := Lib.hid h2
  have H3 := Lib.hid h3
  clear h1 h2 h3 hb hb'
  go_enter Tryz.func18, Tryz.ntmps18
  go_wp2_with fail
  refine (areU_n [xid, prog, vers, proc] 4 rfl (some ⟨w.heap.size + 1, 0, none⟩) 4 _ (built4 _ _ (by simp) _ _ _ _) (by decide) b1 H1.out).mono ?_
  rintro e w' ⟨rfl, rfl⟩
  cases b1
  · go_wp2
    go_ret
    exact ⟨by rw [← HB.out]; rfl, ((Below.refl _ w).alloc (Nat.le_refl _) _).alloc (by simp) _⟩
  · go_wp2_with fail
    refine (areU_n [stamp, uid, gid] 3 rfl (some ⟨w.heap.size + 1 + 1, 0, none⟩) 3 _ (built3 _ _ (by simp) _ _ _) (by decide) b2 H2.out).mono ?_
    rintro e w' ⟨rfl, rfl⟩
    cases b2
    · go_wp2
      go_ret
      exact ⟨by rw [← HB.out]; rfl, (((Below.refl _ w).alloc (Nat.le_refl _) _).alloc (by simp) _).alloc (by simp; omega) _⟩
    · by_cases c1 : mach.size ≤ 255
      · have d1 : decide ((mach.size : Int) ≤ 255) = true := decide_eq_true (by omega)
        by_cases c2 : G.length ≤ 16
        · have d2 : decide ((G.length : Int) ≤ 16) = true := decide_eq_true (by omega)
          go_wp2_with fail
          refine (areU_n G G.length rfl ao cap _ (((HI.out.alloc _).alloc _).alloc _) (by omega) b3 H3.out).mono ?_
          rintro e w' ⟨rfl, rfl⟩
          go_wp2
          go_ret
          exact ⟨by rw [← HB.out]; simp [c1, c2], (((Below.refl _ w).alloc (Nat.le_refl _) _).alloc (by simp) _).alloc (by simp; omega) _⟩
        · have d2 : decide ((G.length : Int) ≤ 16) = false := decide_eq_false (by omega)
          go_wp2
          go_ret
          exact ⟨by rw [← HB.out]; simp [c1, c2], (((Below.refl _ w).alloc (Nat.le_refl _) _).alloc (by simp) _).alloc (by simp; omega) _⟩
      · have d1 : decide ((mach.size : Int) ≤ 255) = false := decide_eq_false (by omega)
        go_wp2
        go_ret
        exact ⟨by rw [← HB.out]; simp [c1], (((Below.refl _ w).alloc (Nat.le_refl _) _).alloc (by simp) _).alloc (by simp; omega) _⟩
end Go.Proofs.YtihkjgfghjgblaaGreatDoor.R
namespace Go.Proofs.YtihkjgfghjgblaaGreatDoor.R
open Go.RowKit
theorem ret_str {a b : ByteArray} (h : a = b) : Ending.returned (.string a) = .returned (.string b) := by rw [h]
/-- A writer at work beside a call in its box and the call's groups. -/
structure Uw (w : World) (B p : Nat) (ao : Option Addr) (G : List Int) (cs : Array Value) (v : Value) (l : List UInt8) (wc : World) : Prop where
  wr : Wr wc p v l
  box : wc.heap[B]? = some (.cells cs 26 (0, 0))
  ints : IntsAt wc ao G
  low : Below w.heap.size w wc
  own : ∀ k, v.ownBlock = some k → w.heap.size ≤ k
theorem Uw.below {w wc w' : World} {B p : Nat} {ao : Option Addr} {G : List Int} {cs : Array Value} {v : Value} {l : List UInt8} (h : Uw w B p ao G cs v l wc) (hb : Below wc.heap.size wc w') : Uw w B p ao G cs v l w' :=
  ⟨h.wr.below hb, (hb.block _ (Array.getElem?_eq_some_iff.1 h.box).1).trans h.box, h.ints.below hb, h.low.trans (hb.mono h.low.size), h.own⟩
theorem Uw.alloc {w wc : World} {B p : Nat} {ao : Option Addr} {G : List Int} {cs : Array Value} {v : Value} {l : List UInt8} (h : Uw w B p ao G cs v l wc) (o : Obj) : Uw w B p ao G cs v l (wc.alloc o) := h.below ((Below.refl _ _).alloc (Nat.le_refl _) o)
theorem Uw.step {w wc w' : World} {B p : Nat} {ao : Option Addr} {G : List Int} {cs : Array Value} {v : Value} {l l' : List UInt8} (h : Uw w B p ao G cs v l wc) (hp : w.heap.size ≤ p) (hao : ∀ g off, ao = some ⟨g, off, none⟩ → g < w.heap.size)
    (ht : WrTo wc p v l' w') : ∃ v', Uw w B p ao G cs v' l' w' := by
  obtain ⟨v', hw, hc⟩ := ht
  have hs := h.low.size
  refine ⟨v', hw, h.wr.far hc h.box (by decide), h.ints.kept hc ?_, h.low.trans (hc.below hs hp h.own), ?_⟩
  · intro g off e
    have h1 := hao g off e
    exact ⟨by omega, fun e2 => by have := h.own g e2.symm; omega⟩
  · intro k hk
    rcases hc.own with e | ⟨g, e, hg⟩
    · rw [e] at hk; exact h.own k hk
    · rw [e] at hk
      have : g = k := by simpa using hk
      omega
section
variable {w wc : World} {B p : Nat} {ao : Option Addr} {G : List Int} {cs : Array Value} {v : Value} {l : List UInt8}
theorem uint_u (h : Uw w B p ao G cs v l wc) (hp : w.heap.size ≤ p) (hao : ∀ g off, ao = some ⟨g, off, none⟩ → g < w.heap.size) (n : Int) (hb : l.length ≤ 1000000) :
    Calls Tryz.prog 20 #[.pointer (some ⟨p, 0, none⟩), .int .i64 n] wc fun e w' => e = .returned (.tuple #[]) ∧ ∃ v', Uw w B p ao G cs v' (l ++ numBytes n 4) w' :=
  (uint_any p v l n wc h.wr (by omega)).mono fun _ _ ⟨a, b⟩ => ⟨a, h.step hp hao b⟩
theorem opaque_u (h : Uw w B p ao G cs v l wc) (hp : w.heap.size ≤ p) (hao : ∀ g off, ao = some ⟨g, off, none⟩ → g < w.heap.size) (s : ByteArray) (hb : l.length ≤ 1000000) (hs : s.size ≤ 1000000) :
    Calls Tryz.prog 21 #[.pointer (some ⟨p, 0, none⟩), .string s] wc fun e w' => e = .returned (.tuple #[]) ∧ ∃ v', Uw w B p ao G cs v' (l ++ opaqueOf s) w' :=
  (opaque_any p v l s wc h.wr (by omega)).mono fun _ _ ⟨a, b⟩ => ⟨a, h.step hp hao b⟩
theorem putU_u (h : Uw w B p ao G cs v l wc) (hp : w.heap.size ≤ p) (hao : ∀ g off, ao = some ⟨g, off, none⟩ → g < w.heap.size) (L : List Int) (n : Nat) (hn : L.length = n) (bo : Option Addr) (cap : Nat) (hI : IntsAt wc bo L) (hbo : ∀ g off, bo = some ⟨g, off, none⟩ → g ≠ p ∧ some g ≠ v.ownBlock) (hb : l.length ≤ 1000000) (hL : n ≤ 1000000) :
    Calls Tryz.prog 19 #[.pointer (some ⟨p, 0, none⟩), .slice bo n cap] wc fun e w' => e = .returned (.tuple #[]) ∧ ∃ v', Uw w B p ao G cs v' (l ++ putU L) w' :=
  (putU_n p v l L n hn bo cap wc h.wr hI hbo (by omega)).mono fun _ _ ⟨a, b⟩ => ⟨a, h.step hp hao b⟩
end

set_option maxRecDepth 100000 in
set_option maxHeartbeats 2000000 in
theorem unixBytes_any (c : Cl) (ao : Option Addr) (cap : Nat) (w : World) (hI : IntsAt w ao c.groups) (hao : ∀ g off, ao = some ⟨g, off, none⟩ → g < w.heap.size) (hm : c.mach.size ≤ 255) (hG : c.groups.length ≤ 16) (u : Bool) (S : ByteArray) (hS : (⟨c.cred.toArray⟩ : ByteArray) = S) :
    Calls Tryz.prog 22 #[.agg #[.int .i64 c.xid, .int .i64 c.prog, .int .i64 c.vers, .int .i64 c.proc, .bool u, .int .i64 c.stamp, .string c.mach, .int .i64 c.uid, .int .i64 c.gid, .slice ao c.groups.length cap, .string c.args]] w
      fun e w' => e = .returned (.string S) ∧ Below w.heap.size w w' := by
  obtain ⟨xid, prog, vers, proc, unix, stamp, mach, uid, gid, G, args⟩ := c
  dsimp only at hI hm hG ⊢
  have hcred : ([] ++ numBytes stamp 4 ++ opaqueOf mach ++ putU [uid, gid, (G.length : Int)] ++ putU G) = (Cl.mk xid prog vers proc unix stamp mach uid gid G args).cred := rfl
  have HC := Lib.hid hcred
  have HS := Lib.hid hS
  have HAO := Lib.hid hao
  clear hcred hS hao
  have hol := opaqueOf_length mach
  have hpl := pad_lt mach.size
  have l1 := numBytes_length stamp 4
  have l2 := putU_length [uid, gid, (G.length : Int)]
  simp only [List.length_cons, List.length_nil] at l2
  have hU0 : Uw w w.heap.size (w.heap.size + 1) ao G #[.int .i64 xid, .int .i64 prog, .int .i64 vers, .int .i64 proc, .bool u, .int .i64 stamp, .string mach, .int .i64 uid, .int .i64 gid, .slice ao G.length cap, .string args] (.slice none 0 0) []
      ((w.alloc (.cells #[.int .i64 xid, .int .i64 prog, .int .i64 vers, .int .i64 proc, .bool u, .int .i64 stamp, .string mach, .int .i64 uid, .int .i64 gid, .slice ao G.length cap, .string args] 26)).alloc (.cells #[.slice none 0 0] 56)) := by
    refine ⟨?_, ?_, (hI.alloc _).alloc _, ((Below.refl _ w).alloc (Nat.le_refl _) _).alloc (by simp) _, by intro k hk; simp [Value.ownBlock] at hk⟩
    · have := Wr.new (w.alloc (.cells #[.int .i64 xid, .int .i64 prog, .int .i64 vers, .int .i64 proc, .bool u, .int .i64 stamp, .string mach, .int .i64 uid, .int .i64 gid, .slice ao G.length cap, .string args] 26))
      simpa using this
    · exact ((World.grownBy_alloc _ _ none).block w.heap.size (by simp) (by simp)).trans (heap_alloc_new w _)
  clear hI
  go_enter Tryz.func22, Tryz.ntmps22
  go_wp2_with fail
  generalize ((w.alloc (.cells #[.int .i64 xid, .int .i64 prog, .int .i64 vers, .int .i64 proc, .bool u, .int .i64 stamp, .string mach, .int .i64 uid, .int .i64 gid, .slice ao G.length cap, .string args] 26)).alloc (.cells #[.slice none 0 0] 56)) = W0 at *
  refine (uint_u hU0 (by omega) HAO.out stamp (by simp)).mono ?_
  rintro e w1 ⟨rfl, v1, hU1⟩
  clear hU0
  have HU1 := Lib.hid hU1
  have f6 : w1.cell? ⟨w.heap.size, 6, none⟩ = some (.string mach) := by rw [cell_of_row w1 _ _ _ _ _ hU1.box]; rfl
  clear hU1
  go_wp2_with fail
  refine (opaque_u HU1.out (by omega) HAO.out mach (by simp; omega) (by omega)).mono ?_
  rintro e w2 ⟨rfl, v2, hU2⟩
  clear f6
  have f7 : w2.cell? ⟨w.heap.size, 7, none⟩ = some (.int .i64 uid) := by rw [cell_of_row w2 _ _ _ _ _ hU2.box]; rfl
  have f8 : w2.cell? ⟨w.heap.size, 8, none⟩ = some (.int .i64 gid) := by rw [cell_of_row w2 _ _ _ _ _ hU2.box]; rfl
  have f9 : w2.cell? ⟨w.heap.size, 9, none⟩ = some (.slice ao G.length cap) := by rw [cell_of_row w2 _ _ _ _ _ hU2.box]; rfl
  have n2 := hU2.wr.lt
  have hown2 : ∀ k, v2.ownBlock = some k → k < w2.heap.size := fun k hk => hU2.wr.own_lt hk
  have HU2 := Lib.hid hU2
  have HO2 := Lib.hid hown2
  clear hU2 HU1 hown2
  go_wp2_with fail
  refine (putU_u (HU2.out.alloc _) (by omega) HAO.out [uid, gid, (G.length : Int)] 3 rfl (some ⟨w2.heap.size, 0, none⟩) 3 (built3 w2 _ rfl _ _ _) (by intro g off e; simp only [Option.some.injEq, Addr.mk.injEq, and_true] at e; obtain ⟨e1, _⟩ := e; exact ⟨by omega, fun e2 => by have := HO2.out g e2.symm; omega⟩) (by simp only [List.length_append, List.length_nil]; omega) (by omega)).mono ?_
  rintro e w3 ⟨rfl, v3, hU3⟩
  have f9' : w3.cell? ⟨w.heap.size, 9, none⟩ = some (.slice ao G.length cap) := by rw [cell_of_row w3 _ _ _ _ _ hU3.box]; rfl
  have HU3 := Lib.hid hU3
  clear hU3 HU2 HO2 f7 f8 f9
  go_wp2_with fail
  refine (putU_u HU3.out (by omega) HAO.out G G.length rfl ao cap HU3.out.ints (by intro g off e; have h1 := HAO.out g off e; exact ⟨by omega, fun e2 => by have := HU3.out.own g e2.symm; omega⟩) (by simp only [List.length_append, List.length_nil]; omega) (by omega)).mono ?_
  rintro e w4 ⟨rfl, v4, hU4⟩
  have HU4 := Lib.hid hU4
  clear hU4 HU3 f9'
  go_wp2_with fail
  refine (bytes_any (w.heap.size + 1) v4 _ w4 HU4.out.wr).mono ?_
  rintro e w5 ⟨rfl, rfl⟩
  go_wp2
  go_ret
  exact ⟨ret_str (by rw [← HS.out, ← HC.out]; simp), HU4.out.low⟩
theorem cred_length (c : Cl) (hm : c.mach.size ≤ 255) (hG : c.groups.length ≤ 16) : c.cred.length ≤ 340 := by
  have h1 := opaqueOf_length c.mach
  have h2 := pad_lt c.mach.size
  have h3 : pad c.mach.size + c.mach.size ≤ 256 := by unfold pad; omega
  unfold Cl.cred
  simp only [List.length_append, numBytes_length, putU_length, List.length_cons, List.length_nil]
  omega
theorem head_length (c : Cl) (hm : c.mach.size ≤ 255) (hG : c.groups.length ≤ 16) : c.head.length ≤ 400 := by
  have h1 := cred_length c hm hG
  have h2 := opaqueOf_length ⟨c.cred.toArray⟩
  have h3 := pad_lt c.cred.length
  have h4 : (⟨c.cred.toArray⟩ : ByteArray).size = c.cred.length := by show c.cred.toArray.size = _; simp
  rw [h4] at h2
  unfold Cl.head
  cases c.unix
  · simp only [List.length_append, numBytes_length, putU_length, List.length_cons, List.length_nil, opaque_nil, Bool.false_eq_true, if_false]
    omega
  · simp only [List.length_append, numBytes_length, putU_length, List.length_cons, List.length_nil, opaque_nil, if_true]
    omega

set_option maxRecDepth 100000 in
set_option maxHeartbeats 2000000 in
theorem putCall_unix (c : Cl) (ao : Option Addr) (cap : Nat) (w : World) (hu : c.unix = true) (hI : IntsAt w ao c.groups) (hao : ∀ g off, ao = some ⟨g, off, none⟩ → g < w.heap.size) (hGl : c.groups.length ≤ 140737488355328) (hs : c.args.size ≤ 9223372036854700000) (S : ByteArray) (E : Int)
    (hS : (if c.ok then restS c.head c.args else ⟨#[]⟩) = S) (hE : (if c.ok then restC c.head c.args else 4) = E) :
    Calls Tryz.prog 6 #[.agg #[.int .i64 c.xid, .int .i64 c.prog, .int .i64 c.vers, .int .i64 c.proc, .bool true, .int .i64 c.stamp, .string c.mach, .int .i64 c.uid, .int .i64 c.gid, .slice ao c.groups.length cap, .string c.args]] w
      fun e w' => e = .returned (.tuple #[.string S, .int .i64 E]) ∧ Below w.heap.size w w' := by
  obtain ⟨b, hb⟩ : ∃ b, c.ok = b := ⟨_, rfl⟩
  have hsm : b = true → c.mach.size ≤ 255 ∧ c.groups.length ≤ 16 := by
    intro h
    subst h
    unfold Cl.ok at hb
    rw [hu] at hb
    simp only [if_true, Bool.and_eq_true, decide_eq_true_eq] at hb
    exact ⟨hb.2.1.1.2, hb.2.1.2⟩
  rw [hb] at hS hE
  have hhl := head_length c
  have hcl := cred_length c
  have hub := fun wz h1 h2 m1 m2 => unixBytes_any c ao cap wz h1 h2 m1 m2 true ⟨c.cred.toArray⟩ rfl
  have hic := fun wz h1 => isCall_unix c.xid c.prog c.vers c.proc c.stamp c.uid c.gid c.mach c.args c.groups ao cap wz h1 hGl b (by rw [← hb, ← hu])
  have hhd : c.head = putU [c.xid, 0, 2, c.prog, c.vers, c.proc] ++ (numBytes 1 4 ++ opaqueOf ⟨c.cred.toArray⟩) ++ numBytes 0 4 ++ opaqueOf ⟨#[]⟩ := by
    unfold Cl.head; rw [hu]; rfl
  generalize c.head = hd at *
  generalize c.cred = cr at *
  obtain ⟨xid, prog, vers, proc, unix, stamp, mach, uid, gid, G, args⟩ := c
  dsimp only at hI hGl hs hS hE hsm hhl hcl hub hic hhd ⊢
  have HS := Lib.hid hS
  have HE := Lib.hid hE
  have HSM := Lib.hid hsm
  have HHL := Lib.hid hhl
  have HCL := Lib.hid hcl
  have HUB := Lib.hid hub
  have HIC := Lib.hid hic
  have HHD := Lib.hid hhd
  have HAO := Lib.hid hao
  have HI := Lib.hid hI
  clear hS hE hsm hhl hcl hub hic hhd hao hI hb hu
  have hcrs : (⟨cr.toArray⟩ : ByteArray).size = cr.length := by show cr.toArray.size = _; simp
  have hol := opaqueOf_length ⟨cr.toArray⟩
  have hpl := pad_lt (⟨cr.toArray⟩ : ByteArray).size
  have l6 := putU_length [xid, 0, 2, prog, vers, proc]
  simp only [List.length_cons, List.length_nil] at l6
  have lz : (opaqueOf ⟨#[]⟩).length = 4 := lo0
  go_enter Tryz.func6, Tryz.ntmps6
  go_wp2_with fail
  refine (HIC.out _ (HI.out.alloc _)).mono ?_
  rintro e w1 ⟨rfl, hB1⟩
  have hsz1 : w.heap.size + 1 ≤ w1.heap.size := by have := hB1.size; simpa using this
  have hq : w1.heap[w.heap.size]? = some (.cells #[.int .i64 xid, .int .i64 prog, .int .i64 vers, .int .i64 proc, .bool true, .int .i64 stamp, .string mach, .int .i64 uid, .int .i64 gid, .slice ao G.length cap, .string args] 26 (0, 0)) :=
    (hB1.block w.heap.size (by simp)).trans (heap_alloc_new w _)
  have hbb : Below w.heap.size w w1 := ((Below.refl w.heap.size w).alloc (Nat.le_refl _) (.cells #[.int .i64 xid, .int .i64 prog, .int .i64 vers, .int .i64 proc, .bool true, .int .i64 stamp, .string mach, .int .i64 uid, .int .i64 gid, .slice ao G.length cap, .string args] 26)).trans (hB1.mono (by simp))
  have HB1 := Lib.hid hbb
  have hI1 := HI.out.below hbb
  clear hB1 hbb HIC
  cases b
  · have hS := HS.out
    have hE := HE.out
    simp only [Bool.false_eq_true, if_false] at hS hE
    subst hS hE
    go_wp2
    go_ret2
    exact ⟨rfl, HB1.out⟩
  · obtain ⟨m1, m2⟩ := HSM.out rfl
    have hcl := HCL.out m1 m2
    have hhl := HHL.out m1 m2
    have hU0 : Uw w w.heap.size w1.heap.size ao G #[.int .i64 xid, .int .i64 prog, .int .i64 vers, .int .i64 proc, .bool true, .int .i64 stamp, .string mach, .int .i64 uid, .int .i64 gid, .slice ao G.length cap, .string args] (.slice none 0 0) [] (w1.alloc (.cells #[.slice none 0 0] 56)) :=
      ⟨Wr.new w1, ((World.grownBy_alloc _ _ none).block w.heap.size (by omega) (by simp)).trans hq, hI1.alloc _, HB1.out.alloc (by omega) _, by intro k hk; simp [Value.ownBlock] at hk⟩
    have HU0 := Lib.hid (hU0.alloc (.cells #[.int .i64 xid, .int .i64 0, .int .i64 2, .int .i64 prog, .int .i64 vers, .int .i64 proc] 3))
    have HI2 := Lib.hid (built6 (w1.alloc (.cells #[.slice none 0 0] 56)) (w1.heap.size + 1) (by simp) xid 0 2 prog vers proc)
    have f0 : w1.cell? ⟨w.heap.size, 0, none⟩ = some (.int .i64 xid) := by rw [cell_of_row w1 _ _ _ _ _ hq]; rfl
    have f1 : w1.cell? ⟨w.heap.size, 1, none⟩ = some (.int .i64 prog) := by rw [cell_of_row w1 _ _ _ _ _ hq]; rfl
    have f2 : w1.cell? ⟨w.heap.size, 2, none⟩ = some (.int .i64 vers) := by rw [cell_of_row w1 _ _ _ _ _ hq]; rfl
    have f3 : w1.cell? ⟨w.heap.size, 3, none⟩ = some (.int .i64 proc) := by rw [cell_of_row w1 _ _ _ _ _ hq]; rfl
    clear hq hU0 hI1 HB1 HCL HHL HSM
    have hBl : w.heap.size < w1.heap.size := by omega
    go_wp2_with fail
    refine (putU_u HU0.out (by omega) HAO.out [xid, 0, 2, prog, vers, proc] 6 rfl (some ⟨w1.heap.size + 1, 0, none⟩) 6 HI2.out (by intro g off e; simp only [Option.some.injEq, Addr.mk.injEq, and_true] at e; obtain ⟨e1, _⟩ := e; exact ⟨by omega, by simp [Value.ownBlock]⟩) (by simp) (by omega)).mono ?_
    rintro e w2 ⟨rfl, v2, hU2⟩
    have HU2 := Lib.hid hU2
    have f4 : w2.cell? ⟨w.heap.size, 4, none⟩ = some (.bool true) := by rw [cell_of_row w2 _ _ _ _ _ hU2.box]; rfl
    clear hU2 HU0 HI2 f0 f1 f2 f3
    generalize hpq : w1.heap.size = p at *
    have HP := Lib.hid hpq
    clear hpq
    go_wp2_with fail
    refine (uint_u HU2.out (by omega) HAO.out 1 (by simp only [List.length_append, List.length_nil]; omega)).mono ?_
    rintro e w3 ⟨rfl, v3, hU3⟩
    have hbx := hU3.box
    have g0 : w3.cell? ⟨w.heap.size, 0, none⟩ = some (.int .i64 xid) := by rw [cell_of_row w3 _ _ _ _ _ hbx]; rfl
    have g1 : w3.cell? ⟨w.heap.size, 1, none⟩ = some (.int .i64 prog) := by rw [cell_of_row w3 _ _ _ _ _ hbx]; rfl
    have g2 : w3.cell? ⟨w.heap.size, 2, none⟩ = some (.int .i64 vers) := by rw [cell_of_row w3 _ _ _ _ _ hbx]; rfl
    have g3 : w3.cell? ⟨w.heap.size, 3, none⟩ = some (.int .i64 proc) := by rw [cell_of_row w3 _ _ _ _ _ hbx]; rfl
    have g4 : w3.cell? ⟨w.heap.size, 4, none⟩ = some (.bool true) := by rw [cell_of_row w3 _ _ _ _ _ hbx]; rfl
    have g5 : w3.cell? ⟨w.heap.size, 5, none⟩ = some (.int .i64 stamp) := by rw [cell_of_row w3 _ _ _ _ _ hbx]; rfl
    have g6 : w3.cell? ⟨w.heap.size, 6, none⟩ = some (.string mach) := by rw [cell_of_row w3 _ _ _ _ _ hbx]; rfl
    have g7 : w3.cell? ⟨w.heap.size, 7, none⟩ = some (.int .i64 uid) := by rw [cell_of_row w3 _ _ _ _ _ hbx]; rfl
    have g8 : w3.cell? ⟨w.heap.size, 8, none⟩ = some (.int .i64 gid) := by rw [cell_of_row w3 _ _ _ _ _ hbx]; rfl
    have g9 : w3.cell? ⟨w.heap.size, 9, none⟩ = some (.slice ao G.length cap) := by rw [cell_of_row w3 _ _ _ _ _ hbx]; rfl
    have g10 : w3.cell? ⟨w.heap.size, 10, none⟩ = some (.string args) := by rw [cell_of_row w3 _ _ _ _ _ hbx]; rfl
    have HU3 := Lib.hid hU3
    clear hU3 HU2 f4 hbx
    go_wp2_with fail
    refine (HUB.out w3 HU3.out.ints (fun g off e => Nat.lt_of_lt_of_le (HAO.out g off e) HU3.out.low.size) m1 m2).mono ?_
    rintro e w4 ⟨rfl, hB4⟩
    have HU4 := Lib.hid (HU3.out.below hB4)
    clear HU3 hB4 g0 g1 g2 g3 g4 g5 g6 g7 g8 g9 g10 HUB
    go_wp2_with fail
    refine (opaque_u HU4.out (by omega) HAO.out ⟨cr.toArray⟩ (by simp only [List.length_append, List.length_nil, numBytes_length]; omega) (by omega)).mono ?_
    rintro e w5 ⟨rfl, v5, hU5⟩
    have HU5 := Lib.hid hU5
    clear hU5 HU4
    go_wp2_with fail
    refine (uint_u HU5.out (by omega) HAO.out 0 (by simp only [List.length_append, List.length_nil, numBytes_length]; omega)).mono ?_
    rintro e w6 ⟨rfl, v6, hU6⟩
    have HU6 := Lib.hid hU6
    clear hU6 HU5
    go_wp2_with fail
    refine (opaque_u HU6.out (by omega) HAO.out ⟨#[]⟩ (by simp only [List.length_append, List.length_nil, numBytes_length]; omega) (by show 0 ≤ _; omega)).mono ?_
    rintro e w7 ⟨rfl, v7, hU7⟩
    have hhead : ([] ++ putU [xid, 0, 2, prog, vers, proc] ++ numBytes 1 4 ++ opaqueOf ⟨cr.toArray⟩ ++ numBytes 0 4 ++ opaqueOf ⟨#[]⟩) = hd := by rw [HHD.out]; simp
    rw [hhead] at hU7
    have f10 : w7.cell? ⟨w.heap.size, 10, none⟩ = some (.string args) := by rw [cell_of_row w7 _ _ _ _ _ hU7.box]; rfl
    have HU7 := Lib.hid hU7
    clear hU7 HU6 hhead
    go_wp2_with fail
    refine (rest_any p v7 hd args w7 HU7.out.wr (by omega) hs).mono ?_
    rintro e w8 ⟨rfl, rfl⟩
    go_wp2
    go_ret2
    refine ⟨?_, HU7.out.low⟩
    rw [← HS.out, ← HE.out]
    simp
end Go.Proofs.YtihkjgfghjgblaaGreatDoor.R
namespace Go.Proofs.YtihkjgfghjgblaaGreatDoor.R
open Go.RowKit
theorem opq_put (m : Int) (hm : m ≤ 1000000) (b : ByteArray) (hb : (b.size : Int) ≤ m) (l : List UInt8) : opqR m (opaqueOf b ++ l) 0 = (b, l, 0) := by
  have hl : b.data.toList.length = b.size := by simp
  unfold opqR
  rw [opaque_cons, List.append_assoc, nR (b.size : Int) (by unfold isU; rw [decide_eq_true_eq]; omega)]
  dsimp only
  rw [if_neg (by split <;> omega), fixR_nat]
  have hf : fixedOf b ++ l = b.data.toList ++ (List.replicate (pad b.size) 0 ++ l) := by unfold fixedOf; simp
  rw [hf]
  have t1 : (b.data.toList ++ (List.replicate (pad b.size) 0 ++ l)).take b.size = b.data.toList := by
    rw [List.take_append, List.take_of_length_le (by omega), hl]; simp
  have t2 : (b.data.toList ++ (List.replicate (pad b.size) 0 ++ l)).drop b.size = List.replicate (pad b.size) 0 ++ l := by
    rw [List.drop_append, List.drop_of_length_le (by omega), hl]; simp
  have t3 : (b.data.toList ++ (List.replicate (pad b.size) 0 ++ l)).drop (b.size + pad b.size) = l := by
    rw [← List.drop_drop, t2, List.drop_append]
    simp
  rw [if_neg (by simp only [List.length_append, List.length_replicate, hl]; omega), t1, t2, t3]
  rw [if_pos (by rw [List.take_append]; simp)]
theorem putU_cons (n : Int) (G : List Int) : putU (n :: G) = numBytes n 4 ++ putU G := rfl
theorem grp_put (l : List UInt8) : ∀ (G : List Int) (_ : areU G = true) (k : Nat) (_ : k ≤ G.length), grpR (putU G ++ l) 0 k = (G.take k, putU (G.drop k) ++ l, 0)
  | G, _, 0, _ => by simp [grpR]
  | G, hG, k + 1, hk => by
    have ih := grp_put l G hG k (by omega)
    have hd : G.drop k = G[k] :: G.drop (k + 1) := List.drop_eq_getElem_cons (by omega)
    have hu : isU G[k] = true := List.all_eq_true.1 hG _ (List.getElem_mem _)
    show (_, _, _) = _
    rw [ih]
    dsimp only
    rw [hd, putU_cons, List.append_assoc, nR _ hu]
    rw [List.take_succ_eq_append_getElem (show k < G.length by omega)]
theorem unix_put (c : Cl) (hs : isU c.stamp = true) (hu : isU c.uid = true) (hg : isU c.gid = true) (hm : c.mach.size ≤ 255) (hG : c.groups.length ≤ 16) (hA : areU c.groups = true) : unixO ⟨c.cred.toArray⟩ = some (c.stamp, c.mach, c.uid, c.gid, c.groups) := by
  have e : (⟨c.cred.toArray⟩ : ByteArray).data.toList = numBytes c.stamp 4 ++ (opaqueOf c.mach ++ (numBytes c.uid 4 ++ (numBytes c.gid 4 ++ (numBytes (c.groups.length : Int) 4 ++ putU c.groups)))) := by
    unfold Cl.cred
    simp [putU]
  have hn : isU (c.groups.length : Int) = true := by unfold isU; rw [decide_eq_true_eq]; omega
  have hgp := grp_put [] c.groups hA c.groups.length (Nat.le_refl _)
  simp only [List.append_nil, List.take_length, List.drop_length] at hgp
  unfold unixO
  rw [e]
  simp only [nR c.stamp hs, opq_put 255 (by decide) c.mach (by omega), nR c.uid hu, nR c.gid hg, nR _ hn, Int.toNat_natCast, hgp]
  rw [if_pos (by simp [hG, endR, putU])]
theorem tail_put (A : List UInt8) (f : ByteArray → Tc) (h : A.length % 4 = 0) : tailO (numBytes 0 4 ++ (opaqueOf ⟨#[]⟩ ++ A)) 0 f = f ⟨A.toArray⟩ := by
  rw [opq_empty]; exact tail_ok A f h
/-- A call that was put is taken as it was. -/
theorem getO_put (c : Cl) (ho : c.ok = true) (hc : restC c.head c.args = 0) : getO (restS c.head c.args) = .ok c.xid c.prog c.vers c.proc c.unix c.stamp c.mach c.uid c.gid c.groups c.args := by
  obtain ⟨d1, d2, d3⟩ := restS_data hc rfl
  have hsz : (restS c.head c.args).size ≤ 65536 := by
    have : (restS c.head c.args).size = (restS c.head c.args).data.toList.length := by simp
    rw [this, d1, List.length_append, Array.length_toList]
    exact d3
  have hal : c.args.data.toList.length % 4 = 0 := by rw [Array.length_toList]; exact d2
  generalize restS c.head c.args = s at *
  obtain ⟨xid, prog, vers, proc, unix, st, m, uid, gid, G, args⟩ := c
  dsimp only at *
  cases unix with
  | false =>
    simp only [Cl.ok, areU, Bool.and_eq_true, List.all_cons, List.all_nil, and_true, Bool.false_eq_true, if_false, Cl.zero, beq_iff_eq, List.isEmpty_iff] at ho
    obtain ⟨⟨u1, u2, u3, u4⟩, ⟨⟨⟨z1, z2⟩, z3⟩, z4⟩, z5⟩ := ho
    have hm := bytes_nil (b := m) (by rw [z2]; rfl)
    subst z1 z3 z4 z5 hm
    have e : s.data.toList = numBytes xid 4 ++ (numBytes 0 4 ++ (numBytes 2 4 ++ (numBytes prog 4 ++ (numBytes vers 4 ++ (numBytes proc 4 ++ (numBytes 0 4 ++ (opaqueOf ⟨#[]⟩ ++ (numBytes 0 4 ++ (opaqueOf ⟨#[]⟩ ++ args.data.toList))))))))) := by
      rw [d1]; simp [Cl.head, putU]
    rw [getO_eq hsz (by rw [e]; exact nR xid u1 _ 0) (nR 0 (by decide) _ 0), if_neg (by simp),
      takeO_eq (nR 2 (by decide) _ 0) (nR prog u2 _ 0) (nR vers u3 _ 0) (nR proc u4 _ 0) (nR 0 (by decide) _ 0) (opq_put 400 (by decide) ⟨#[]⟩ (by decide) _)]
    rw [if_neg (by simp), if_neg (by simp), if_neg (by decide), if_neg (by decide), if_neg (by decide +kernel), tail_put _ _ hal]
  | true =>
    simp only [Cl.ok, areU, Bool.and_eq_true, List.all_cons, List.all_nil, and_true, if_true, decide_eq_true_eq] at ho
    obtain ⟨⟨u1, u2, u3, u4⟩, ⟨⟨⟨v1, v2, v3⟩, hm⟩, hG⟩, hA⟩ := ho
    have hcl := cred_length (Cl.mk xid prog vers proc true st m uid gid G args) hm hG
    have hcs : (⟨(Cl.mk xid prog vers proc true st m uid gid G args).cred.toArray⟩ : ByteArray).size = (Cl.mk xid prog vers proc true st m uid gid G args).cred.length := by show (Cl.cred _).toArray.size = _; simp
    have e : s.data.toList = numBytes xid 4 ++ (numBytes 0 4 ++ (numBytes 2 4 ++ (numBytes prog 4 ++ (numBytes vers 4 ++ (numBytes proc 4 ++ (numBytes 1 4 ++ (opaqueOf ⟨(Cl.mk xid prog vers proc true st m uid gid G args).cred.toArray⟩ ++ (numBytes 0 4 ++ (opaqueOf ⟨#[]⟩ ++ args.data.toList))))))))) := by
      rw [d1]; simp [Cl.head, putU]
    have hux := unix_put (Cl.mk xid prog vers proc true st m uid gid G args) v1 v2 v3 hm hG hA
    rw [getO_eq hsz (by rw [e]; exact nR xid u1 _ 0) (nR 0 (by decide) _ 0), if_neg (by simp),
      takeO_eq (nR 2 (by decide) _ 0) (nR prog u2 _ 0) (nR vers u3 _ 0) (nR proc u4 _ 0) (nR 1 (by decide) _ 0) (opq_put 400 (by decide) _ (by omega) _)]
    rw [if_neg (by simp), if_neg (by simp), if_neg (by decide), if_pos rfl, hux]
    dsimp only
    rw [tail_put _ _ hal]
end Go.Proofs.YtihkjgfghjgblaaGreatDoor.R
namespace Go.Proofs.YtihkjgfghjgblaaGreatDoor.R
open Go.RowKit
def Cl.cells (c : Cl) (vg : Value) : Array Value := #[.int .i64 c.xid, .int .i64 c.prog, .int .i64 c.vers, .int .i64 c.proc, .bool c.unix, .int .i64 c.stamp, .string c.mach, .int .i64 c.uid, .int .i64 c.gid, vg, .string c.args]
theorem ints_of_own {w : World} {vg : Value} {G : List Int} (h : w.ownsRow 0 3 1 vg G.length (ints G)) : ∃ ao cap, vg = .slice ao G.length cap ∧ IntsAt w ao G ∧ G.length ≤ cap ∧ ∀ g off, ao = some ⟨g, off, none⟩ → g < w.heap.size := by
  have hh := h
  rcases h.2 with ⟨rfl, h0⟩ | ⟨g, cap, cur, rfl, _, hg, hnc, hcm, hcs, htake⟩
  · have hz : G = [] := List.eq_nil_of_length_eq_zero h0
    subst hz
    exact ⟨none, 0, rfl, fun i hi => absurd hi (by simp), by simp, by intro g off e; cases e⟩
  · have hlt : g < w.heap.size := (Array.getElem?_eq_some_iff.1 hg).1
    refine ⟨some ⟨g, 0, none⟩, cap, rfl, fun i hi => ⟨g, 0, rfl, hlt, ?_⟩, hnc, ?_⟩
    · have := hh.cells (g := g) rfl i (.int .i64 G[i]) (by simp [ints, List.getElem?_eq_getElem hi])
      rw [Nat.zero_add]
      by_cases h0 : i = 0
      · subst h0; simpa [Addr.add] using this
      · simpa [Addr.add, h0] using this
    · intro g' off e
      simp only [Option.some.injEq, Addr.mk.injEq, and_true] at e
      omega
theorem grp_small {s : ByteArray} {xid prog vers proc : Int} {unix : Bool} {st : Int} {m : ByteArray} {uid gid : Int} {G : List Int} {args : ByteArray} (h : getO s = .ok xid prog vers proc unix st m uid gid G args) : G.length ≤ 16 ∧ args.size ≤ 65536 := by
  obtain ⟨h1, h2, h3⟩ := getO_took h
  refine ⟨?_, ?_⟩
  · unfold Cl.ok at h1
    cases unix
    · simp [Cl.zero] at h1
      rw [h1.2.2]; simp
    · simp at h1
      exact h1.2.1.2
  · unfold restC at h2
    split at h2
    · omega
    · omega
theorem getO_err0 {s : ByteArray} {e : Int} (h : getO s = .err e) : e ≠ 0 := by
  unfold getO at h
  dsimp only at h
  split at h
  · simp only [Gco.err.injEq] at h; omega
  · split at h
    · simp only [Gco.err.injEq] at h; omega
    · split at h
      · simp only [Gco.err.injEq] at h; omega
      · split at h <;> cases h
theorem plain_head (c : Cl) (h : c.unix = false) : c.headP = c.head := by
  unfold Cl.headP Cl.head
  rw [h]
  simp
/-- PutCall of a call that can be laid out. -/
theorem put_back (c : Cl) (ao : Option Addr) (cap : Nat) (w : World) (hI : IntsAt w ao c.groups) (hao : ∀ g off, ao = some ⟨g, off, none⟩ → g < w.heap.size) (hG : c.groups.length ≤ 140737488355328) (hs : c.args.size ≤ 9223372036854700000) (ho : c.ok = true) (s : ByteArray) (hc : restC c.head c.args = 0) (hS : restS c.head c.args = s) :
    Calls Tryz.prog 6 #[.agg (c.cells (.slice ao c.groups.length cap))] w fun e w' => e = .returned (.tuple #[.string s, .int .i64 0]) ∧ Below w.heap.size w w' := by
  cases hu : c.unix with
  | false =>
    have h := putCall_plain c ao cap w hu hs
    rw [if_pos ho, if_pos ho, plain_head c hu, hc, hS] at h
    unfold Cl.cells
    rw [hu]
    exact h
  | true =>
    have h := putCall_unix c ao cap w hu hI hao hG hs s 0 (by rw [if_pos ho]; exact hS) (by rw [if_pos ho]; exact hc)
    unfold Cl.cells
    rw [hu]
    exact h
theorem getReply_n (s : ByteArray) (w : World) (x v lo hi : Int) (b : ByteArray) (e : Int) (h : getR s = (⟨x, v, lo, hi, b⟩, e)) :
    Calls Tryz.prog 5 #[.string s] w fun r w' => r = .returned (.tuple #[.agg #[.int .i64 x, .int .i64 v, .int .i64 lo, .int .i64 hi, .string b], .int .i64 e]) ∧ Below w.heap.size w w' := by
  have := getReply_any s w
  rw [h] at this
  exact this
theorem getO_err {s : ByteArray} {e : Int} (h : getO s = .err e) : e ≠ 62 := by
  unfold getO at h
  dsimp only at h
  split at h
  · simp only [Gco.err.injEq] at h; omega
  · split at h
    · simp only [Gco.err.injEq] at h; omega
    · split at h
      · simp only [Gco.err.injEq] at h; omega
      · split at h <;> cases h
end Go.Proofs.YtihkjgfghjgblaaGreatDoor.R
namespace Go.Proofs.YtihkjgfghjgblaaGreatDoor.R
open Go.RowKit
theorem ints_length (l : List Int) : (ints l).length = l.length := by simp [ints]
theorem ints_append (a b : List Int) : ints (a ++ b) = ints a ++ ints b := by simp [ints]
theorem Tryz.info3 : (Tryz.prog.info? 3).map (fun i => (i.zero, i.size, i.bytes)) = some (some (.int .i64 0), 1, 8) := by kernel_rfl
/-- What an append leaves. -/
structure AppTo (B : Nat) (w : World) (v : Value) (ys : List Int) (v' : Value) (w' : World) : Prop where
  own : w'.ownsRow B 3 1 v' ys.length (ints ys)
  grown : w.grownBy w' v.ownBlock
  at_ : v'.ownBlock = v.ownBlock ∨ v'.ownBlock = some w.heap.size
theorem news_ints {w : World} {g off : Nat} {L : List Int} (h : ∀ i (_ : i < L.length), w.cell? ⟨g, off + i, none⟩ = some (.int .i64 L[i])) : ∀ j u, (ints L)[j]? = some u → w.cell? ((⟨g, off, none⟩ : Addr).add j) = some u := by
  intro j u hu
  have hadd : (⟨g, off, none⟩ : Addr).add j = ⟨g, off + j, none⟩ := by unfold Addr.add; split <;> simp_all
  have hj : j < L.length := by
    rcases Nat.lt_or_ge j L.length with h | h
    · exact h
    · rw [List.getElem?_eq_none (by rw [ints_length]; exact h)] at hu; cases hu
  rw [hadd, h j hj]
  simpa [ints, List.getElem?_eq_getElem hj] using hu
theorem ints_one (L : List Int) : ∀ u ∈ ints L, u.oneCell' = true := by
  intro u hu
  obtain ⟨n, _, rfl⟩ := List.mem_map.1 hu
  rfl
set_option maxRecDepth 100000 in
theorem run_app (w : World) (ty : TypeId) (B : Nat) (v : Value) (xs : List Int) (hown : w.ownsRow B 3 1 v xs.length (ints xs)) (ao : Option Addr) (L : List Int) (cap : Nat) (hI : IntsAt w ao L)
    (hsz : (xs.length + L.length) * 8 ≤ 140737488355328) (hB : B ≤ w.heap.size) :
    ∃ v' w', (Builtin.append_ #[22, 22] ty #[v, .slice ao L.length cap]).run Tryz.prog w = .ok v' w' ∧ AppTo B w v (xs ++ L) v' w' := by
  obtain ⟨i0, hi, hz0, hz1, hz2⟩ := info_parts Tryz.info3
  have hm : (xs.length + L.length) ≤ maxLen := by unfold maxLen; omega
  cases ao with
  | some a =>
    have hn : ∀ j u, (ints L)[j]? = some u → w.cell? (a.add j) = some u := by
      cases L with
      | nil => intro j u hu; simp [ints] at hu
      | cons x r =>
        obtain ⟨g, off, e1, _, _⟩ := hI 0 (by simp)
        injection e1 with e1
        subst e1
        refine news_ints fun i hi => ?_
        obtain ⟨g', off', e1, _, e3⟩ := hI i hi
        injection e1 with e1
        injection e1 with e1 e2 _
        subst e1 e2
        exact e3
    obtain ⟨v', w', hr, h2, h3, _, h5⟩ := run_append_own_at (P := Tryz.prog) w B 22 ty 3 i0 _ 1 8 Tryz.underlying22 hi hz0 hz1 hz2 rfl (by omega) v xs.length (ints xs) hown a L.length cap (ints L) (by rw [ints_length]; omega) hn (ints_one L) hm hsz hB
    refine ⟨v', w', hr, ⟨?_, h3, h5⟩⟩
    rw [List.length_append, ints_append]; exact h2
  | none =>
    have hL : L = [] := by
      cases L with
      | nil => rfl
      | cons x r => obtain ⟨g, off, e1, _, _⟩ := hI 0 (by simp); cases e1
    subst hL
    rw [List.append_nil]
    rcases hown.2 with ⟨rfl, h0⟩ | ⟨g, cap', cur, rfl, hb, hg, h3, h4, h5, h6⟩
    · have hx : xs = [] := List.eq_nil_of_length_eq_zero h0
      subst hx
      refine ⟨.slice none 0 0, w, ?_, ⟨hown, World.grownBy.refl _ _, .inl rfl⟩⟩
      simp [Builtin.append_, run_underlying Tryz.underlying22, sizeOf, typeInfo, hi, Builtin.lenOf, Builtin.firstCells]
    · refine ⟨.slice (some ⟨g, 0, none⟩) xs.length cap', w, ?_, ⟨hown, World.grownBy.refl _ _, .inl rfl⟩⟩
      have hr := run_append_room_src (P := Tryz.prog) w 22 22 ty 3 i0 Tryz.underlying22 hi g 0 xs.length cap' (.slice none 0 cap) 0 [] (by rw [hz1]; exact Src.ofNil w (e' := 3) Tryz.underlying22 cap) (by omega) (by simp) (by simp)
      rw [show ([] : List Int).length = 0 from rfl, hr]
      rfl
theorem wp_app {o : Oper} {a : Act} {w : World} {K : Act → World → Prop} {Q : Exit → Act → World → Prop} (s x : Operand) (ho : o.op = .call { callee := .builtin .append, args := #[s, x], argTypes := #[22, 22] })
    (B : Nat) (v : Value) (xs : List Int) (hs : a.eval s = v) (hown : w.ownsRow B 3 1 v xs.length (ints xs)) (ao : Option Addr) (L : List Int) (cap : Nat) (hx : a.eval x = .slice ao L.length cap) (hI : IntsAt w ao L)
    (hsz : (xs.length + L.length) * 8 ≤ 140737488355328) (hB : B ≤ w.heap.size) (h : ∀ v' w', AppTo B w v (xs ++ L) v' w' → K (a.put o.dst v') w') : o.wp Tryz.prog a w K Q := by
  obtain ⟨v', w', hr, h2⟩ := run_app w o.type B v xs hown ao L cap hI hsz hB
  unfold Oper.wp execOp
  simp only [ho, resolve, invoke, builtin, Sem.run_bind, Sem.run_pure, Result.andThen_ok, List.map_toArray, List.map_cons, List.map_nil, hs, hx, hr]
  exact h v' w' h2
theorem step_app {ops : Array Oper} {o : Oper} {a : Act} {w : World} {K : Act → World → Prop} {Q : Exit → Act → World → Prop} {E : Prop} (hgd : o.guard = none) (s x : Operand) (ho : o.op = .call { callee := .builtin .append, args := #[s, x], argTypes := #[22, 22] })
    (B : Nat) (v : Value) (xs : List Int) (hs : a.eval s = v) (hown : w.ownsRow B 3 1 v xs.length (ints xs)) (ao : Option Addr) (L : List Int) (cap : Nat) (hx : a.eval x = .slice ao L.length cap) (hI : IntsAt w ao L)
    (hsz : (xs.length + L.length) * 8 ≤ 140737488355328) (hB : B ≤ w.heap.size) (h : ∀ v' w', AppTo B w v (xs ++ L) v' w' → K (a.put o.dst v') w') :
    if Region.wanted o (yielded ops a.tmps) = true then Oper.wp Tryz.prog o a w K Q else E := by
  rw [if_pos (by simp [Region.wanted, hgd])]
  exact wp_app s x ho B v xs hs hown ao L cap hx hI hsz hB h
theorem own_none (w : World) (B : Nat) : w.ownsRow B 3 1 (.slice none 0 0) ([] : List Int).length (ints []) := ⟨by simp [ints], .inl ⟨rfl, rfl⟩⟩
theorem own_empty {w : World} {B g : Nat} (h : w.heap[g]? = some (.cells #[] 3 (0, 0))) (hB : B ≤ g) : w.ownsRow B 3 1 (.slice (some ⟨g, 0, none⟩) 0 0) ([] : List Int).length (ints []) :=
  ⟨by simp [ints], .inr ⟨g, 0, #[], rfl, hB, h, by simp, by unfold maxLen; omega, by simp, by simp [ints]⟩⟩
theorem own_at {w : World} {B : Nat} {vg : Value} {G : List Int} (h : w.ownsRow B 3 1 vg G.length (ints G)) : ∃ ao cap, vg = .slice ao G.length cap ∧ IntsAt w ao G ∧ G.length ≤ cap ∧ ∀ g off, ao = some ⟨g, off, none⟩ → g < w.heap.size :=
  ints_of_own ⟨h.1, h.2.imp id fun ⟨g, cap, cur, e, _, r⟩ => ⟨g, cap, cur, e, Nat.zero_le _, r⟩⟩
theorem own_lt {w : World} {B g : Nat} {v : Value} {n : Nat} {xs : List Value} (h : w.ownsRow B 3 1 v n xs) (hg : v.ownBlock = some g) : B ≤ g ∧ g < w.heap.size := by
  rcases h.2 with ⟨hv, _⟩ | ⟨g', cap, cur, hv, hb, hh, _⟩
  · rw [hv] at hg; cases hg
  · rw [hv] at hg
    have : g' = g := by simpa [Value.ownBlock] using hg
    subst this
    exact ⟨hb, (Array.getElem?_eq_some_iff.1 hh).1⟩
theorem AppTo.below {B : Nat} {w w' : World} {v v' : Value} {ys : List Int} {n : Nat} {xs : List Value} (h : AppTo B w v ys v' w') (hown : w.ownsRow B 3 1 v n xs) {w0 : World} (h0 : Below w0.heap.size w0 w) (hB : w0.heap.size ≤ B) : Below w0.heap.size w0 w' :=
  h0.grown h.grown h0.size fun k hk => by have := own_lt hown hk; omega
theorem list_app {ops : Array Oper} {rest : List Oper} {o : Oper} {a : Act} {w : World} {Q : Exit → Act → World → Prop} (hgd : o.guard = none) (s x : Operand) (ho : o.op = .call { callee := .builtin .append, args := #[s, x], argTypes := #[22, 22] })
    (B : Nat) (v : Value) (xs : List Int) (hs : a.eval s = v) (hown : w.ownsRow B 3 1 v xs.length (ints xs)) (ao : Option Addr) (L : List Int) (cap : Nat) (hx : a.eval x = .slice ao L.length cap) (hI : IntsAt w ao L)
    (hsz : (xs.length + L.length) * 8 ≤ 140737488355328) (hB : B ≤ w.heap.size) (h : ∀ v' w', AppTo B w v (xs ++ L) v' w' → wpList Tryz.prog ops Q rest (a.put o.dst v') w') : wpList Tryz.prog ops Q (o :: rest) a w :=
  wpList_plain hgd fun _ hK => wp_app s x ho B v xs hs hown ao L cap hx hI hsz hB fun v' w' hT => hK _ _ (h v' w' hT)
theorem own_form {w : World} {B : Nat} {v : Value} {G : List Int} (h : w.ownsRow B 3 1 v G.length (ints G)) : ∃ ao cap, v = .slice ao G.length cap ∧ IntsAt w ao G ∧ G.length ≤ cap ∧ cap ≤ 9223372036854775807 := by
  obtain ⟨ao, cap, rfl, hI, hc, _⟩ := own_at h
  refine ⟨ao, cap, rfl, hI, hc, ?_⟩
  rcases h.2 with ⟨e, _⟩ | ⟨g, c, cur, e, _, _, _, hm, _⟩
  · injection e with _ _ e; omega
  · injection e with _ _ e; subst e; unfold maxLen at hm; omega
end Go.Proofs.YtihkjgfghjgblaaGreatDoor.R
