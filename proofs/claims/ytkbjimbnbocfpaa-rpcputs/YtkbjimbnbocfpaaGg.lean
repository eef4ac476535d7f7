/-
  takeCall and GetCall, each in one contract. Its conditions: at most 65536 bytes for takeCall.
-/
import Derived.Test.YtkbjimbnbocfpaaGe
import Derived.Test.YtkbjimbnbocfpaaGf
namespace Go.Proofs.Ytkbjimbnbocfpaa
open Go.RowKit

/-- What takeCall makes of the bytes. -/
inductive Tc where
  | bad (v lo hi : Int)
  | ok (prog vers proc : Int) (unix : Bool) (st : Int) (m : ByteArray) (uid gid : Int) (G : List Int) (args : ByteArray)

/-- Behind the credential: the verifier and the arguments. -/
def tailO (l : List UInt8) (e : Int) (f : ByteArray → Tc) : Tc :=
  if wellR (opqR 0 (numR 4 l e).2.1 (numR 4 l e).2.2).2.1 (opqR 0 (numR 4 l e).2.1 (numR 4 l e).2.2).2.2 = false then .bad 7 3 0
  else if (numR 4 l e).1 ≠ 0 then .bad 7 3 0
  else if (opqR 0 (numR 4 l e).2.1 (numR 4 l e).2.2).2.1.length % 4 ≠ 0 then .bad 7 3 0
  else f (fixR (opqR 0 (numR 4 l e).2.1 (numR 4 l e).2.2).2.1.length (opqR 0 (numR 4 l e).2.1 (numR 4 l e).2.2).2.1 (opqR 0 (numR 4 l e).2.1 (numR 4 l e).2.2).2.2).1

theorem numR_nat (l : List UInt8) (e : Int) : 0 ≤ (numR 4 l e).1 := by
  unfold numR
  split
  · simp
  · rename_i h
    match l, h with
    | a :: b :: c :: d :: t, _ =>
      have ha := a.toNat_lt
      have hb := b.toNat_lt
      have hc := c.toNat_lt
      have hd := d.toNat_lt
      have hbe : be (List.take 4 (a :: b :: c :: d :: t)) = 256 * (256 * (256 * (256 * 0 + a.toNat) + b.toNat) + c.toNat) + d.toNat := rfl
      show 0 ≤ IntKind.i64.wrap _
      rw [hbe, IntWalk.i64_in _ (by omega)]
      omega
    | [], h => simp at h
    | [_], h => simp at h
    | [_, _], h => simp at h
    | [_, _, _], h => simp at h

/-- AUTH_SYS's body. -/
def unixO (s : ByteArray) : Option (Int × ByteArray × Int × Int × List Int) :=
  let a := numR 4 s.data.toList 0
  let b := opqR 255 a.2.1 a.2.2
  let c := numR 4 b.2.1 b.2.2
  let d := numR 4 c.2.1 c.2.2
  let k := numR 4 d.2.1 d.2.2
  let g := grpR k.2.1 k.2.2 k.1.toNat
  if (decide (k.1.toNat ≤ 16) && (endR g.2.1 g.2.2 == 0)) = true then some (a.1, b.1, c.1, d.1, g.1) else none
/-- What takeCall answers. -/
def takeO (l : List UInt8) : Tc :=
  let a := numR 4 l 0
  let b := numR 4 a.2.1 a.2.2
  let c := numR 4 b.2.1 b.2.2
  let d := numR 4 c.2.1 c.2.2
  let f := numR 4 d.2.1 d.2.2
  let y := opqR 400 f.2.1 f.2.2
  if a.1 ≠ 2 then .bad 6 2 2 else if wellR d.2.1 d.2.2 = false then .bad 4 0 0 else if wellR y.2.1 y.2.2 = false then .bad 7 1 0 else if 1 < f.1 then .bad 7 5 0
  else if f.1 = 1 then (match unixO y.1 with
    | none => .bad 7 1 0
    | some (st, m, uid, gid, G) => tailO y.2.1 y.2.2 (.ok b.1 c.1 d.1 true st m uid gid G))
  else if y.1.toList.isEmpty = false then .bad 7 1 0
  else tailO y.2.1 y.2.2 (.ok b.1 c.1 d.1 false 0 ⟨#[]⟩ 0 0 [])
/-- An answer of takeCall. -/
def TcTo (p : Nat) (xid : Int) (w : World) (t : Tc) (r : Ending) (w' : World) : Prop :=
  match t with
  | .bad v lo hi => r = Thrown xid v lo hi ∧ Fq p w w'
  | .ok prog vers proc unix st m uid gid G args => TkTo p prog vers proc unix st m uid gid G args w r w'

set_option maxHeartbeats 1000000 in
theorem takeCall_any (p x : Nat) (xid : Int) (l : List UInt8) (w : World) (hR : Rd w p l 0) (hl : l.length ≤ 65536) (hc : w.cell? ⟨x, 0, none⟩ = some (.int .i64 xid)) (hx : x < w.heap.size) (hxp : x ≠ p) :
    Calls Try.prog 35 #[.pointer (some ⟨p, 0, none⟩), .func (.func 32) #[] #[.pointer (some ⟨x, 0, none⟩)]] w (TcTo p xid w (takeO l)) := by
  unfold takeO
  generalize h1 : numR 4 l 0 = A
  obtain ⟨v, l1, e1⟩ := A
  dsimp only
  by_cases q1 : v ≠ 2
  · rw [if_pos q1]
    exact take_version p x xid l w hR hl hc hx hxp v l1 e1 h1 q1
  rw [if_neg q1]
  have q1' : v = 2 := by omega
  subst q1'
  generalize h2 : numR 4 l1 e1 = A
  obtain ⟨prog, l2, e2⟩ := A
  dsimp only
  generalize h3 : numR 4 l2 e2 = A
  obtain ⟨vers, l3, e3⟩ := A
  dsimp only
  generalize h4 : numR 4 l3 e3 = A
  obtain ⟨proc, l4, e4⟩ := A
  dsimp only
  cases q2 : wellR l4 e4 with
  | false => exact take_head p x xid l w hR hl hc hx hxp l1 e1 h1 prog l2 e2 h2 vers l3 e3 h3 proc l4 e4 h4 q2
  | true =>
  rw [if_neg (by decide)]
  have hf0 := numR_nat l4 e4
  generalize h5 : numR 4 l4 e4 = A at hf0 ⊢
  obtain ⟨fl, l5, e5⟩ := A
  dsimp only at hf0 ⊢
  generalize h6 : opqR 400 l5 e5 = A
  obtain ⟨body, l6, e6⟩ := A
  dsimp only
  cases q3 : wellR l6 e6 with
  | false => exact take_short p x xid l w hR hl hc hx hxp l1 e1 h1 prog l2 e2 h2 vers l3 e3 h3 proc l4 e4 h4 q2 fl l5 e5 h5 body l6 e6 h6 q3
  | true =>
  rw [if_neg (by decide)]
  by_cases q4 : 1 < fl
  · rw [if_pos q4]
    exact take_weak p x xid l w hR hl hc hx hxp l1 e1 h1 prog l2 e2 h2 vers l3 e3 h3 proc l4 e4 h4 q2 fl l5 e5 h5 body l6 e6 h6 q3 q4
  rw [if_neg q4]
  by_cases q5 : fl = 1
  · rw [if_pos q5]
    unfold unixO
    generalize hu1 : numR 4 body.data.toList 0 = A
    obtain ⟨st, u1, g1⟩ := A
    dsimp only
    generalize hu2 : opqR 255 u1 g1 = A
    obtain ⟨m, u2, g2⟩ := A
    dsimp only
    generalize hu3 : numR 4 u2 g2 = A
    obtain ⟨uid, u3, g3⟩ := A
    dsimp only
    generalize hu4 : numR 4 u3 g3 = A
    obtain ⟨gid, u4, g4⟩ := A
    dsimp only
    have hk0 := numR_nat u4 g4
    generalize hu5 : numR 4 u4 g4 = A at hk0 ⊢
    obtain ⟨kk, u5, g5⟩ := A
    dsimp only at hk0 ⊢
    obtain ⟨k, rfl⟩ := Int.eq_ofNat_of_zero_le hk0
    rw [Int.toNat_natCast]
    cases qB : (decide (k ≤ 16) && (endR (grpR u5 g5 k).2.1 (grpR u5 g5 k).2.2 == 0)) with
    | false =>
      rw [if_neg (by decide)]
      exact unix_bad p x xid l w hR hl hc hx hxp l1 e1 h1 prog l2 e2 h2 vers l3 e3 h3 proc l4 e4 h4 q2 fl l5 e5 h5 body l6 e6 h6 q3 q5 st u1 g1 hu1 m u2 g2 hu2 uid u3 g3 hu3 gid u4 g4 hu4 k u5 g5 hu5 qB
    | true =>
    rw [if_pos rfl]
    dsimp only
    unfold tailO
    generalize h7 : numR 4 l6 e6 = A
    obtain ⟨fl2, l7, e7⟩ := A
    dsimp only
    generalize h8 : opqR 0 l7 e7 = A
    obtain ⟨b8, l8, e8⟩ := A
    dsimp only
    cases q8 : wellR l8 e8 with
    | false => exact unix_v1 p x xid l w hR hl hc hx hxp l1 e1 h1 prog l2 e2 h2 vers l3 e3 h3 proc l4 e4 h4 q2 fl l5 e5 h5 body l6 e6 h6 q3 q5 st u1 g1 hu1 m u2 g2 hu2 uid u3 g3 hu3 gid u4 g4 hu4 k u5 g5 hu5 qB fl2 l7 e7 h7 b8 l8 e8 h8 q8
    | true =>
    rw [if_neg (by decide)]
    by_cases q9 : fl2 ≠ 0
    · rw [if_pos q9]
      exact unix_v2 p x xid l w hR hl hc hx hxp l1 e1 h1 prog l2 e2 h2 vers l3 e3 h3 proc l4 e4 h4 q2 fl l5 e5 h5 body l6 e6 h6 q3 q5 st u1 g1 hu1 m u2 g2 hu2 uid u3 g3 hu3 gid u4 g4 hu4 k u5 g5 hu5 qB fl2 l7 e7 h7 b8 l8 e8 h8 q8 q9
    rw [if_neg q9]
    by_cases q10 : l8.length % 4 ≠ 0
    · rw [if_pos q10]
      exact unix_v3 p x xid l w hR hl hc hx hxp l1 e1 h1 prog l2 e2 h2 vers l3 e3 h3 proc l4 e4 h4 q2 fl l5 e5 h5 body l6 e6 h6 q3 q5 st u1 g1 hu1 m u2 g2 hu2 uid u3 g3 hu3 gid u4 g4 hu4 k u5 g5 hu5 qB fl2 l7 e7 h7 b8 l8 e8 h8 q8 (by omega) q10
    rw [if_neg q10]
    exact unix_ok p x xid l w hR hl hc hx hxp l1 e1 h1 prog l2 e2 h2 vers l3 e3 h3 proc l4 e4 h4 q2 fl l5 e5 h5 body l6 e6 h6 q3 q5 st u1 g1 hu1 m u2 g2 hu2 uid u3 g3 hu3 gid u4 g4 hu4 k u5 g5 hu5 qB fl2 l7 e7 h7 b8 l8 e8 h8 q8 (by omega) (by omega) _ _ _ rfl
  · rw [if_neg q5]
    have q6 : fl = 0 := by omega
    cases q7 : body.toList.isEmpty with
    | false => exact take_full p x xid l w hR hl hc hx hxp l1 e1 h1 prog l2 e2 h2 vers l3 e3 h3 proc l4 e4 h4 q2 fl l5 e5 h5 body l6 e6 h6 q3 q6 q7
    | true =>
    rw [if_neg (by decide)]
    unfold tailO
    generalize h7 : numR 4 l6 e6 = A
    obtain ⟨fl2, l7, e7⟩ := A
    dsimp only
    generalize h8 : opqR 0 l7 e7 = A
    obtain ⟨b8, l8, e8⟩ := A
    dsimp only
    cases q8 : wellR l8 e8 with
    | false => exact plain_v1 p x xid l w hR hl hc hx hxp l1 e1 h1 prog l2 e2 h2 vers l3 e3 h3 proc l4 e4 h4 q2 fl l5 e5 h5 body l6 e6 h6 q3 q6 q7 fl2 l7 e7 h7 b8 l8 e8 h8 q8
    | true =>
    rw [if_neg (by decide)]
    by_cases q9 : fl2 ≠ 0
    · rw [if_pos q9]
      exact plain_v2 p x xid l w hR hl hc hx hxp l1 e1 h1 prog l2 e2 h2 vers l3 e3 h3 proc l4 e4 h4 q2 fl l5 e5 h5 body l6 e6 h6 q3 q6 q7 fl2 l7 e7 h7 b8 l8 e8 h8 q8 q9
    rw [if_neg q9]
    by_cases q10 : l8.length % 4 ≠ 0
    · rw [if_pos q10]
      exact plain_v3 p x xid l w hR hl hc hx hxp l1 e1 h1 prog l2 e2 h2 vers l3 e3 h3 proc l4 e4 h4 q2 fl l5 e5 h5 body l6 e6 h6 q3 q6 q7 fl2 l7 e7 h7 b8 l8 e8 h8 q8 (by omega) q10
    rw [if_neg q10]
    exact plain_ok p x xid l w hR hl hc hx hxp l1 e1 h1 prog l2 e2 h2 vers l3 e3 h3 proc l4 e4 h4 q2 fl l5 e5 h5 body l6 e6 h6 q3 q6 q7 fl2 l7 e7 h7 b8 l8 e8 h8 q8 (by omega) (by omega) _ _ _ rfl
end Go.Proofs.Ytkbjimbnbocfpaa
