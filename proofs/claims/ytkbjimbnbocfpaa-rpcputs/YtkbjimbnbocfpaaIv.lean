/-
  A call that was taken of bytes has just these bytes. No condition.
-/
import Derived.Test.YtkbjimbnbocfpaaGm
namespace Go.Proofs.Ytkbjimbnbocfpaa
open Go.RowKit
theorem opaque_cons (s : ByteArray) : opaqueOf s = numBytes s.size 4 ++ fixedOf s := rfl
/-- A text that was taken has just its bytes. -/
theorem opqR_took {m : Int} (hm : 0 ≤ m) (hm2 : m ≤ 1000000) {l : List UInt8} {b : ByteArray} {l' : List UInt8} (h : opqR m l 0 = (b, l', 0)) : l = opaqueOf b ++ l' ∧ (b.size : Int) ≤ m := by
  unfold opqR at h
  have hn := numR_nat l 0
  generalize hA : numR 4 l 0 = A at h hn
  obtain ⟨n, l1, e1⟩ := A
  dsimp only at h hn
  rw [if_neg (show ¬ m < 0 by omega)] at h
  by_cases c : m < n
  · rw [if_pos c] at h
    simp only [Prod.mk.injEq] at h
    have := h.2.2
    unfold failE at this
    split at this <;> omega
  · rw [if_neg c] at h
    obtain ⟨k, rfl⟩ : ∃ k : Nat, n = k := ⟨n.toNat, by omega⟩
    rw [fixR_nat] at h
    split at h
    · simp only [Prod.mk.injEq] at h
      have := h.2.2
      unfold failE at this
      split at this <;> omega
    · rename_i hl
      split at h
      · rename_i hz
        simp only [Prod.mk.injEq] at h
        obtain ⟨rfl, rfl, rfl⟩ := h
        obtain ⟨h1, _⟩ := numR_took hA
        have hp := pad_lt k
        have hsz : (⟨(l1.take k).toArray⟩ : ByteArray).size = k := by
          show (l1.take k).toArray.size = k
          simp; omega
        refine ⟨?_, by rw [hsz]; omega⟩
        rw [h1, opaque_cons, hsz]
        have hf : fixedOf ⟨(l1.take k).toArray⟩ = l1.take k ++ List.replicate (pad k) 0 := by
          unfold fixedOf
          rw [hsz]
        rw [hf]
        have hr : (l1.drop k).take (pad k) = List.replicate (pad k) 0 := by
          apply List.eq_replicate_iff.2
          refine ⟨by rw [List.length_take, List.length_drop]; omega, fun x hx => ?_⟩
          have := List.all_eq_true.1 hz x hx
          simpa using this
        have e1 : l1 = l1.take k ++ ((l1.drop k).take (pad k) ++ l1.drop (k + pad k)) := by
          rw [← List.drop_drop, List.take_append_drop, List.take_append_drop]
        conv => lhs; rw [e1, hr]
        simp
      · simp only [Prod.mk.injEq] at h
        have := h.2.2
        unfold failE at this
        split at this <;> omega
theorem opqR_live {m : Int} {l : List UInt8} {e : Int} {b : ByteArray} {l' : List UInt8} (h : opqR m l e = (b, l', 0)) : e = 0 := by
  by_cases he : e = 0
  · exact he
  · exfalso
    unfold opqR at h
    have h1 := numR_err2 (l := l) (e := e)
    generalize numR 4 l e = A at h h1
    have hA : A.2.2 = e := by omega
    by_cases c : (if m < 0 then 0 else m) < A.1
    · rw [if_pos c] at h
      simp only [Prod.mk.injEq] at h
      have := h.2.2
      unfold failE at this
      rw [if_neg (by omega)] at this
      omega
    · rw [if_neg c] at h
      have := fixR_err (n := A.1) (l := A.2.1) (e := A.2.2)
      rw [h] at this
      dsimp only at this
      omega
theorem grpR_live {l : List UInt8} {e : Int} : ∀ k, (grpR l e k).2.2 = 0 → e = 0
  | 0, h => h
  | k + 1, h => by
    have h1 := numR_err2 (l := (grpR l e k).2.1) (e := (grpR l e k).2.2)
    have h2 : (numR 4 (grpR l e k).2.1 (grpR l e k).2.2).2.2 = 0 := h
    exact grpR_live (l := l) k (by omega)
theorem grpR_took {l : List UInt8} : ∀ k, (grpR l 0 k).2.2 = 0 → l = putU (grpR l 0 k).1 ++ (grpR l 0 k).2.1 ∧ areU (grpR l 0 k).1 = true
  | 0, _ => ⟨rfl, rfl⟩
  | k + 1, h => by
    obtain ⟨n, l', e', hn⟩ : ∃ n l' e', numR 4 (grpR l 0 k).2.1 (grpR l 0 k).2.2 = (n, l', e') := ⟨_, _, _, rfl⟩
    have hg : grpR l 0 (k + 1) = ((grpR l 0 k).1 ++ [n], l', e') := by show (_, _, _) = _; rw [hn]
    rw [hg] at h ⊢
    dsimp only at h ⊢
    subst h
    have h0 := numR_live hn
    obtain ⟨i1, i2⟩ := grpR_took k h0
    rw [h0] at hn
    obtain ⟨j1, j2⟩ := numR_took hn
    refine ⟨?_, ?_⟩
    · conv => lhs; rw [i1, j1]
      simp [putU]
    · unfold areU at i2 ⊢
      rw [List.all_append, i2]
      simp [j2]
theorem endR_zero {l : List UInt8} {e : Int} (h : endR l e = 0) : e = 0 ∧ l = [] := by
  unfold endR at h
  split at h
  · split at h
    · rename_i h0 h1
      exact ⟨h0, List.eq_nil_of_length_eq_zero h1⟩
    · omega
  · exact absurd h ‹_›
theorem unixO_took {body : ByteArray} {st : Int} {m : ByteArray} {uid gid : Int} {G : List Int} (h : unixO body = some (st, m, uid, gid, G)) :
    body.data.toList = numBytes st 4 ++ opaqueOf m ++ putU [uid, gid, (G.length : Int)] ++ putU G ∧ isU st = true ∧ isU uid = true ∧ isU gid = true ∧ m.size ≤ 255 ∧ G.length ≤ 16 ∧ areU G = true := by
  unfold unixO at h
  obtain ⟨a, l1, e1, h1⟩ : ∃ n l e, numR 4 body.data.toList 0 = (n, l, e) := ⟨_, _, _, rfl⟩
  obtain ⟨b, l2, e2, h2⟩ : ∃ n l e, opqR 255 l1 e1 = (n, l, e) := ⟨_, _, _, rfl⟩
  obtain ⟨c, l3, e3, h3⟩ : ∃ n l e, numR 4 l2 e2 = (n, l, e) := ⟨_, _, _, rfl⟩
  obtain ⟨d, l4, e4, h4⟩ : ∃ n l e, numR 4 l3 e3 = (n, l, e) := ⟨_, _, _, rfl⟩
  obtain ⟨k, l5, e5, h5⟩ : ∃ n l e, numR 4 l4 e4 = (n, l, e) := ⟨_, _, _, rfl⟩
  simp only [h1, h2, h3, h4, h5] at h
  split at h
  · rename_i hc
    simp only [Bool.and_eq_true, decide_eq_true_eq, beq_iff_eq] at hc
    simp only [Option.some.injEq, Prod.mk.injEq] at h
    obtain ⟨rfl, rfl, rfl, rfl, rfl⟩ := h
    obtain ⟨z1, z2⟩ := endR_zero hc.2
    have y5 := grpR_live _ z1
    subst y5
    have y4 := numR_live h5
    subst y4
    have y3 := numR_live h4
    subst y3
    have y2 := numR_live h3
    subst y2
    have y1 := opqR_live h2
    subst y1
    obtain ⟨p1, u1⟩ := numR_took h1
    obtain ⟨p2, u2⟩ := opqR_took (by decide) (by decide) h2
    obtain ⟨p3, u3⟩ := numR_took h3
    obtain ⟨p4, u4⟩ := numR_took h4
    obtain ⟨p5, u5⟩ := numR_took h5
    obtain ⟨p6, u6⟩ := grpR_took _ z1
    have hk := of_decide_eq_true u5
    have hl := (grpR_len l5 0 k.toNat).1
    refine ⟨?_, u1, u3, u4, by omega, by omega, u6⟩
    rw [hl, p1, p2, p3, p4, p5]
    conv => lhs; rw [p6, z2]
    simp [putU, Int.toNat_of_nonneg hk.1]
  · cases h
theorem tail_took {l : List UInt8} {f : ByteArray → Tc} (h : (tailO l 0 f).isBad = false) : ∃ A : List UInt8, l = numBytes 0 4 ++ (numBytes 0 4 ++ A) ∧ A.length % 4 = 0 ∧ tailO l 0 f = f ⟨A.toArray⟩ := by
  obtain ⟨fl2, l9, e9, h9⟩ : ∃ n l' e, numR 4 l 0 = (n, l', e) := ⟨_, _, _, rfl⟩
  obtain ⟨b2, l10, e10, h10⟩ : ∃ n l' e, opqR 400 l9 e9 = (n, l', e) := ⟨_, _, _, rfl⟩
  have ht := tailO_eq (f := f) h9 h10
  rw [ht] at h
  split at h
  · cases h
  · rename_i hc
    rw [if_neg hc] at ht
    simp only [not_or, Decidable.not_not] at hc
    obtain ⟨rfl, rfl, hb, hl⟩ := hc
    have y := opqR_live h10
    subst y
    obtain ⟨p1, _⟩ := numR_took h9
    obtain ⟨p2, _⟩ := opqR_took (by decide) (by decide) h10
    have hb0 := bytes_nil (show b2.toList.isEmpty = true by simpa using hb)
    subst hb0
    rw [opq_empty] at p2
    exact ⟨l10, by rw [p1, p2], hl, ht⟩
/-- A call that was taken: it can be laid out, and has just these bytes. -/
theorem getO_took {s : ByteArray} {xid prog vers proc : Int} {unix : Bool} {st : Int} {m : ByteArray} {uid gid : Int} {G : List Int} {args : ByteArray} (h : getO s = .ok xid prog vers proc unix st m uid gid G args) :
    (Cl.mk xid prog vers proc unix st m uid gid G args).ok = true ∧ restC (Cl.mk xid prog vers proc unix st m uid gid G args).head args = 0 ∧ restS (Cl.mk xid prog vers proc unix st m uid gid G args).head args = s := by
  have hbig : s.size ≤ 65536 := by
    by_cases hb : 65536 < s.size
    · rw [getO_big hb] at h; cases h
    · omega
  have h8 : 8 ≤ s.size := by
    by_cases hb : s.size < 8
    · rw [getO_short hb] at h; cases h
    · omega
  have hl0 : s.data.toList.length = s.size := by simp
  obtain ⟨x, l1, h1⟩ : ∃ n l', numR 4 s.data.toList 0 = (n, l', 0) := ⟨_, _, by unfold numR; rw [if_neg (by omega)]⟩
  have hl1 : l1.length + 4 = s.data.toList.length := by rw [(numR_took h1).1, List.length_append, numBytes_length]; omega
  obtain ⟨kind, l2, h2⟩ : ∃ n l', numR 4 l1 0 = (n, l', 0) := ⟨_, _, by unfold numR; rw [if_neg (by omega)]⟩
  have hget := getO_eq hbig h1 h2
  rw [h] at hget
  by_cases hk : kind ≠ 0
  · rw [if_pos hk] at hget; cases hget
  · rw [if_neg hk] at hget
    have hk0 : kind = 0 := by omega
    subst hk0
    obtain ⟨v, l3, e3, h3⟩ : ∃ n l e, numR 4 l2 0 = (n, l, e) := ⟨_, _, _, rfl⟩
    by_cases hv : v ≠ 2
    · rw [takeO_ver h3 hv] at hget; cases hget
    · have hv2 : v = 2 := by omega
      subst hv2
      have he3 := numR_two h3 (by decide)
      subst he3
      obtain ⟨pr, l4, e4, h4⟩ : ∃ n l e, numR 4 l3 0 = (n, l, e) := ⟨_, _, _, rfl⟩
      obtain ⟨ve, l5, e5, h5⟩ : ∃ n l e, numR 4 l4 e4 = (n, l, e) := ⟨_, _, _, rfl⟩
      obtain ⟨pc, l6, e6, h6⟩ : ∃ n l e, numR 4 l5 e5 = (n, l, e) := ⟨_, _, _, rfl⟩
      obtain ⟨fl, l7, e7, h7⟩ : ∃ n l e, numR 4 l6 e6 = (n, l, e) := ⟨_, _, _, rfl⟩
      obtain ⟨body, l8, e8, h8'⟩ : ∃ n l e, opqR 400 l7 e7 = (n, l, e) := ⟨_, _, _, rfl⟩
      rw [takeO_eq h3 h4 h5 h6 h7 h8'] at hget
      by_cases c6 : e6 ≠ 0
      · rw [if_pos c6] at hget; cases hget
      rw [if_neg c6] at hget
      by_cases c8 : e8 ≠ 0
      · rw [if_pos c8] at hget; cases hget
      rw [if_neg c8] at hget
      by_cases cf : 1 < fl
      · rw [if_pos cf] at hget; cases hget
      rw [if_neg cf] at hget
      have y8 : e8 = 0 := by omega
      subst y8
      have y7 := opqR_live h8'
      subst y7
      have y6 : e6 = 0 := by omega
      subst y6
      have y5 := numR_live h6
      subst y5
      have y4 := numR_live h5
      subst y4
      obtain ⟨p1, u1⟩ := numR_took h1
      obtain ⟨p2, _⟩ := numR_took h2
      obtain ⟨p3, _⟩ := numR_took h3
      obtain ⟨p4, u4⟩ := numR_took h4
      obtain ⟨p5, u5⟩ := numR_took h5
      obtain ⟨p6, u6⟩ := numR_took h6
      obtain ⟨p7, u7⟩ := numR_took h7
      obtain ⟨p8, _⟩ := opqR_took (by decide) (by decide) h8'
      have hf0 := (of_decide_eq_true u7).1
      have fin : ∀ (c : Cl) (A : List UInt8), c.ok = true → c.args = ⟨A.toArray⟩ → A.length % 4 = 0 → s.data.toList = c.head ++ A → c.ok = true ∧ restC c.head c.args = 0 ∧ restS c.head c.args = s := by
        intro c A k1 k2 k3 k4
        have hA : c.args.size = A.length := by rw [k2]; show A.toArray.size = _; simp
        have hcs : ¬ (c.args.size % 4 ≠ 0 ∨ 65536 < c.head.length + c.args.size) := by
          have : s.data.toList.length = c.head.length + A.length := by rw [k4, List.length_append]
          omega
        refine ⟨k1, if_neg hcs, ?_⟩
        unfold restS
        rw [if_neg hcs]
        apply ByteArray.ext
        apply Array.ext'
        rw [k4, k2]
      by_cases c1 : fl = 1
      · subst c1
        rw [if_pos rfl] at hget
        generalize hu : unixO body = U at hget
        cases U with
        | none => cases hget
        | some t =>
          obtain ⟨st', m', uid', gid', G'⟩ := t
          dsimp only at hget
          obtain ⟨w1, w2, w3, w4, w5, w6, w7⟩ := unixO_took hu
          have hbad : (tailO l8 0 (Tc.ok pr ve pc true st' m' uid' gid' G')).isBad = false := by
            generalize tailO l8 0 (Tc.ok pr ve pc true st' m' uid' gid' G') = T at hget
            cases T with
            | bad => cases hget
            | ok => rfl
          obtain ⟨A, t1, t2, t3⟩ := tail_took hbad
          rw [t3] at hget
          simp only [Gco.ok.injEq] at hget
          obtain ⟨rfl, rfl, rfl, rfl, rfl, rfl, rfl, rfl, rfl, rfl, rfl⟩ := hget
          refine fin _ A ?_ rfl t2 ?_
          · simp [Cl.ok, areU, u1, u4, u5, u6, w2, w3, w4, w5, w6]
            unfold areU at w7
            simpa using w7
          · have hcr : (⟨(Cl.mk xid prog vers proc true st m uid gid G ⟨A.toArray⟩).cred.toArray⟩ : ByteArray) = body := by
              apply ByteArray.ext
              apply Array.ext'
              rw [w1]; rfl
            unfold Cl.head
            rw [hcr, p1, p2, p3, p4, p5, p6, p7, p8, t1]
            simp [putU, opq_empty]
      · have c0 : fl = 0 := by omega
        subst c0
        rw [if_neg (by decide)] at hget
        by_cases cb : body.toList.isEmpty = false
        · rw [if_pos cb] at hget; cases hget
        rw [if_neg cb] at hget
        have hb0 := bytes_nil (show body.toList.isEmpty = true by simpa using cb)
        subst hb0
        have hbad : (tailO l8 0 (Tc.ok pr ve pc false 0 ⟨#[]⟩ 0 0 [])).isBad = false := by
          generalize tailO l8 0 (Tc.ok pr ve pc false 0 ⟨#[]⟩ 0 0 []) = T at hget
          cases T with
          | bad => cases hget
          | ok => rfl
        obtain ⟨A, t1, t2, t3⟩ := tail_took hbad
        rw [t3] at hget
        simp only [Gco.ok.injEq] at hget
        obtain ⟨rfl, rfl, rfl, rfl, rfl, rfl, rfl, rfl, rfl, rfl, rfl⟩ := hget
        refine fin _ A ?_ rfl t2 ?_
        · simp only [Cl.ok, Cl.zero, areU, List.all_cons, u1, u4, u5, u6]
          kernel_rfl
        · unfold Cl.head
          rw [p1, p2, p3, p4, p5, p6, p7, p8, t1]
          simp [putU, opq_empty]
end Go.Proofs.Ytkbjimbnbocfpaa
