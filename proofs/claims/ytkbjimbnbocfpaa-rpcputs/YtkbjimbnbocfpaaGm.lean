/-
  What GetCall makes of bytes, test by test as the document has them. No condition.
-/
import Derived.Test.YtkbjimbnbocfpaaRf
namespace Go.Proofs.Ytkbjimbnbocfpaa
open Go.RowKit
theorem well_e {l : List UInt8} {e : Int} (h : e ≠ 6) : wellR l e = (e == 0) := by
  unfold wellR endR
  by_cases h0 : e = 0
  · subst h0
    by_cases hl : l.length = 0 <;> simp [hl]
  · simp [h0, h]
theorem fixR_err {n : Int} {l : List UInt8} {e : Int} : (fixR n l e).2.2 = e ∨ (e = 0 ∧ ((fixR n l e).2.2 = 5 ∨ (fixR n l e).2.2 = 4)) := by
  unfold fixR failE
  by_cases h0 : e = 0
  · subst h0
    split
    · exact .inl rfl
    · split
      · exact .inr ⟨rfl, .inl rfl⟩
      · split
        · exact .inl rfl
        · exact .inr ⟨rfl, .inr rfl⟩
  · left
    split
    · rfl
    · split
      · rfl
      · split
        · rfl
        · rfl
theorem numR_err2 {l : List UInt8} {e : Int} : (numR 4 l e).2.2 = e ∨ (e = 0 ∧ (numR 4 l e).2.2 = 5) := by
  unfold numR failE
  by_cases h0 : e = 0
  · subst h0
    split
    · exact .inr ⟨rfl, rfl⟩
    · exact .inl rfl
  · left
    split
    · rfl
    · rfl
theorem opqR_err {m : Int} {l : List UInt8} {e : Int} (h : e = 0 ∨ e = 5) : (opqR m l e).2.2 ≠ 6 := by
  unfold opqR
  have h1 := numR_err2 (l := l) (e := e)
  generalize numR 4 l e = A at *
  have hA : A.2.2 = 0 ∨ A.2.2 = 5 := by omega
  by_cases hc : (if m < 0 then 0 else m) < A.1
  · rw [if_pos hc]
    show failE A.2.2 2 ≠ 6
    unfold failE
    split <;> omega
  · rw [if_neg hc]
    have := fixR_err (n := A.1) (l := A.2.1) (e := A.2.2)
    omega
theorem numR_two {l : List UInt8} {v : Int} {l' : List UInt8} {e' : Int} (h : numR 4 l 0 = (v, l', e')) (hv : v ≠ 0) : e' = 0 := by
  unfold numR at h
  split at h
  · simp only [Prod.mk.injEq] at h
    exact absurd h.1.symm hv
  · simp only [Prod.mk.injEq] at h
    exact h.2.2.symm
theorem getO_big {s : ByteArray} (h : 65536 < s.size) : getO s = .err 2 := by
  unfold getO
  simp only [if_pos h]
theorem getO_short {s : ByteArray} (h : s.size < 8) : getO s = .err 5 := by
  unfold getO
  have hl : s.data.toList.length = s.size := by simp
  have hw : wellR (numR 4 (numR 4 s.data.toList 0).2.1 (numR 4 s.data.toList 0).2.2).2.1 (numR 4 (numR 4 s.data.toList 0).2.1 (numR 4 s.data.toList 0).2.2).2.2 = false := by
    by_cases h4 : s.data.toList.length < 4
    · rw [nShort h4, nDead]; rfl
    · have e1 : (numR 4 s.data.toList 0) = (IntKind.i64.wrap (be (s.data.toList.take 4)), s.data.toList.drop 4, 0) := by unfold numR; rw [if_neg h4]
      rw [e1]
      dsimp only
      rw [nShort (by rw [List.length_drop]; omega)]; rfl
  dsimp only
  rw [if_neg (by omega), if_pos hw]
theorem getO_eq {s : ByteArray} {xid kind : Int} {l1 l2 : List UInt8} (hs : s.size ≤ 65536) (h1 : numR 4 s.data.toList 0 = (xid, l1, 0)) (h2 : numR 4 l1 0 = (kind, l2, 0)) :
    getO s = if kind ≠ 0 then .err 4 else match takeO l2 with
      | .bad v lo hi => .ref xid v lo hi
      | .ok prog vers proc unix st m uid gid G args => .ok xid prog vers proc unix st m uid gid G args := by
  unfold getO
  simp only [h1, h2]
  rw [if_neg (by omega), if_neg (by simp [wellOk])]
  rfl
theorem takeO_ver {l2 : List UInt8} {v : Int} {l3 : List UInt8} {e3 : Int} (h3 : numR 4 l2 0 = (v, l3, e3)) (hv : v ≠ 2) : takeO l2 = .bad 6 2 2 := by
  unfold takeO
  simp only [h3]
  rw [if_pos hv]
theorem takeO_eq {l2 l3 l4 l5 l6 l7 l8 : List UInt8} {prog vers proc fl e4 e5 e6 e7 e8 : Int} {body : ByteArray} (h3 : numR 4 l2 0 = (2, l3, 0)) (h4 : numR 4 l3 0 = (prog, l4, e4)) (h5 : numR 4 l4 e4 = (vers, l5, e5)) (h6 : numR 4 l5 e5 = (proc, l6, e6)) (h7 : numR 4 l6 e6 = (fl, l7, e7)) (h8 : opqR 400 l7 e7 = (body, l8, e8)) :
    takeO l2 = if e6 ≠ 0 then .bad 4 0 0 else if e8 ≠ 0 then .bad 7 1 0 else if 1 < fl then .bad 7 5 0
      else if fl = 1 then (match unixO body with
        | none => .bad 7 1 0
        | some (st, m, uid, gid, G) => tailO l8 e8 (.ok prog vers proc true st m uid gid G))
      else if body.toList.isEmpty = false then .bad 7 1 0
      else tailO l8 e8 (.ok prog vers proc false 0 ⟨#[]⟩ 0 0 []) := by
  have q4 := numR_err2 (l := l3) (e := 0)
  rw [h4] at q4
  have q5 := numR_err2 (l := l4) (e := e4)
  rw [h5] at q5
  have q6 := numR_err2 (l := l5) (e := e5)
  rw [h6] at q6
  have q7 := numR_err2 (l := l6) (e := e6)
  rw [h7] at q7
  dsimp only at q4 q5 q6 q7
  have q8 := opqR_err (m := 400) (l := l7) (e := e7) (by omega)
  rw [h8] at q8
  dsimp only at q8
  unfold takeO
  simp only [h3, h4, h5, h6, h7, h8, well_e (show e6 ≠ 6 by omega), well_e q8]
  rw [if_neg (by decide)]
  by_cases c6 : e6 = 0
  · subst c6
    by_cases c8 : e8 = 0
    · subst c8; simp; rfl
    · simp [c8]
  · simp [c6]
theorem opq400 {l : List UInt8} {e : Int} (he : e = 0 ∨ e = 5) {b : ByteArray} {l' : List UInt8} {e' : Int} (h : opqR 400 l e = (b, l', e')) :
    (e' = 0 ∧ b.toList.isEmpty = true ∧ opqR 0 l e = (⟨#[]⟩, l', 0)) ∨ ((e' ≠ 0 ∨ b.toList.isEmpty = false) ∧ (opqR 0 l e).2.2 ≠ 0 ∧ (opqR 0 l e).2.2 ≠ 6) := by
  have h6 := opqR_err (m := 0) (l := l) he
  have hn := numR_nat l e
  have hne := numR_err2 (l := l) (e := e)
  unfold opqR at h h6 ⊢
  generalize numR 4 l e = A at *
  simp only [show (if (400 : Int) < 0 then (0 : Int) else 400) = 400 from rfl, show (if (0 : Int) < 0 then (0 : Int) else 0) = 0 from rfl] at h h6 ⊢
  by_cases c0 : A.1 = 0
  · rw [if_neg (by omega)] at h
    rw [if_neg (by omega)] at h6 ⊢
    rw [c0] at h h6 ⊢
    have e0 : fixR 0 A.2.1 A.2.2 = (⟨#[]⟩, A.2.1, A.2.2) := by
      unfold fixR
      rw [if_neg (by decide), if_neg (by simp [pad]), if_pos (by simp [pad])]
      simp [pad]
    rw [e0] at h h6 ⊢
    dsimp only at h6
    simp only [Prod.mk.injEq] at h
    obtain ⟨rfl, rfl, rfl⟩ := h
    by_cases c : A.2.2 = 0
    · left; exact ⟨c, by decide +kernel, by rw [c]⟩
    · right; exact ⟨.inl c, c, by omega⟩
  · have c1 : 0 < A.1 := by omega
    rw [if_pos c1] at h6 ⊢
    right
    refine ⟨?_, ?_, h6⟩
    · by_cases c4 : (400 : Int) < A.1
      · rw [if_pos c4] at h
        simp only [Prod.mk.injEq] at h
        left
        rw [← h.2.2]
        show failE A.2.2 2 ≠ 0
        unfold failE; split <;> omega
      · rw [if_neg c4] at h
        unfold fixR at h
        rw [if_neg (by omega)] at h
        split at h
        · simp only [Prod.mk.injEq] at h
          left
          rw [← h.2.2]; unfold failE; split <;> omega
        · rename_i hlen
          split at h
          · simp only [Prod.mk.injEq] at h
            right
            rw [← h.1]
            have hl : (A.2.1.take A.1.toNat).length = A.1.toNat := by rw [List.length_take]; omega
            cases hq : A.2.1.take A.1.toNat with
            | nil => rw [hq] at hl; simp at hl; omega
            | cons x r => simp [ByteArray.toList_eq]
          · simp only [Prod.mk.injEq] at h
            left
            rw [← h.2.2]; unfold failE; split <;> omega
    · show failE A.2.2 2 ≠ 0
      unfold failE; split <;> omega
theorem tailO_eq {l8 l9 l10 : List UInt8} {fl2 e9 e10 : Int} {b2 : ByteArray} {f : ByteArray → Tc} (h9 : numR 4 l8 0 = (fl2, l9, e9)) (h10 : opqR 400 l9 e9 = (b2, l10, e10)) :
    tailO l8 0 f = if e10 ≠ 0 ∨ fl2 ≠ 0 ∨ b2.toList.isEmpty = false ∨ l10.length % 4 ≠ 0 then .bad 7 3 0 else f ⟨l10.toArray⟩ := by
  have q9 := numR_err2 (l := l8) (e := 0)
  rw [h9] at q9
  dsimp only at q9
  unfold tailO
  simp only [h9]
  rcases opq400 (by omega) h10 with ⟨rfl, hb, h0⟩ | ⟨hb, k1, k2⟩
  · rw [h0]
    dsimp only
    rw [if_neg (by simp [wellOk])]
    by_cases cf : fl2 ≠ 0
    · rw [if_pos cf, if_pos (.inr (.inl cf))]
    · rw [if_neg cf]
      by_cases cl : l10.length % 4 ≠ 0
      · rw [if_pos cl, if_pos (.inr (.inr (.inr cl)))]
      · rw [if_neg cl, if_neg (by rw [hb]; simp; omega), fix_all _ (by omega)]
  · rw [well_e k2, if_pos (by simpa using k1), if_pos (by rcases hb with h | h; exact .inl h; exact .inr (.inr (.inl h)))]
end Go.Proofs.Ytkbjimbnbocfpaa
