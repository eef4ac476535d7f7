/-
  What refuses a call: which replies, and with which number. No condition.
-/
import Derived.Test.YtkbjimbnbocfpaaAp
namespace Go.Proofs.Ytkbjimbnbocfpaa
open Go.RowKit
theorem numBytes_be (a b c d : UInt8) : numBytes (((256 * (256 * (256 * (256 * 0 + a.toNat) + b.toNat) + c.toNat) + d.toNat : Nat)) : Int) 4 = [a, b, c, d] := by
  have ha := a.toNat_lt
  have hb := b.toNat_lt
  have hc := c.toNat_lt
  have hd := d.toNat_lt
  generalize hn : (((256 * (256 * (256 * (256 * 0 + a.toNat) + b.toNat) + c.toNat) + d.toNat : Nat)) : Int) = n
  have h0 := byteAt_toNat n 0
  have h1 := byteAt_toNat n 8
  have h2 := byteAt_toNat n 16
  have h3 := byteAt_toNat n 24
  simp only [Int.reducePow] at h0 h1 h2 h3
  rw [nb4]
  have e3 : byteAt n 24 = a := UInt8.toNat_inj.1 (by omega)
  have e2 : byteAt n 16 = b := UInt8.toNat_inj.1 (by omega)
  have e1 : byteAt n 8 = c := UInt8.toNat_inj.1 (by omega)
  have e0 : byteAt n 0 = d := UInt8.toNat_inj.1 (by omega)
  rw [e3, e2, e1, e0]
/-- A number that was taken has just its bytes. -/
theorem numR_took {l : List UInt8} {n : Int} {l' : List UInt8} (h : numR 4 l 0 = (n, l', 0)) : l = numBytes n 4 ++ l' ∧ isU n = true := by
  unfold numR at h
  split at h
  · simp [failE] at h
  · rename_i hl
    match l, hl with
    | a :: b :: c :: d :: t, _ =>
      have ha := a.toNat_lt
      have hb := b.toNat_lt
      have hc := c.toNat_lt
      have hd := d.toNat_lt
      have hbe : be (List.take 4 (a :: b :: c :: d :: t)) = 256 * (256 * (256 * (256 * 0 + a.toNat) + b.toNat) + c.toNat) + d.toNat := rfl
      rw [hbe, IntWalk.i64_in _ (by omega)] at h
      simp only [Prod.mk.injEq, and_true] at h
      obtain ⟨h1, h2⟩ := h
      refine ⟨?_, ?_⟩
      · rw [← h1, numBytes_be, ← h2]; rfl
      · unfold isU
        rw [decide_eq_true_eq]
        omega
    | [], h => simp at h
    | [_], h => simp at h
    | [_, _], h => simp at h
    | [_, _, _], h => simp at h
/-- The error of a reader once it is there stays. -/
theorem numR_dead {l : List UInt8} {e : Int} (he : e ≠ 0) : (numR 4 l e).2.2 = e := by
  unfold numR failE
  split
  · rfl
  · rfl
theorem numR_live {l : List UInt8} {e n : Int} {l' : List UInt8} (h : numR 4 l e = (n, l', 0)) : e = 0 := by
  by_cases he : e = 0
  · exact he
  · have := numR_dead (l := l) he
    rw [h] at this
    exact this.symm
def Refs (v lo hi : Int) : Prop := (v = 6 ∧ lo = 2 ∧ hi = 2) ∨ (v = 4 ∧ lo = 0 ∧ hi = 0) ∨ (v = 7 ∧ (lo = 1 ∨ lo = 3 ∨ lo = 5) ∧ hi = 0)
theorem tail_refs {l : List UInt8} {e : Int} {f : ByteArray → Tc} (hf : ∀ a, (f a).isBad = false) {v lo hi : Int} (h : tailO l e f = .bad v lo hi) : Refs v lo hi := by
  unfold tailO at h
  split at h
  · simp only [Tc.bad.injEq] at h; unfold Refs; omega
  · split at h
    · simp only [Tc.bad.injEq] at h; unfold Refs; omega
    · split at h
      · simp only [Tc.bad.injEq] at h; unfold Refs; omega
      · have := hf (fixR (opqR 0 (numR 4 l e).2.1 (numR 4 l e).2.2).2.1.length (opqR 0 (numR 4 l e).2.1 (numR 4 l e).2.2).2.1 (opqR 0 (numR 4 l e).2.1 (numR 4 l e).2.2).2.2).1
        rw [h] at this
        cases this
theorem take_refs {l : List UInt8} {v lo hi : Int} (h : takeO l = .bad v lo hi) : Refs v lo hi := by
  unfold takeO at h
  dsimp only at h
  split at h
  · simp only [Tc.bad.injEq] at h; unfold Refs; omega
  · split at h
    · simp only [Tc.bad.injEq] at h; unfold Refs; omega
    · split at h
      · simp only [Tc.bad.injEq] at h; unfold Refs; omega
      · split at h
        · simp only [Tc.bad.injEq] at h; unfold Refs; omega
        · split at h
          · split at h
            · simp only [Tc.bad.injEq] at h; unfold Refs; omega
            · exact tail_refs (fun _ => rfl) h
          · split at h
            · simp only [Tc.bad.injEq] at h; unfold Refs; omega
            · exact tail_refs (fun _ => rfl) h
theorem get_refs {s : ByteArray} {xid v lo hi : Int} (h : getO s = .ref xid v lo hi) : 8 ≤ s.size ∧ (∃ l, s.data.toList = numBytes xid 4 ++ l) ∧ isU xid = true ∧ Refs v lo hi := by
  unfold getO at h
  generalize h1 : numR 4 s.data.toList 0 = A at h
  obtain ⟨x, l1, e1⟩ := A
  dsimp only at h
  generalize h2 : numR 4 l1 e1 = A at h
  obtain ⟨kind, l2, e2⟩ := A
  dsimp only at h
  split at h
  · cases h
  · split at h
    · cases h
    · rename_i hw
      split at h
      · cases h
      · have he2 : e2 = 0 := by
          have q1 := numR_err s.data.toList 0 (.inl rfl)
          rw [h1] at q1
          have q2 := numR_err l1 e1 q1
          rw [h2] at q2
          rcases q2 with q | q
          · exact q
          · have q' : e2 = 5 := q
            subst q'; revert hw; unfold wellR endR; simp
        subst he2
        have he1 := numR_live h2
        subst he1
        obtain ⟨b1, u1⟩ := numR_took h1
        obtain ⟨b2, _⟩ := numR_took h2
        generalize ht : takeO l2 = T at h
        cases T with
        | ok => cases h
        | bad a b c =>
          simp only [Gco.ref.injEq] at h
          obtain ⟨rfl, rfl, rfl, rfl⟩ := h
          refine ⟨?_, ⟨l1, b1⟩, u1, take_refs ht⟩
          have : s.size = s.data.toList.length := by simp
          rw [this, b1, b2]
          simp only [List.length_append, numBytes_length]
          omega
theorem refs_rp {xid v lo hi : Int} (hx : isU xid = true) (h : Refs v lo hi) : (Rp.mk xid v lo hi ⟨#[]⟩).ok = true ∧ restC (Rp.mk xid v lo hi ⟨#[]⟩).head ⟨#[]⟩ = 0 := by
  refine ⟨?_, ?_⟩
  · rcases h with ⟨rfl, rfl, rfl⟩ | ⟨rfl, rfl, rfl⟩ | ⟨rfl, h, rfl⟩
    · simp only [Rp.ok, areU, List.all_cons, hx]; kernel_rfl
    · simp only [Rp.ok, areU, List.all_cons, hx]; kernel_rfl
    · rcases h with rfl | rfl | rfl
      · simp only [Rp.ok, areU, List.all_cons, hx]; kernel_rfl
      · simp only [Rp.ok, areU, List.all_cons, hx]; kernel_rfl
      · simp only [Rp.ok, areU, List.all_cons, hx]; kernel_rfl
  · have := head_le (Rp.mk xid v lo hi ⟨#[]⟩)
    unfold restC
    rw [if_neg]
    have hz : (⟨#[]⟩ : ByteArray).size = 0 := rfl
    omega
/-- What GetReply makes of a refusal, and its first four bytes. -/
theorem refs_get {s : ByteArray} {xid v lo hi : Int} (h : getO s = .ref xid v lo hi) : getR (Rp.mk xid v lo hi ⟨#[]⟩).bytes = (⟨xid, v, lo, hi, ⟨#[]⟩⟩, 0) ∧ (Rp.mk xid v lo hi ⟨#[]⟩).bytes.extract 0 4 = s.extract 0 4 ∧ 4 ≤ (Rp.mk xid v lo hi ⟨#[]⟩).bytes.size := by
  obtain ⟨h8, ⟨l, hl⟩, hx, hr⟩ := get_refs h
  obtain ⟨ho, hc⟩ := refs_rp hx hr
  have e : (Rp.mk xid v lo hi ⟨#[]⟩).bytes = restS (Rp.mk xid v lo hi ⟨#[]⟩).head ⟨#[]⟩ := by unfold Rp.bytes; rw [if_pos ho]
  obtain ⟨d1, _, _⟩ := restS_data hc rfl
  rw [e]
  have t4 : ∀ m : List UInt8, (numBytes xid 4 ++ m).take 4 = numBytes xid 4 := fun m => by rw [List.take_append, List.take_of_length_le (by rw [numBytes_length]; omega), numBytes_length]; simp
  have d2 : (restS (Rp.mk xid v lo hi ⟨#[]⟩).head ⟨#[]⟩).data.toList = numBytes xid 4 ++ (numBytes 1 4 ++ ((Rp.mk xid v lo hi ⟨#[]⟩).mid ++ ((if loB v then numBytes lo 4 else []) ++ (if hiB v then numBytes hi 4 else [])))) := by
    rw [d1]
    unfold Rp.head
    simp [putU]
  refine ⟨getR_back (Rp.mk xid v lo hi ⟨#[]⟩) ho hc, ?_, ?_⟩
  · apply ByteArray.ext
    apply Array.ext'
    rw [ByteArray.data_extract, ByteArray.data_extract, Array.toList_extract, Array.toList_extract, d2, hl]
    simp only [List.extract_eq_take_drop, List.drop_zero, Nat.sub_zero, t4]
  · have : (restS (Rp.mk xid v lo hi ⟨#[]⟩).head ⟨#[]⟩).size = (restS (Rp.mk xid v lo hi ⟨#[]⟩).head ⟨#[]⟩).data.toList.length := by simp
    rw [this, d2, List.length_append, numBytes_length]
    omega
end Go.Proofs.Ytkbjimbnbocfpaa
