/-
  Plain facts on the bytes of a handle: three numbers of 64 bits behind four letters. No condition.
-/
import Derived.Test.YtdkmjpafhlamnaaMath
namespace Go.Proofs.Ytdkmjpafhlamnaa
open Go.RowKit

theorem bytes8 (a b c d e f g h : UInt8) : numBytes (IntKind.i64.wrap ((256 * (256 * (256 * (256 * (256 * (256 * (256 * (256 * 0 + a.toNat) + b.toNat) + c.toNat) + d.toNat) + e.toNat) + f.toNat) + g.toNat) + h.toNat : Nat) : Int)) 8 = [a, b, c, d, e, f, g, h] := by
  have ha := a.toNat_lt
  have hb := b.toNat_lt
  have hc := c.toNat_lt
  have hd := d.toNat_lt
  have he := e.toNat_lt
  have hf := f.toNat_lt
  have hg := g.toNat_lt
  have hh := h.toNat_lt
  generalize hn : IntKind.i64.wrap ((256 * (256 * (256 * (256 * (256 * (256 * (256 * (256 * 0 + a.toNat) + b.toNat) + c.toNat) + d.toNat) + e.toNat) + f.toNat) + g.toNat) + h.toNat : Nat) : Int) = n
  rw [IntKind.wrap_i64] at hn
  have h0 := byteAt_toNat n 0
  have h1 := byteAt_toNat n 8
  have h2 := byteAt_toNat n 16
  have h3 := byteAt_toNat n 24
  have h4 := byteAt_toNat n 32
  have h5 := byteAt_toNat n 40
  have h6 := byteAt_toNat n 48
  have h7 := byteAt_toNat n 56
  simp only [Int.reducePow] at h0 h1 h2 h3 h4 h5 h6 h7
  show [byteAt n 56, byteAt n 48, byteAt n 40, byteAt n 32, byteAt n 24, byteAt n 16, byteAt n 8, byteAt n 0] = _
  have e7 : byteAt n 56 = a := UInt8.toNat_inj.1 (by clear h0 h1 h2 h3 h4 h5 h6; omega)
  have e6 : byteAt n 48 = b := UInt8.toNat_inj.1 (by clear h0 h1 h2 h3 h4 h5 h7; omega)
  have e5 : byteAt n 40 = c := UInt8.toNat_inj.1 (by clear h0 h1 h2 h3 h4 h6 h7; omega)
  have e4 : byteAt n 32 = d := UInt8.toNat_inj.1 (by clear h0 h1 h2 h3 h5 h6 h7; omega)
  have e3 : byteAt n 24 = e := UInt8.toNat_inj.1 (by clear h0 h1 h2 h4 h5 h6 h7; omega)
  have e2 : byteAt n 16 = f := UInt8.toNat_inj.1 (by clear h0 h1 h3 h4 h5 h6 h7; omega)
  have e1 : byteAt n 8 = g := UInt8.toNat_inj.1 (by clear h0 h2 h3 h4 h5 h6 h7; omega)
  have e0 : byteAt n 0 = h := UInt8.toNat_inj.1 (by clear h1 h2 h3 h4 h5 h6 h7; omega)
  rw [e7, e6, e5, e4, e3, e2, e1, e0]
theorem numR_back8 {l : List UInt8} (h : (numR 8 l 0).2.2 = 0) : l = numBytes (numR 8 l 0).1 8 ++ (numR 8 l 0).2.1 ∧ -9223372036854775808 ≤ (numR 8 l 0).1 ∧ (numR 8 l 0).1 ≤ 9223372036854775807 := by
  unfold numR at h ⊢
  by_cases hl : l.length < 8
  · simp [if_pos hl, failE] at h
  · rw [if_neg hl]
    match l, hl with
    | a :: b :: c :: d :: e :: f :: g :: i :: t, _ =>
      have hbe : be (List.take 8 (a :: b :: c :: d :: e :: f :: g :: i :: t)) = 256 * (256 * (256 * (256 * (256 * (256 * (256 * (256 * 0 + a.toNat) + b.toNat) + c.toNat) + d.toNat) + e.toNat) + f.toNat) + g.toNat) + i.toNat := rfl
      rw [hbe]
      refine ⟨?_, ?_, ?_⟩
      · rw [bytes8]
        rfl
      · rw [IntKind.wrap_i64]; omega
      · rw [IntKind.wrap_i64]; omega
    | [], h => simp at h
    | [_], h => simp at h
    | [_, _], h => simp at h
    | [_, _, _], h => simp at h
    | [_, _, _, _], h => simp at h
    | [_, _, _, _, _], h => simp at h
    | [_, _, _, _, _, _], h => simp at h
    | [_, _, _, _, _, _, _], h => simp at h

def cora : List UInt8 := [99, 111, 114, 97]
def coraS : ByteArray := ⟨#[99, 111, 114, 97]⟩
/-- The bytes of a handle. -/
def hd (f i g : Int) : List UInt8 := cora ++ (numBytes f 8 ++ (numBytes i 8 ++ (numBytes g 8 ++ [])))
def Rng (n : Int) : Prop := -9223372036854775808 ≤ n ∧ n ≤ 9223372036854775807
theorem hd_length (f i g : Int) : (hd f i g).length = 28 := by
  unfold hd
  simp only [List.length_append, numBytes_length]
  rfl
theorem numBytes_inj {n m : Int} (hn : Rng n) (hm : Rng m) (h : numBytes n 8 = numBytes m 8) : n = m := by
  have a := numR_ok8 n hn [] 0
  have b := numR_ok8 m hm [] 0
  rw [h] at a
  rw [a] at b
  exact congrArg Prod.fst b
theorem hd_inj {f i g f' i' g' : Int} (h1 : Rng f) (h2 : Rng i) (h3 : Rng g) (k1 : Rng f') (k2 : Rng i') (k3 : Rng g') (h : hd f i g = hd f' i' g') : f = f' ∧ i = i' ∧ g = g' := by
  unfold hd at h
  have a := List.append_cancel_left h
  have b := List.append_inj a (by rw [numBytes_length, numBytes_length])
  have c := List.append_inj b.2 (by rw [numBytes_length, numBytes_length])
  have d := List.append_inj c.2 (by rw [numBytes_length, numBytes_length])
  exact ⟨numBytes_inj h1 k1 b.1, numBytes_inj h2 k2 c.1, numBytes_inj h3 k3 d.1⟩
theorem numR_err {l : List UInt8} {e : Int} (h : (numR 8 l e).2.2 = 0) : e = 0 := by
  unfold numR at h
  split at h
  · unfold failE at h
    split at h
    · assumption
    · rename_i he; exact absurd h he
  · exact h
theorem fixR4 (l : List UInt8) : fixR 4 l 0 = if l.length < 4 then (⟨#[]⟩, [], 5) else (⟨(l.take 4).toArray⟩, l.drop 4, 0) := by
  have h := fixR_nat 4 l 0
  have p : pad 4 = 0 := by decide
  rw [p] at h
  have e : ((4 : Nat) : Int) = 4 := rfl
  rw [e] at h
  rw [h]
  by_cases hl : l.length < 4
  · rw [if_pos (by omega), if_pos hl]; rfl
  · rw [if_neg (by omega), if_neg hl, if_pos (by simp)]
theorem fixR_hd (t : List UInt8) : fixR 4 (cora ++ t) 0 = (coraS, t, 0) := by
  rw [fixR4, if_neg (by simp [cora])]
  rfl
/-- Nothing else than the bytes of a handle is taken. -/
theorem no_taken {l : List UInt8} (hl : ∀ f i g, Rng f → Rng i → Rng g → l ≠ hd f i g) (F : ByteArray × List UInt8 × Int) (A B C : Int × List UInt8 × Int) (hF : F = fixR 4 l 0) (hA : A = numR 8 F.2.1 F.2.2) (hB : B = numR 8 A.2.1 A.2.2) (hC : C = numR 8 B.2.1 B.2.2)
    (hE : endR C.2.1 C.2.2 = 0) : F.1 ≠ coraS := by
  intro hf
  unfold endR at hE
  split at hE
  · rename_i hc
    split at hE
    · rename_i hn
      have hn' : C.2.1 = [] := List.length_eq_zero_iff.1 hn
      have b0 : B.2.2 = 0 := numR_err (by rw [← hC]; exact hc)
      have a0 : A.2.2 = 0 := numR_err (by rw [← hB]; exact b0)
      have f0 : F.2.2 = 0 := numR_err (by rw [← hA]; exact a0)
      rw [b0] at hC
      rw [a0] at hB
      rw [f0] at hA
      have c1 := numR_back8 (l := B.2.1) (by rw [← hC]; exact hc)
      have c2 := numR_back8 (l := A.2.1) (by rw [← hB]; exact b0)
      have c3 := numR_back8 (l := F.2.1) (by rw [← hA]; exact a0)
      rw [← hC] at c1
      rw [← hB] at c2
      rw [← hA] at c3
      refine hl A.1 B.1 C.1 c3.2 c2.2 c1.2 ?_
      unfold hd
      rw [hn'] at c1
      rw [← c1.1, ← c2.1, ← c3.1]
      rw [fixR4] at hF
      split at hF
      · rw [hF] at f0; cases f0
      · rw [hF] at hf ⊢
        have e1 : (l.take 4).toArray = cora.toArray := congrArg ByteArray.data hf
        have e2 : l.take 4 = cora := by simpa using congrArg Array.toList e1
        show l = cora ++ l.drop 4
        rw [← e2, List.take_append_drop]
    · cases hE
  · rename_i hc
    exact hc hE
/-- Eight bytes are a number's. -/
theorem eight (l : List UInt8) (h : 8 ≤ l.length) : ∃ n, Rng n ∧ numR 8 l 0 = (n, l.drop 8, 0) ∧ l = numBytes n 8 ++ l.drop 8 := by
  have e : numR 8 l 0 = (IntKind.i64.wrap (be (l.take 8)), l.drop 8, 0) := by unfold numR; rw [if_neg (by omega)]
  have b := numR_back8 (l := l) (by rw [e])
  rw [e] at b
  exact ⟨_, b.2, e, b.1⟩
theorem is_hd {l : List UInt8} (h : l.length = 28) (h4 : l.take 4 = cora) : ∃ f i g, Rng f ∧ Rng i ∧ Rng g ∧ l = hd f i g := by
  obtain ⟨f, hf, _, e1⟩ := eight (l.drop 4) (by rw [List.length_drop]; omega)
  obtain ⟨i, hi, _, e2⟩ := eight ((l.drop 4).drop 8) (by simp only [List.length_drop]; omega)
  obtain ⟨g, hg, _, e3⟩ := eight (((l.drop 4).drop 8).drop 8) (by simp only [List.length_drop]; omega)
  refine ⟨f, i, g, hf, hi, hg, ?_⟩
  unfold hd
  have e4 : (((l.drop 4).drop 8).drop 8).drop 8 = [] := List.length_eq_zero_iff.1 (by simp only [List.length_drop]; omega)
  rw [e4] at e3
  rw [← e3, ← e2, ← e1, ← h4, List.take_append_drop]
/-- What Number answers of a handle's numbers. -/
def numF (f i g : Int) : Int × Int := if f = 1 ∧ 1 ≤ i ∧ g = i then (i, 0) else (0, 10001)
end Go.Proofs.Ytdkmjpafhlamnaa
