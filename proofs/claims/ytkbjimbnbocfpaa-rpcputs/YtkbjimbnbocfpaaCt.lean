/-
  What GetCall makes of a call that was put and is cut short. Its conditions: the call's numbers are from 0 to 2^32 - 1, and it is no longer than 65536 bytes.
-/
import Derived.Test.YtkbjimbnbocfpaaGh
import Derived.Test.YtkbjimbnbocfpaaPc
namespace Go.Proofs.Ytkbjimbnbocfpaa
open Go.RowKit

theorem nb4 (n : Int) : numBytes n 4 = [byteAt n 24, byteAt n 16, byteAt n 8, byteAt n 0] := rfl
theorem be4 (n : Int) : ((be (numBytes n 4) : Nat) : Int) = n % 4294967296 := by
  have h0 := byteAt_toNat n 0
  have h1 := byteAt_toNat n 8
  have h2 := byteAt_toNat n 16
  have h3 := byteAt_toNat n 24
  rw [nb4]
  simp only [be, List.foldl_cons, List.foldl_nil]
  simp only [Int.reducePow] at h0 h1 h2 h3
  omega
theorem numR_app (E rest : List UInt8) (e : Int) : numR E.length (E ++ rest) e = (IntKind.i64.wrap (be E), rest, e) := by
  unfold numR
  rw [if_neg (by simp), List.take_left, List.drop_left]
theorem nR (n : Int) (hn : isU n = true) (rest : List UInt8) (e : Int) : numR 4 (numBytes n 4 ++ rest) e = (n, rest, e) := by
  have h := numR_app (numBytes n 4) rest e
  rw [numBytes_length] at h
  have hn := of_decide_eq_true hn
  rw [h, be4, IntKind.wrap_i64]
  have : (n % 4294967296 + 9223372036854775808) % 18446744073709551616 - 9223372036854775808 = n := by omega
  rw [this]
theorem nShort {l : List UInt8} (h : l.length < 4) : numR 4 l 0 = (0, [], 5) := if_pos h
theorem nDead : numR 4 [] 5 = (0, [], 5) := rfl
theorem oNone (most : Int) (hm : 0 ≤ most) (l : List UInt8) : opqR most (numBytes 0 4 ++ l) 0 = (⟨#[]⟩, l, 0) := by
  unfold opqR
  rw [nR 0 (by decide)]
  simp only
  rw [if_neg (by split <;> omega)]
  unfold fixR
  rw [if_neg (by decide), if_neg (by simp [pad]), if_pos (by simp [pad])]
  simp [pad]
theorem oShort (most : Int) (hm : 0 ≤ most) {l : List UInt8} (h : l.length < 4) : opqR most l 0 = (⟨#[]⟩, [], 5) := by
  unfold opqR
  rw [nShort h]
  simp only
  rw [if_neg (by split <;> omega)]
  rfl
theorem oDead (most : Int) (hm : 0 ≤ most) : opqR most [] 5 = (⟨#[]⟩, [], 5) := by
  unfold opqR
  rw [nDead]
  simp only
  rw [if_neg (by split <;> omega)]
  rfl
theorem wellOk (l : List UInt8) : wellR l 0 = true := by
  unfold wellR endR
  by_cases h : l.length = 0 <;> simp [h]
theorem wellBad : wellR [] 5 = false := rfl
theorem take4 (n : Int) (l : List UInt8) (k : Nat) : (numBytes n 4 ++ l).take (k + 4) = numBytes n 4 ++ l.take k := by
  rw [List.take_append, List.take_of_length_le (by simp [numBytes_length]), numBytes_length, show k + 4 - 4 = k from by omega]
theorem takeS (n : Int) (l : List UInt8) (k : Nat) (h : k < 4) : ((numBytes n 4 ++ l).take k).length < 4 := by simp; omega

def Tc.isBad : Tc → Bool
  | .bad .. => true
  | .ok .. => false
theorem tail_ok (A : List UInt8) (f : ByteArray → Tc) (h : A.length % 4 = 0) : tailO (numBytes 0 4 ++ (numBytes 0 4 ++ A)) 0 f = f ⟨A.toArray⟩ := by
  unfold tailO
  rw [nR 0 (by decide)]
  simp only
  rw [oNone 0 (by decide)]
  simp only
  rw [if_neg (by simp [wellOk]), if_neg (by simp), if_neg (by omega)]
  have e : fixR (A.length : Int) A 0 = (⟨A.toArray⟩, [], 0) := by
    have hp : pad A.length = 0 := by unfold pad; omega
    rw [fixR_nat, hp, if_neg (by omega)]
    simp
  rw [e]
theorem tail_bad (A : List UInt8) (f : ByteArray → Tc) (n : Nat) (hn : n ≤ 8 + A.length) (h : n < 8 ∨ n % 4 ≠ 0) : (tailO ((numBytes 0 4 ++ (numBytes 0 4 ++ A)).take n) 0 f).isBad = true := by
  by_cases h1 : n < 4
  · unfold tailO
    rw [nShort (takeS _ _ _ h1)]
    simp only
    rw [oDead 0 (by decide), if_pos wellBad]
    rfl
  · obtain ⟨k, rfl⟩ : ∃ k, n = k + 4 := ⟨n - 4, by omega⟩
    rw [take4]
    unfold tailO
    rw [nR 0 (by decide)]
    simp only
    by_cases h2 : k < 4
    · rw [oShort 0 (by decide) (takeS _ _ _ h2), if_pos wellBad]
      rfl
    · obtain ⟨j, rfl⟩ : ∃ j, k = j + 4 := ⟨k - 4, by omega⟩
      rw [take4, oNone 0 (by decide)]
      simp only
      rw [if_neg (by simp [wellOk]), if_neg (by simp), if_pos (by rw [List.length_take]; omega)]
      rfl

/-- The words of a call behind the first two. -/
def words (prog vers proc : Int) (l : List UInt8) : List UInt8 := numBytes 2 4 ++ (numBytes prog 4 ++ (numBytes vers 4 ++ (numBytes proc 4 ++ (numBytes 0 4 ++ (numBytes 0 4 ++ l)))))
theorem take_ok (prog vers proc : Int) (h1 : isU prog = true) (h2 : isU vers = true) (h3 : isU proc = true) (A : List UInt8) (h : A.length % 4 = 0) :
    takeO (words prog vers proc (numBytes 0 4 ++ (numBytes 0 4 ++ A))) = .ok prog vers proc false 0 ⟨#[]⟩ 0 0 [] ⟨A.toArray⟩ := by
  unfold takeO words
  simp only [nR 2 (by decide), nR prog h1, nR vers h2, nR proc h3, nR 0 (by decide), oNone 400 (by decide), tail_ok A _ h]
  rw [if_neg (by decide), if_neg (by simp [wellOk]), if_neg (by simp [wellOk]), if_neg (by decide), if_neg (by decide), if_neg (by decide +kernel)]
theorem take_bad (prog vers proc : Int) (h1 : isU prog = true) (h2 : isU vers = true) (h3 : isU proc = true) (A : List UInt8) (n : Nat) (hn : n ≤ 32 + A.length) (h : n < 32 ∨ n % 4 ≠ 0) :
    (takeO ((words prog vers proc (numBytes 0 4 ++ (numBytes 0 4 ++ A))).take n)).isBad = true := by
  unfold words
  by_cases c0 : n < 4
  · unfold takeO
    simp only [nShort (takeS _ _ _ c0)]
    rfl
  obtain ⟨n1, rfl⟩ : ∃ k, n = k + 4 := ⟨n - 4, by omega⟩
  rw [take4]
  by_cases c1 : n1 < 4
  · unfold takeO
    simp only [nR 2 (by decide), nShort (takeS _ _ _ c1), nDead]
    rfl
  obtain ⟨n2, rfl⟩ : ∃ k, n1 = k + 4 := ⟨n1 - 4, by omega⟩
  rw [take4]
  by_cases c2 : n2 < 4
  · unfold takeO
    simp only [nR 2 (by decide), nR prog h1, nShort (takeS _ _ _ c2), nDead]
    rfl
  obtain ⟨n3, rfl⟩ : ∃ k, n2 = k + 4 := ⟨n2 - 4, by omega⟩
  rw [take4]
  by_cases c3 : n3 < 4
  · unfold takeO
    simp only [nR 2 (by decide), nR prog h1, nR vers h2, nShort (takeS _ _ _ c3), nDead]
    rfl
  obtain ⟨n4, rfl⟩ : ∃ k, n3 = k + 4 := ⟨n3 - 4, by omega⟩
  rw [take4]
  by_cases c4 : n4 < 4
  · unfold takeO
    simp only [nR 2 (by decide), nR prog h1, nR vers h2, nR proc h3, nShort (takeS _ _ _ c4), oDead 400 (by decide)]
    rw [if_neg (by decide), if_neg (by simp [wellOk]), if_pos wellBad]
    rfl
  obtain ⟨n5, rfl⟩ : ∃ k, n4 = k + 4 := ⟨n4 - 4, by omega⟩
  rw [take4]
  by_cases c5 : n5 < 4
  · unfold takeO
    simp only [nR 2 (by decide), nR prog h1, nR vers h2, nR proc h3, nR 0 (by decide), oShort 400 (by decide) (takeS _ _ _ c5)]
    rw [if_neg (by decide), if_neg (by simp [wellOk]), if_pos wellBad]
    rfl
  obtain ⟨n6, rfl⟩ : ∃ k, n5 = k + 4 := ⟨n5 - 4, by omega⟩
  rw [take4]
  have ht := tail_bad A (.ok prog vers proc false 0 ⟨#[]⟩ 0 0 []) n6 (by omega) (by omega)
  unfold takeO
  simp only [nR 2 (by decide), nR prog h1, nR vers h2, nR proc h3, nR 0 (by decide), oNone 400 (by decide)]
  rw [if_neg (by decide), if_neg (by simp [wellOk]), if_neg (by simp [wellOk]), if_neg (by decide), if_neg (by decide), if_neg (by decide +kernel)]
  exact ht

def Gco.isBad : Gco → Bool
  | .err e => e != 0
  | .ref .. => true
  | .ok .. => false
theorem headP_words (c : Cl) (A : List UInt8) : c.headP ++ A = numBytes c.xid 4 ++ (numBytes 0 4 ++ words c.prog c.vers c.proc (numBytes 0 4 ++ (numBytes 0 4 ++ A))) := by
  have e : opaqueOf ⟨#[]⟩ = numBytes 0 4 := by decide +kernel
  simp [Cl.headP, putU, e, words]
theorem get_whole (c : Cl) (A : List UInt8) (hx : isU c.xid = true) (h1 : isU c.prog = true) (h2 : isU c.vers = true) (h3 : isU c.proc = true) (h : A.length % 4 = 0) (hl : 40 + A.length ≤ 65536) :
    getO ⟨(c.headP ++ A).toArray⟩ = .ok c.xid c.prog c.vers c.proc false 0 ⟨#[]⟩ 0 0 [] ⟨A.toArray⟩ := by
  have hs : (⟨(c.headP ++ A).toArray⟩ : ByteArray).size = 40 + A.length := by
    show (c.headP ++ A).toArray.size = _
    simp [headP_length]
  unfold getO
  rw [hs, headP_words]
  simp only [nR c.xid hx, nR 0 (by decide), take_ok c.prog c.vers c.proc h1 h2 h3 A h]
  rw [if_neg (by omega), if_neg (by simp [wellOk]), if_neg (by simp)]
theorem get_cut (c : Cl) (A : List UInt8) (n : Nat) (hx : isU c.xid = true) (h1 : isU c.prog = true) (h2 : isU c.vers = true) (h3 : isU c.proc = true) (hn : n ≤ 40 + A.length) (h : n < 40 ∨ n % 4 ≠ 0) (hl : 40 + A.length ≤ 65536) :
    (getO ⟨((c.headP ++ A).take n).toArray⟩).isBad = true := by
  have hs : (⟨((c.headP ++ A).take n).toArray⟩ : ByteArray).size ≤ 65536 := by
    show ((c.headP ++ A).take n).toArray.size ≤ _
    simp [headP_length]; omega
  unfold getO
  rw [if_neg (by omega), headP_words]
  by_cases c0 : n < 4
  · simp only [nShort (takeS _ _ _ c0), nDead]
    rfl
  obtain ⟨n1, rfl⟩ : ∃ k, n = k + 4 := ⟨n - 4, by omega⟩
  rw [take4]
  by_cases c1 : n1 < 4
  · simp only [nR c.xid hx, nShort (takeS _ _ _ c1)]
    rfl
  obtain ⟨n2, rfl⟩ : ∃ k, n1 = k + 4 := ⟨n1 - 4, by omega⟩
  rw [take4]
  have ht := take_bad c.prog c.vers c.proc h1 h2 h3 A n2 (by omega) (by omega)
  simp only [nR c.xid hx, nR 0 (by decide)]
  rw [if_neg (by simp [wellOk]), if_neg (by simp)]
  generalize takeO _ = T at *
  cases T with
  | bad v lo hi => rfl
  | ok => cases ht
end Go.Proofs.Ytkbjimbnbocfpaa
