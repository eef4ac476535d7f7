/-
  What was put is taken as it was; cut short, it is told: the plain reckoning, without a walk. Conditions: numbers of 64 bits, texts below 2^32 bytes.
-/
import Derived.Test.YtdkmjpafhlamnaaOpen
namespace Go.Proofs.Ytdkmjpafhlamnaa
open Go.RowKit

theorem numBytes4 (n : Int) : numBytes n 4 = [byteAt n 24, byteAt n 16, byteAt n 8, byteAt n 0] := rfl
theorem numBytes8 (n : Int) : numBytes n 8 = [byteAt n 56, byteAt n 48, byteAt n 40, byteAt n 32, byteAt n 24, byteAt n 16, byteAt n 8, byteAt n 0] := rfl
theorem be4 (n : Int) : ((be (numBytes n 4) : Nat) : Int) = n % 4294967296 := by
  have h0 := byteAt_toNat n 0
  have h1 := byteAt_toNat n 8
  have h2 := byteAt_toNat n 16
  have h3 := byteAt_toNat n 24
  rw [numBytes4]
  simp only [be, List.foldl_cons, List.foldl_nil]
  simp only [Int.reducePow] at h0 h1 h2 h3
  omega
theorem be8 (n : Int) : ((be (numBytes n 8) : Nat) : Int) = n % 18446744073709551616 := by
  have h0 := byteAt_toNat n 0
  have h1 := byteAt_toNat n 8
  have h2 := byteAt_toNat n 16
  have h3 := byteAt_toNat n 24
  have h4 := byteAt_toNat n 32
  have h5 := byteAt_toNat n 40
  have h6 := byteAt_toNat n 48
  have h7 := byteAt_toNat n 56
  rw [numBytes8]
  simp only [be, List.foldl_cons, List.foldl_nil]
  simp only [Int.reducePow] at h0 h1 h2 h3 h4 h5 h6 h7
  omega

theorem numR_short {size : Nat} {l : List UInt8} (e : Int) (h : l.length < size) : numR size l e = (0, [], failE e 5) := if_pos h
theorem numR_app (E rest : List UInt8) (e : Int) : numR E.length (E ++ rest) e = (IntKind.i64.wrap (be E), rest, e) := by
  unfold numR
  rw [if_neg (by simp), List.take_left, List.drop_left]
theorem numR_ok4 (n : Int) (rest : List UInt8) (e : Int) : numR 4 (numBytes n 4 ++ rest) e = (n % 4294967296, rest, e) := by
  have h := numR_app (numBytes n 4) rest e
  rw [numBytes_length] at h
  rw [h, be4, IntKind.wrap_i64]
  have : (n % 4294967296 + 9223372036854775808) % 18446744073709551616 - 9223372036854775808 = n % 4294967296 := by omega
  rw [this]
theorem numR_ok8 (n : Int) (hn : -9223372036854775808 ≤ n ∧ n ≤ 9223372036854775807) (rest : List UInt8) (e : Int) : numR 8 (numBytes n 8 ++ rest) e = (n, rest, e) := by
  have h := numR_app (numBytes n 8) rest e
  rw [numBytes_length] at h
  rw [h, be8, IntKind.wrap_i64]
  have : (n % 18446744073709551616 + 9223372036854775808) % 18446744073709551616 - 9223372036854775808 = n := by omega
  rw [this]
theorem boolR_ok (b : Bool) (rest : List UInt8) (e : Int) : boolR (numBytes (if b then 1 else 0) 4 ++ rest) e = (b, rest, e) := by
  unfold boolR
  rw [numR_ok4]
  cases b <;> simp
theorem boolR_short {l : List UInt8} (e : Int) (h : l.length < 4) : boolR l e = (false, [], failE e 5) := by
  unfold boolR
  rw [numR_short e h]
  simp
theorem arr_toList (s : ByteArray) : (⟨s.data.toList.toArray⟩ : ByteArray) = s := by cases s; simp
theorem fixR_ok (s : ByteArray) (rest : List UInt8) (e : Int) : fixR s.size (fixedOf s ++ rest) e = (s, rest, e) := by
  have e0 : s.data.toList.length = s.size := by rw [Array.length_toList]; rfl
  rw [fixR_nat, if_neg, if_pos]
  · have h1 : (fixedOf s ++ rest).take s.size = s.data.toList := by
      unfold fixedOf; rw [List.append_assoc, ← e0, List.take_left]
    have h2 : (fixedOf s ++ rest).drop (s.size + pad s.size) = rest := by
      rw [← fixedOf_length, List.drop_left]
    rw [h1, h2, arr_toList]
  · have h1 : (fixedOf s ++ rest).drop s.size = List.replicate (pad s.size) 0 ++ rest := by
      unfold fixedOf; rw [List.append_assoc, ← e0, List.drop_left, e0]
    have h2 : (List.replicate (pad s.size) (0 : UInt8) ++ rest).take (pad s.size) = List.replicate (pad s.size) 0 := by
      simp
    rw [h1, h2]
    simp
  · rw [List.length_append, fixedOf_length]; omega
theorem fixR_short {m : Nat} {l : List UInt8} (e : Int) (h : l.length < m + pad m) : fixR m l e = (⟨#[]⟩, [], failE e 5) := by
  rw [fixR_nat, if_pos (by omega)]
end Go.Proofs.Ytdkmjpafhlamnaa
