/-
  What was put is taken as it was; cut short, it is told: the plain reckoning, without a walk. Conditions: numbers of 64 bits, texts below 2^32 bytes.
-/
import Derived.Test.YtjkkneeomjfieaaKind
namespace Go.Proofs.Ytjkkneeomjfieaa
open Go.RowKit

theorem numBytes4 (n : Int) : numBytes n 4 = [byteAt n 24, byteAt n 16, byteAt n 8, byteAt n 0] := rfl
theorem numBytes8 (n : Int) : numBytes n 8 = [byteAt n 56, byteAt n 48, byteAt n 40, byteAt n 32, byteAt n 24, byteAt n 16, byteAt n 8, byteAt n 0] := rfl
theorem be4 (n : Int) : ((be (numBytes n 4) : Nat) : Int) = n % 4294967296 := by
  have h0 := byteAt_toNat n 0
  have h1 := byteAt_toNat n 8
  have h2 := byteAt_toNat n 16
  have h3 := byteAt_toNat n 24
  rw [numBytes4]
  simp only [be, List.foldl_cons, List.foldl_nil]
  simp only [Int.reducePow] at h0 h1 h2 h3
  omega
theorem be8 (n : Int) : ((be (numBytes n 8) : Nat) : Int) = n % 18446744073709551616 := by
  have h0 := byteAt_toNat n 0
  have h1 := byteAt_toNat n 8
  have h2 := byteAt_toNat n 16
  have h3 := byteAt_toNat n 24
  have h4 := byteAt_toNat n 32
  have h5 := byteAt_toNat n 40
  have h6 := byteAt_toNat n 48
  have h7 := byteAt_toNat n 56
  rw [numBytes8]
  simp only [be, List.foldl_cons, List.foldl_nil]
  simp only [Int.reducePow] at h0 h1 h2 h3 h4 h5 h6 h7
  omega

theorem numR_short {size : Nat} {l : List UInt8} (e : Int) (h : l.length < size) : numR size l e = (0, [], failE e 5) := if_pos h
theorem numR_app (E rest : List UInt8) (e : Int) : numR E.length (E ++ rest) e = (IntKind.i64.wrap (be E), rest, e) := by
  unfold numR
  rw [if_neg (by simp), List.take_left, List.drop_left]
theorem numR_ok4 (n : Int) (rest : List UInt8) (e : Int) : numR 4 (numBytes n 4 ++ rest) e = (n % 4294967296, rest, e) := by
  have h := numR_app (numBytes n 4) rest e
  rw [numBytes_length] at h
  rw [h, be4, IntKind.wrap_i64]
  have : (n % 4294967296 + 9223372036854775808) % 18446744073709551616 - 9223372036854775808 = n % 4294967296 := by omega
  rw [this]
theorem numR_ok8 (n : Int) (hn : -9223372036854775808 ≤ n ∧ n ≤ 9223372036854775807) (rest : List UInt8) (e : Int) : numR 8 (numBytes n 8 ++ rest) e = (n, rest, e) := by
  have h := numR_app (numBytes n 8) rest e
  rw [numBytes_length] at h
  rw [h, be8, IntKind.wrap_i64]
  have : (n % 18446744073709551616 + 9223372036854775808) % 18446744073709551616 - 9223372036854775808 = n := by omega
  rw [this]
theorem boolR_ok (b : Bool) (rest : List UInt8) (e : Int) : boolR (numBytes (if b then 1 else 0) 4 ++ rest) e = (b, rest, e) := by
  unfold boolR
  rw [numR_ok4]
  cases b <;> simp
theorem boolR_short {l : List UInt8} (e : Int) (h : l.length < 4) : boolR l e = (false, [], failE e 5) := by
  unfold boolR
  rw [numR_short e h]
  simp
theorem arr_toList (s : ByteArray) : (⟨s.data.toList.toArray⟩ : ByteArray) = s := by cases s; simp
theorem fixR_ok (s : ByteArray) (rest : List UInt8) (e : Int) : fixR s.size (fixedOf s ++ rest) e = (s, rest, e) := by
  have e0 : s.data.toList.length = s.size := by rw [Array.length_toList]; rfl
  rw [fixR_nat, if_neg, if_pos]
  · have h1 : (fixedOf s ++ rest).take s.size = s.data.toList := by
      unfold fixedOf; rw [List.append_assoc, ← e0, List.take_left]
    have h2 : (fixedOf s ++ rest).drop (s.size + pad s.size) = rest := by
      rw [← fixedOf_length, List.drop_left]
    rw [h1, h2, arr_toList]
  · have h1 : (fixedOf s ++ rest).drop s.size = List.replicate (pad s.size) 0 ++ rest := by
      unfold fixedOf; rw [List.append_assoc, ← e0, List.drop_left, e0]
    have h2 : (List.replicate (pad s.size) (0 : UInt8) ++ rest).take (pad s.size) = List.replicate (pad s.size) 0 := by
      simp
    rw [h1, h2]
    simp
  · rw [List.length_append, fixedOf_length]; omega
theorem fixR_short {m : Nat} {l : List UInt8} (e : Int) (h : l.length < m + pad m) : fixR m l e = (⟨#[]⟩, [], failE e 5) := by
  rw [fixR_nat, if_pos (by omega)]
theorem opqR_ok (s : ByteArray) (hs : s.size < 4294967296) (rest : List UInt8) (e : Int) : opqR s.size (opaqueOf s ++ rest) e = (s, rest, e) := by
  have e1 : ((s.size : Int)) % 4294967296 = s.size := by omega
  unfold opqR opaqueOf
  rw [List.append_assoc, numR_ok4, e1]
  rw [if_neg (show ¬ ((s.size : Int) < 0) by omega), if_neg (by simp)]
  exact fixR_ok s rest e
theorem opqR_none (m : Nat) {l : List UInt8} (e : Int) (h : l.length < 4) : (opqR m l e).2 = ([], failE e 5) := by
  unfold opqR
  rw [numR_short e h, if_neg (show ¬ ((m : Int) < 0) by omega), if_neg (by simp)]
  show (fixR ((0 : Nat) : Int) [] (failE e 5)).2 = _
  rw [fixR_nat]
  simp [pad]
theorem opqR_short (s : ByteArray) (hs : s.size < 4294967296) {l : List UInt8} (e : Int) (h : l.length < s.size + pad s.size) : (opqR s.size (numBytes s.size 4 ++ l) e).2 = ([], failE e 5) := by
  have e1 : ((s.size : Int)) % 4294967296 = s.size := by omega
  unfold opqR
  rw [numR_ok4, e1, if_neg (show ¬ ((s.size : Int) < 0) by omega), if_neg (by simp), fixR_short e h]

/-- What is left, and the error, behind a thing that was taken. -/
def stIt (x : It) (l : List UInt8) (e : Int) : List UInt8 × Int :=
  if kd x.kind = 0 then (numR 4 l e).2 else if kd x.kind = 1 then (numR 8 l e).2 else if kd x.kind = 2 then (boolR l e).2 else if kd x.kind = 3 then (opqR x.text.size l e).2 else (fixR x.text.size l e).2

def Good (x : It) : Prop := (-9223372036854775808 ≤ x.n ∧ x.n ≤ 9223372036854775807) ∧ x.text.size < 4294967296

theorem st_ok {x : It} (hx : Good x) (rest : List UInt8) (e : Int) : stIt x (encIt x ++ rest) e = (rest, e) := by
  rcases kd_cases x.kind with h | h | h | h | h
  · simp [stIt, encIt, h, numR_ok4]
  · simp [stIt, encIt, h, numR_ok8 _ hx.1]
  · simp [stIt, encIt, h, boolR_ok]
  · simp [stIt, encIt, h, opqR_ok _ hx.2]
  · simp [stIt, encIt, h, fixR_ok]
theorem st_err (x : It) : stIt x [] 5 = ([], 5) := by
  rcases kd_cases x.kind with h | h | h | h | h
  · simp [stIt, h, numR, failE]
  · simp [stIt, h, numR, failE]
  · simp [stIt, h, boolR_short, failE]
  · simp [stIt, h, opqR_none, failE]
  · simp only [stIt, h]
    by_cases e : 0 < x.text.size + pad x.text.size
    · rw [fixR_short 5 (by simpa using e)]; simp [failE]
    · rw [fixR_nat]
      have e1 : x.text.size = 0 := by omega
      have e3 : pad 0 = 0 := rfl
      simp [e1, e3]
theorem st_short {x : It} (hx : Good x) {m : Nat} (h : m < (encIt x).length) : stIt x ((encIt x).take m) 0 = ([], 5) := by
  have hl : ((encIt x).take m).length = m := by simp; omega
  rcases kd_cases x.kind with k | k | k | k | k
  · have E : encIt x = numBytes x.n 4 := by simp [encIt, k]
    rw [E] at h hl ⊢
    rw [numBytes_length] at h
    have S : stIt x = fun l e => (numR 4 l e).2 := by funext l e; simp [stIt, k]
    rw [S]
    show (numR 4 _ 0).2 = _
    rw [numR_short 0 (by omega)]; rfl
  · have E : encIt x = numBytes x.n 8 := by simp [encIt, k]
    rw [E] at h hl ⊢
    rw [numBytes_length] at h
    have S : stIt x = fun l e => (numR 8 l e).2 := by funext l e; simp [stIt, k]
    rw [S]
    show (numR 8 _ 0).2 = _
    rw [numR_short 0 (by omega)]; rfl
  · have E : encIt x = numBytes (if even x.n then 1 else 0) 4 := by simp [encIt, k]
    rw [E] at h hl ⊢
    rw [numBytes_length] at h
    have S : stIt x = fun l e => (boolR l e).2 := by funext l e; simp [stIt, k]
    rw [S]
    show (boolR _ 0).2 = _
    rw [boolR_short 0 (by omega)]; rfl
  · have E : encIt x = opaqueOf x.text := by simp [encIt, k]
    rw [E] at h hl ⊢
    have S : stIt x = fun l e => (opqR x.text.size l e).2 := by funext l e; simp [stIt, k]
    rw [S]
    show (opqR _ _ 0).2 = _
    by_cases h4 : m < 4
    · rw [opqR_none _ 0 (by omega)]; rfl
    · have e1 : (opaqueOf x.text).take m = numBytes x.text.size 4 ++ (fixedOf x.text).take (m - 4) := by
        unfold opaqueOf; rw [List.take_append, numBytes_length, List.take_of_length_le (by rw [numBytes_length]; omega)]
      rw [opaqueOf_length] at h
      rw [e1, opqR_short x.text hx.2 0 (by simp [fixedOf_length]; omega)]; rfl
  · have E : encIt x = fixedOf x.text := by simp [encIt, k]
    rw [E] at h hl ⊢
    rw [fixedOf_length] at h
    have S : stIt x = fun l e => (fixR x.text.size l e).2 := by funext l e; simp [stIt, k]
    rw [S]
    show (fixR _ _ 0).2 = _
    rw [fixR_short 0 (by omega)]; rfl

def pos (L : List It) (k : Nat) : Nat := (encAll (L.take k)).length
/-- Where the reader of the cut bytes stands. -/
def TInv (L : List It) (cut k : Nat) (l : List UInt8) (e : Int) : Prop :=
  (e = 0 ∧ pos L k ≤ cut ∧ l = ((encAll L).take cut).drop (pos L k)) ∨ (e = 5 ∧ l = [] ∧ cut < (encAll L).length)

theorem encAll_drop {L : List It} {k : Nat} (h : k < L.length) : encAll (L.drop k) = encIt L[k] ++ encAll (L.drop (k + 1)) := by
  rw [List.drop_eq_getElem_cons h]; simp only [encAll, List.flatMap_cons]
theorem encAll_split (L : List It) (k : Nat) : encAll L = encAll (L.take k) ++ encAll (L.drop k) := by
  conv => lhs; rw [← List.take_append_drop k L]
  simp only [encAll, List.flatMap_append]
theorem pos_succ {L : List It} {k : Nat} (h : k < L.length) : pos L (k + 1) = pos L k + (encIt L[k]).length := by
  unfold pos; rw [encAll_take h, List.length_append]

theorem TInv.step {L : List It} {cut k : Nat} {l : List UInt8} {e : Int} (h : TInv L cut k l e) (hk : k < L.length) (hx : Good L[k]) : TInv L cut (k + 1) (stIt L[k] l e).1 (stIt L[k] l e).2 := by
  rcases h with ⟨rfl, hp, rfl⟩ | ⟨rfl, rfl, hc⟩
  · have e1 : ((encAll L).take cut).drop (pos L k) = (encIt L[k] ++ encAll (L.drop (k + 1))).take (cut - pos L k) := by
      rw [← encAll_drop hk, List.drop_take]
      conv => lhs; rw [encAll_split L k]
      unfold pos
      rw [List.drop_left]
    rw [e1]
    by_cases hlt : (encIt L[k]).length ≤ cut - pos L k
    · left
      rw [List.take_append, List.take_of_length_le hlt, st_ok hx]
      refine ⟨rfl, by rw [pos_succ hk]; omega, ?_⟩
      show (encAll (L.drop (k + 1))).take (cut - pos L k - (encIt L[k]).length) = ((encAll L).take cut).drop (pos L (k + 1))
      rw [List.drop_take, pos_succ hk, ← Nat.sub_sub]
      congr 1
      conv => rhs; rw [encAll_split L (k + 1)]
      rw [← pos_succ hk]
      unfold pos
      rw [List.drop_left]
    · right
      rw [List.take_append_of_le_length (by omega), st_short hx (by omega)]
      refine ⟨rfl, rfl, ?_⟩
      have e2 : (encAll L).length = pos L k + ((encIt L[k]).length + (encAll (L.drop (k + 1))).length) := by
        conv => lhs; rw [encAll_split L k]
        rw [encAll_drop hk]
        simp [pos]
      omega
  · right
    rw [st_err]
    exact ⟨rfl, rfl, hc⟩
theorem TInv.start (L : List It) (cut : Nat) : TInv L cut 0 ((encAll L).take cut) 0 := Or.inl ⟨rfl, by simp [pos, encAll], by simp [pos, encAll]⟩
theorem TInv.done {L : List It} {cut : Nat} {l : List UInt8} {e : Int} (h : TInv L cut L.length l e) (hc : cut ≤ (encAll L).length) : (endR l e == 5) = decide (cut < (encAll L).length) := by
  rcases h with ⟨rfl, hp, rfl⟩ | ⟨rfl, rfl, h⟩
  · have e1 : pos L L.length = (encAll L).length := by simp [pos]
    have e2 : cut = (encAll L).length := by omega
    subst e2
    simp [endR, e1]
  · simp [endR, h]
theorem encAll_four : ∀ L : List It, (encAll L).length % 4 = 0
  | [] => by simp [encAll]
  | x :: L => by
    have h1 := encAll_four L
    have h2 : (encIt x).length % 4 = 0 := by
      have := fixedOf_four x.text
      unfold encIt
      repeat' split
      all_goals (try simp [numBytes_length, opaqueOf])
      all_goals omega
    simp only [encAll, List.flatMap_cons, List.length_append] at h1 ⊢
    omega
end Go.Proofs.Ytjkkneeomjfieaa
