/-
  Errors with nothing to tell, plain: of every procedure's results the form, and what an error is laid out as and taken as. No condition.
-/
import Derived.Test.YtnfmpbcbppdkgaaDoorEn
import Derived.Test.YtnfmpbcbppdkgaaDoorRt
import Derived.Test.YtnfmpbcbppdkgaaDoorSf
namespace Go.Proofs.YtnfmpbcbppdkgaaDoor
open Go.RowKit Sch
/-- How many flags, where there is nothing else. -/
def flags : Row → Option Nat
  | .nil => some 0
  | .opt c _ r => if c = 63 then (match flags r with | some j => some (j + 1) | none => none) else none
  | _ => none
def zeroB : Nat → List UInt8
  | 0 => []
  | k + 1 => Y.numBytes 0 4 ++ zeroB k
theorem zeroB_length : ∀ k, (zeroB k).length = 4 * k
  | 0 => rfl
  | k + 1 => by
    have h4 : (Y.numBytes 0 4).length = 4 := by kernel_rfl
    rw [zeroB, List.length_append, zeroB_length k, h4]
    omega
theorem ly_flags : ∀ (r : Row) (k : Nat), flags r = some k → ∀ n, ly none r (List.replicate n 0) [] = if n < k then .error 4 else .ok (zeroB k, List.replicate (n - k) 0, [])
  | .nil, k, h, n => by
    simp only [flags, Option.some.injEq] at h
    subst h
    simp [ly, zeroB]
  | .opt c i r, k, h, n => by
    unfold flags at h
    split at h
    · rename_i hc
      split at h
      · rename_i j hr
        simp only [Option.some.injEq] at h
        subst h
        rw [ly, if_pos hc]
        unfold maybeL
        cases n with
        | zero =>
          rw [if_pos (by omega)]
          rfl
        | succ n =>
          rw [List.replicate_succ]
          have e1 : numL 0 1 4 ((0 : Int) :: List.replicate n 0) [] = .ok (Y.numBytes 0 4, List.replicate n 0, []) := by
            unfold numL; dsimp only; rw [if_pos (by decide)]
          rw [e1]
          simp only [andL]
          rw [if_neg (by simp)]
          simp only [preL]
          rw [ly_flags r j hr n]
          by_cases hn : n < j
          · rw [if_pos hn, if_pos (by omega)]
          · rw [if_neg hn, if_neg (by omega), show n + 1 - (j + 1) = n - j by omega, List.append_nil]
            rfl
      · cases h
    · cases h
  | .one _ _, k, h, n => by simp [flags] at h
  | .num _ _ _, k, h, n => by simp [flags] at h
  | .ch _ _, k, h, n => by simp [flags] at h
  | .arm _ _ _, k, h, n => by simp [flags] at h
theorem bool_nought (l : List UInt8) : X.boolR (Y.numBytes 0 4 ++ l) 0 = (false, l, 0) := by
  have e : Y.numBytes 0 4 = [0, 0, 0, 0] := by kernel_rfl
  have h : X.numR 4 ([0, 0, 0, 0] ++ l) 0 = (0, l, 0) := by
    unfold X.numR
    rw [if_neg (by simp)]
    rfl
  rw [e]
  unfold X.boolR
  rw [h]
  rfl
theorem tk_flags : ∀ (r : Row) (k : Nat), flags r = some k → tk none r (zeroB k) = .ok (List.replicate k 0, [], [])
  | .nil, k, h => by
    simp only [flags, Option.some.injEq] at h
    subst h
    rfl
  | .opt c i r, k, h => by
    unfold flags at h
    split at h
    · rename_i hc
      split at h
      · rename_i j hr
        simp only [Option.some.injEq] at h
        subst h
        rw [tk, if_pos hc]
        unfold maybeT boolN ofN
        rw [zeroB, bool_nought]
        dsimp only
        rw [if_pos rfl]
        simp only [andT, Bool.false_eq_true, if_false, pre]
        rw [tk_flags r j hr]
        rfl
      · cases h
    · cases h
  | .one _ _, k, h => by simp [flags] at h
  | .num _ _ _, k, h => by simp [flags] at h
  | .ch _ _, k, h => by simp [flags] at h
  | .arm _ _ _, k, h => by simp [flags] at h
theorem num_put {n : Int} (h : 0 ≤ n ∧ n < 4294967296) (l : List UInt8) : X.numR 4 (Y.numBytes n 4 ++ l) 0 = (n, l, 0) := by
  show X.numR 4 ([Y.byteAt n 24, Y.byteAt n 16, Y.byteAt n 8, Y.byteAt n 0] ++ l) 0 = (n, l, 0)
  unfold X.numR
  rw [if_neg (by simp)]
  have hbe : X.be (List.take 4 ([Y.byteAt n 24, Y.byteAt n 16, Y.byteAt n 8, Y.byteAt n 0] ++ l)) = 256 * (256 * (256 * (256 * 0 + (Y.byteAt n 24).toNat) + (Y.byteAt n 16).toNat) + (Y.byteAt n 8).toNat) + (Y.byteAt n 0).toNat := rfl
  rw [hbe]
  have h0 := Y.byteAt_toNat n 0
  have h1 := Y.byteAt_toNat n 8
  have h2 := Y.byteAt_toNat n 16
  have h3 := Y.byteAt_toNat n 24
  simp only [Int.reducePow] at h0 h1 h2 h3
  have hw : IntKind.i64.wrap ((256 * (256 * (256 * (256 * 0 + (Y.byteAt n 24).toNat) + (Y.byteAt n 16).toNat) + (Y.byteAt n 8).toNat) + (Y.byteAt n 0).toNat : Nat) : Int) = n := by
    rw [IntKind.wrap_i64]
    omega
  rw [hw]
  rfl
/-- Of a form '<0:..,-:E>' where E has flags alone: how many. -/
def errF (t : List UInt8) : Option Nat :=
  match form num5 t with
  | some (.ch (.arm a _ (.arm b E .nil)) .nil) => if a = 0 ∧ b = -1 then flags E else none
  | _ => none
theorem errF_parts {t : List UInt8} {k : Nat} (h : errF t = some k) : ∃ i E, form num5 t = some (.ch (.arm 0 i (.arm (-1) E .nil)) .nil) ∧ flags E = some k := by
  unfold errF at h
  split at h
  · rename_i a i b E hf
    split at h
    · rename_i hab
      obtain ⟨rfl, rfl⟩ := hab
      exact ⟨i, E, hf, h⟩
    · cases h
  · cases h
theorem enc_err {t : List UInt8} {k : Nat} (h : errF t = some k) (hk : k ≤ 4) {st : Int} (hs : 1 ≤ st ∧ st < 4294967296) (n : Nat) (hn : n ≤ k) :
    encO t (st :: List.replicate n 0) [] = if n < k then .error 4 else .ok (Y.numBytes st 4 ++ zeroB k) := by
  obtain ⟨i, E, hf, hE⟩ := errF_parts h
  have h4 : (Y.numBytes st 4).length = 4 := by simp [Y.numBytes, Y.numTo_length]
  unfold encO
  rw [hf]
  dsimp only
  unfold laidO
  have e1 : numL 0 4294967295 4 (st :: List.replicate n 0) [] = .ok (Y.numBytes st 4, List.replicate n 0, []) := by
    unfold numL; dsimp only; rw [if_pos (by omega)]
  have e2 : ly (some st) (.arm 0 i (.arm (-1) E .nil)) (List.replicate n 0) [] = ly none E (List.replicate n 0) [] := by
    rw [ly, if_neg (by omega), ly, if_pos (by omega)]
  have e3 : ly none (.ch (.arm 0 i (.arm (-1) E .nil)) .nil) (st :: List.replicate n 0) [] = if n < k then .error 4 else .ok (Y.numBytes st 4 ++ zeroB k, [], []) := by
    rw [ly]
    unfold armL
    rw [e1]
    simp only [andL, List.headD_cons]
    rw [e2, ly_flags E k hE n]
    by_cases hlt : n < k
    · rw [if_pos hlt, if_pos hlt]
      rfl
    · rw [if_neg hlt, if_neg hlt, show n - k = 0 by omega]
      simp [preL, ly]
  rw [e3]
  by_cases hlt : n < k
  · rw [if_pos hlt, if_pos hlt]
  · rw [if_neg hlt, if_neg hlt]
    dsimp only
    rw [if_pos ⟨rfl, rfl⟩]
    dsimp only
    rw [if_neg (by rw [List.length_append, h4, zeroB_length]; omega)]
theorem dec_err {t : List UInt8} {k : Nat} (h : errF t = some k) (hk : k ≤ 4) {st : Int} (hs : 1 ≤ st ∧ st < 4294967296) :
    decO t ⟨(Y.numBytes st 4 ++ zeroB k).toArray⟩ = .ok (st :: List.replicate k 0, []) := by
  obtain ⟨i, E, hf, hE⟩ := errF_parts h
  have h4 : (Y.numBytes st 4).length = 4 := by simp [Y.numBytes, Y.numTo_length]
  have hz : (⟨(Y.numBytes st 4 ++ zeroB k).toArray⟩ : ByteArray).size = 4 + 4 * k := by
    show (Y.numBytes st 4 ++ zeroB k).toArray.size = _
    rw [List.size_toArray, List.length_append, h4, zeroB_length]
  unfold decO
  rw [hf]
  dsimp only
  rw [if_neg (by omega)]
  unfold takenO
  have e2 : tk (some st) (.arm 0 i (.arm (-1) E .nil)) (zeroB k) = .ok (List.replicate k 0, [], []) := by
    rw [tk, if_neg (by omega), tk, if_pos (by omega)]
    exact tk_flags E k hE
  have e3 : tk none (.ch (.arm 0 i (.arm (-1) E .nil)) .nil) (Y.numBytes st 4 ++ zeroB k) = .ok (st :: List.replicate k 0, [], []) := by
    rw [tk]
    unfold armT ofN
    rw [num_put ⟨by omega, hs.2⟩]
    dsimp only
    rw [if_pos rfl]
    simp only [andT]
    rw [e2]
    simp [pre, tk]
  rw [e3]
  dsimp only
  rw [if_pos rfl]
set_option maxRecDepth 100000 in
theorem all_err : ((List.range 21).all fun n => (match errF (ofO 100003 ((n + 1 : Nat) : Int)).2.1 with | some k => decide (k ≤ 4) | none => false) && (ofO 100003 ((n + 1 : Nat) : Int)).2.2) = true := by kernel_rfl
theorem of_err (proc : Int) : ofO 100003 proc = ([], [], false) ∨ proc = 0 ∨ ∃ a r k, ofO 100003 proc = (a, r, true) ∧ errF r = some k ∧ k ≤ 4 := by
  by_cases h : proc < 0 ∨ 22 ≤ proc
  · left
    have hl : nfsT.length = 22 := by kernel_rfl
    unfold ofO pickO
    rw [if_pos rfl, if_pos (by rw [hl]; omega)]
  · right
    by_cases h0 : proc = 0
    · exact .inl h0
    · right
      obtain ⟨n, hn, rfl⟩ : ∃ n : Nat, n < 21 ∧ proc = ((n + 1 : Nat) : Int) := ⟨(proc - 1).toNat, by omega, by omega⟩
      have hA := List.all_eq_true.1 all_err n (List.mem_range.2 hn)
      generalize ofO 100003 ((n + 1 : Nat) : Int) = o at *
      obtain ⟨a, r, ok⟩ := o
      simp only [Bool.and_eq_true] at hA
      obtain ⟨h1, rfl⟩ := hA
      cases he : errF r with
      | none => rw [he] at h1; cases h1
      | some k =>
        rw [he] at h1
        exact ⟨a, r, k, rfl, he, by simpa using h1⟩
end Go.Proofs.YtnfmpbcbppdkgaaDoor
