/-
  What a thing's kind is, and the bytes that it is put as. No condition.
-/
import Derived.Test.YtjkkneeomjfieaaOpen
import Derived.Test.YtjkkneeomjfieaaItems
namespace Go.Proofs.Ytjkkneeomjfieaa
open Go.RowKit

def kd (k : Int) : Int := (k.tmod 5 + 5).tmod 5
theorem kd_cases (k : Int) : kd k = 0 ∨ kd k = 1 ∨ kd k = 2 ∨ kd k = 3 ∨ kd k = 4 := by
  have h1 := Int.tmod_lt_of_pos k (show (0 : Int) < 5 by decide)
  have h2 : -5 < k.tmod 5 := by
    have := Int.lt_tmod_of_pos k (show (0 : Int) < 5 by decide); omega
  unfold kd
  rw [Int.tmod_eq_emod_of_nonneg (a := k.tmod 5 + 5) (by omega)]
  omega
theorem kd_emod (k : Int) : (k.tmod 5 + 5) % 5 = kd k := by
  have h2 : -5 < k.tmod 5 := by
    have := Int.lt_tmod_of_pos k (show (0 : Int) < 5 by decide); omega
  unfold kd
  rw [Int.tmod_eq_emod_of_nonneg (a := k.tmod 5 + 5) (by omega)]

set_option maxHeartbeats 400000 in
theorem kind_any (k : Int) (w : World) : Calls Try.prog 10 #[.int .i64 k] w fun e w' => e = .returned (.int .i64 (kd k)) ∧ w = w' := by
  have h1 := Int.tmod_lt_of_pos k (show (0 : Int) < 5 by decide)
  have h2 : -5 < k.tmod 5 := by
    have := Int.lt_tmod_of_pos k (show (0 : Int) < 5 by decide); omega
  go_enter Try.func10, Try.ntmps10
  go_wp2
  go_ret
  exact ⟨ret_int (kd_emod k), rfl⟩

def even (n : Int) : Bool := n.tmod 2 == 0
def encIt (x : It) : List UInt8 :=
  if kd x.kind = 0 then numBytes x.n 4 else if kd x.kind = 1 then numBytes x.n 8 else if kd x.kind = 2 then numBytes (if even x.n then 1 else 0) 4 else if kd x.kind = 3 then opaqueOf x.text else fixedOf x.text
def encAll (L : List It) : List UInt8 := L.flatMap encIt


theorem encAll_take {L : List It} {k : Nat} (h : k < L.length) : encAll (L.take (k + 1)) = encAll (L.take k) ++ encIt L[k] := by
  rw [List.take_succ_eq_append_getElem h]; simp only [encAll, List.flatMap_append, List.flatMap_cons, List.flatMap_nil, List.append_nil]
theorem encIt_length (x : It) : (encIt x).length ≤ x.text.size + 8 := by
  have := pad_lt x.text.size
  unfold encIt
  repeat' split
  all_goals simp [numBytes_length, opaqueOf, fixedOf_length]
  all_goals omega
theorem encAll_length : ∀ L : List It, (encAll L).length ≤ 2 * bulkL L
  | [] => by simp [encAll, bulkL]
  | x :: L => by
    have h1 := encIt_length x
    have h2 := encAll_length L
    simp only [encAll, bulkL, List.flatMap_cons, List.length_append, List.map_cons, List.sum_cons] at h2 ⊢
    omega
theorem bulkL_take (L : List It) (k : Nat) : bulkL (L.take k) ≤ bulkL L := by
  have h : bulkL L = bulkL (L.take k) + bulkL (L.drop k) := by
    conv => lhs; rw [← List.take_append_drop k L]
    simp only [bulkL, List.map_append, List.sum_append]
  omega
theorem bulkL_at {L : List It} {k : Nat} (h : k < L.length) : (encAll (L.take k)).length + L[k].text.size + 8 ≤ 2 * bulkL L := by
  have h1 := encAll_length (L.take k)
  have h2 : bulkL (L.take (k + 1)) = bulkL (L.take k) + (L[k].text.size + 4) := by
    rw [List.take_succ_eq_append_getElem h]; simp only [bulkL, List.map_append, List.sum_append, List.map_cons, List.map_nil, List.sum_cons, List.sum_nil]; omega
  have h3 := bulkL_take L (k + 1)
  omega
theorem length_bulk (L : List It) : L.length ≤ bulkL L := by
  induction L with
  | nil => simp
  | cons x L ih => simp only [bulkL, List.map_cons, List.sum_cons, List.length_cons] at ih ⊢; omega
end Go.Proofs.Ytjkkneeomjfieaa
