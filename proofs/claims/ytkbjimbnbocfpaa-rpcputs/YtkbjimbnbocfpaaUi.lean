/-
  Lists of numbers: are they all from 0 to 2^32 - 1, and how they are put; what stands behind what was put. Their conditions: as said.
-/
import Derived.Test.YtkbjimbnbocfpaaPut
namespace Go.Proofs.Ytkbjimbnbocfpaa
open Go.RowKit

/-- The numbers L lie at ao. -/
def IntsAt (w : World) (ao : Option Addr) (L : List Int) : Prop := ∀ i (_ : i < L.length), ∃ g off, ao = some ⟨g, off, none⟩ ∧ g < w.heap.size ∧ w.cell? ⟨g, off + i, none⟩ = some (.int .i64 L[i])
def isU (n : Int) : Bool := decide (0 ≤ n ∧ n ≤ 4294967295)
def areU (L : List Int) : Bool := L.all isU
def putU (L : List Int) : List UInt8 := L.flatMap fun n => numBytes n 4
theorem putU_length : ∀ L : List Int, (putU L).length = 4 * L.length
  | [] => rfl
  | x :: r => by
    have := putU_length r
    unfold putU at this ⊢
    simp [List.flatMap_cons, numBytes_length, this]; omega
theorem putU_snoc (L : List Int) (n : Int) : putU (L ++ [n]) = putU L ++ numBytes n 4 := by simp [putU]

set_option maxHeartbeats 400000 in
theorem areU_any (L : List Int) (ao : Option Addr) (cap : Nat) (w : World) (hI : IntsAt w ao L) (hl : L.length ≤ 9223372036854775807) :
    Calls Try.prog 44 #[.slice ao L.length cap] w fun e w' => e = .returned (.bool (areU L)) ∧ w = w' := by
  have HI := Lib.hid hI
  clear hI
  go_enter Try.func44, Try.ntmps44
  go_wp2
  go_loop [7] (fun i => ∃ k : Nat, k ≤ L.length ∧ i = .int .i64 k ∧ areU (L.take k) = true) (fun i => L.length - (intOf i).toNat)
  case atStart => exact ⟨0, Nat.zero_le _, rfl, rfl⟩
  case round =>
    obtain ⟨k, hk, rfl, hA⟩ := hrel
    have HA := Lib.hid hA
    clear hA
    by_cases hlt : k < L.length
    · obtain ⟨g, off, rfl, hg, hc⟩ := HI.out k hlt
      have HT : Hid (L.take (k + 1) = L.take k ++ [L[k]]) := Lib.hid (by rw [List.take_succ_eq_append_getElem hlt])
      have HM : Hid (L[k] ∈ L) := Lib.hid (List.getElem_mem hlt)
      generalize L[k] = n at *
      by_cases h0 : n < 0
      · go_wp2
        go_ret
        refine ⟨?_, rfl⟩
        have : areU L = false := by
          unfold areU
          rw [List.all_eq_false]
          exact ⟨n, HM.out, by simp [isU]; omega⟩
        rw [this]; rfl
      · by_cases h1 : 4294967295 < n
        · go_wp2
          go_ret
          refine ⟨?_, rfl⟩
          have : areU L = false := by
            unfold areU
            rw [List.all_eq_false]
            exact ⟨n, HM.out, by simp [isU]; omega⟩
          rw [this]; rfl
        · go_wp2
          go_round
          case rel =>
            refine ⟨k + 1, by omega, by go_num, ?_⟩
            have h := HA.out
            unfold areU at h ⊢
            rw [HT.out, List.all_append, h]
            simp [isU]; omega
          case measure => simp [intOf]; omega
    · obtain rfl : k = L.length := by omega
      rw [List.take_length] at HA
      go_wp2
      go_ret
      exact ⟨by rw [HA.out]; rfl, rfl⟩

theorem IntsAt.kept {w w' : World} {ao : Option Addr} {L : List Int} {p : Nat} {v v' : Value} (h : IntsAt w ao L) (hC : Chg p v v' w w') (hg : ∀ g off, ao = some ⟨g, off, none⟩ → g ≠ p ∧ some g ≠ v.ownBlock) : IntsAt w' ao L := by
  intro i hi
  obtain ⟨g, off, e1, e2, e3⟩ := h i hi
  obtain ⟨n1, n2⟩ := hg g off e1
  refine ⟨g, off, e1, Nat.lt_of_lt_of_le e2 hC.size, ?_⟩
  rw [World.cell?_of_block (a := ⟨g, off + i, none⟩) (hC.block g e2 n1 n2)]; exact e3

set_option maxRecDepth 100000 in
set_option maxHeartbeats 1000000 in
theorem putU_any (p : Nat) (v : Value) (l : List UInt8) (L : List Int) (ao : Option Addr) (cap : Nat) (w : World) (hW : Wr w p v l) (hI : IntsAt w ao L) (hg : ∀ g off, ao = some ⟨g, off, none⟩ → g ≠ p ∧ some g ≠ v.ownBlock) (hb : l.length + 4 * L.length ≤ 140737488355328) :
    Calls Try.prog 21 #[.pointer (some ⟨p, 0, none⟩), .slice ao L.length cap] w fun e w' => e = .returned (.tuple #[]) ∧ WrTo w p v (l ++ putU L) w' := by
  have HI := Lib.hid hI
  have HW := Lib.hid hW
  have HG := Lib.hid hg
  clear hI hW hg
  go_enter Try.func21, Try.ntmps21
  go_wp2
  go_loopw [8] (fun i wr => ∃ k : Nat, k ≤ L.length ∧ i = .int .i64 k ∧ WrTo w p v (l ++ putU (L.take k)) wr) (fun i _ => L.length - (intOf i).toNat)
  case atStart => exact ⟨0, Nat.zero_le _, rfl, v, by simpa [putU] using HW.out, Chg.refl _ _ _⟩
  case round =>
    obtain ⟨k, hk, rfl, v1, hW1, hC1⟩ := hrel
    have HW1 := Lib.hid hW1
    have HC1 := Lib.hid hC1
    clear hW1 hC1
    by_cases hlt : k < L.length
    · obtain ⟨g, off, rfl, hg, hc⟩ := (HI.out.kept HC1.out HG.out) k hlt
      have HT : Hid (putU (L.take (k + 1)) = putU (L.take k) ++ numBytes L[k] 4) := Lib.hid (by rw [List.take_succ_eq_append_getElem hlt, putU_snoc])
      have hpl : (putU (L.take k)).length = 4 * k := by rw [putU_length, List.length_take]; omega
      have HPL := Lib.hid hpl
      clear hpl
      generalize L[k] = n at *
      go_wp2_with fail
      refine (uint_any p v1 _ n wr HW1.out (by rw [List.length_append, HPL.out]; omega)).mono ?_
      rintro e w2 ⟨rfl, v2, hW2, hC2⟩
      have HW2 := Lib.hid hW2
      have HC2 := Lib.hid (HC1.out.trans hC2)
      clear hW2 hC2 hc hg
      go_wp2
      go_roundw
      case rel => exact ⟨k + 1, by omega, by go_num, v2, by rw [HT.out, ← List.append_assoc]; exact HW2.out, HC2.out⟩
      case measure => simp [intOf]; omega
    · obtain rfl : k = L.length := by omega
      rw [List.take_length] at HW1
      go_wp2
      go_end0
      exact ⟨rfl, v1, HW1.out, HC1.out⟩

/-- What was put, and the rest behind it. -/
def restC (l : List UInt8) (s : ByteArray) : Int := if s.size % 4 ≠ 0 ∨ 65536 < l.length + s.size then 2 else 0
def restS (l : List UInt8) (s : ByteArray) : ByteArray := if s.size % 4 ≠ 0 ∨ 65536 < l.length + s.size then ⟨#[]⟩ else ⟨(l ++ s.data.toList).toArray⟩
set_option maxHeartbeats 1000000 in
theorem rest_any (p : Nat) (v : Value) (l : List UInt8) (s : ByteArray) (w : World) (hW : Wr w p v l) (hb : l.length ≤ 65536) (hs : s.size ≤ 9223372036854700000) :
    Calls Try.prog 25 #[.pointer (some ⟨p, 0, none⟩), .string s] w fun e w' => e = .returned (.tuple #[.string (restS l s), .int .i64 (restC l s)]) ∧ w = w' := by
  have HW := Lib.hid hW
  clear hW
  obtain ⟨h, hh⟩ : ∃ h : ByteArray, h = ⟨l.toArray⟩ := ⟨_, rfl⟩
  have hsz : h.size = l.length := by rw [hh]; rfl
  have HH := Lib.hid hh
  have HSZ := Lib.hid hsz
  have hz : h.size ≤ 65536 := by omega
  clear hsz hh
  by_cases h1 : s.size % 4 ≠ 0
  · have hc : restC l s = 2 := if_pos (.inl h1)
    have hS : restS l s = ⟨#[]⟩ := if_pos (.inl h1)
    rw [hc, hS]
    have hm : ((s.size : Int) % 4 != 0) = true := by rw [bne_iff_ne]; omega
    clear hc hS h1
    go_enter Try.func25, Try.ntmps25
    go_wp2_with fail
    refine (bytes_any p v l w HW.out).mono ?_
    rintro e w' ⟨rfl, rfl⟩
    rw [← HH.out]
    go_wp2
    go_ret2
    exact ⟨rfl, rfl⟩
  · have hm : ((s.size : Int) % 4 != 0) = false := by rw [bne_eq_false_iff_eq]; omega
    by_cases h2 : 65536 < l.length + s.size
    · have hc : restC l s = 2 := if_pos (.inr h2)
      have hS : restS l s = ⟨#[]⟩ := if_pos (.inr h2)
      rw [hc, hS]
      have h3 : 65536 < (h.size : Int) + (s.size : Int) := by have := HSZ.out; omega
      clear hc hS h1
      go_enter Try.func25, Try.ntmps25
      go_wp2_with fail
      refine (bytes_any p v l w HW.out).mono ?_
      rintro e w' ⟨rfl, rfl⟩
      rw [← HH.out]
      go_wp2
      go_ret2
      exact ⟨rfl, rfl⟩
    · have hno : ¬ (s.size % 4 ≠ 0 ∨ 65536 < l.length + s.size) := by omega
      have hc : restC l s = 0 := if_neg hno
      have hS : restS l s = h ++ s := by
        unfold restS
        rw [if_neg hno, HH.out]
        apply ByteArray.ext
        rw [ByteArray.data_append]
        apply Array.ext'
        simp
      rw [hc, hS]
      have h3 : ¬ 65536 < (h.size : Int) + (s.size : Int) := by have := HSZ.out; omega
      clear hc hS h1 hno
      go_enter Try.func25, Try.ntmps25
      go_wp2_with fail
      refine (bytes_any p v l w HW.out).mono ?_
      rintro e w' ⟨rfl, rfl⟩
      rw [← HH.out]
      go_wp2
      go_ret2
      exact ⟨rfl, rfl⟩
end Go.Proofs.Ytkbjimbnbocfpaa
