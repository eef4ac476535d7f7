/-
  The document's Fixed and Opaque of any text that may come in. Its condition: the text is no longer than 2^47 - 4096 bytes.
-/
import Derived.Test.YtkbjimbnbocfpaaRef
namespace Go.Proofs.Ytkbjimbnbocfpaa
open Go.RowKit
set_option maxHeartbeats 1000000 in
theorem refFixed_wide (s : ByteArray) (w : World) (hs : s.size ≤ 140737488351232) :
    Calls Try.prog 48 #[.string s] w fun e w' => e = .returned (.string ⟨(fixedOf s).toArray⟩) ∧ Below w.heap.size w w' := by
  obtain ⟨i0, hi, hz0, hz1, hz2⟩ := info_parts Try.info5
  have hp := pad_lt s.size
  have hcv := run_bytes_of_string (P := Try.prog) w 9 61 5 s Try.underlying9 Try.underlying61 Try.underlying5
  have H0 := Lib.hid (Own2.made w s (by unfold maxLen; omega))
  have HB0 := Lib.hid (((Below.refl w.heap.size w).drew).alloc (Nat.le_refl _) (.cells (bytesRow s (grownCap w s.size 0 5)) 5 ((bytesRow s (grownCap w s.size 0 5)).size, (bytesRow s (grownCap w s.size 0 5)).size + 1)))
  go_enter Try.func48, Try.ntmps48
  go_wp2
  clear hcv
  go_loopw [3] (fun v wr => ∃ (k g : Nat), k ≤ pad s.size ∧ Own2 wr g v (s.data.toList ++ List.replicate k 0) ∧ w.heap.size ≤ g ∧ Below w.heap.size w wr) (fun v _ => 4 - (lenV v - s.size))
  case atStart => exact ⟨0, w.heap.size, Nat.zero_le _, by rw [List.replicate_zero, List.append_nil]; exact H0.out, Nat.le_refl _, HB0.out⟩
  case round =>
    obtain ⟨k, g, hk, hO, hg, hB⟩ := hrel
    clear H0 HB0
    have HB := Lib.hid hB
    clear hB
    obtain ⟨L, hL⟩ : ∃ L, L = s.data.toList ++ List.replicate k 0 := ⟨_, rfl⟩
    rw [← hL] at hO
    have hll : L.length = s.size + k := by
      have : s.data.size = s.size := rfl
      rw [hL]; simp [this]
    have HL := Lib.hid hL
    clear hL
    have hsh : ∃ cap, u3 = .slice (some ⟨g, 0, none⟩) L.length cap := by
      obtain ⟨cap, cur, fr, e, _⟩ := hO
      exact ⟨cap, e⟩
    obtain ⟨cap, rfl⟩ := hsh
    by_cases hlt : k < pad s.size
    · have h4 : ((L.length : Int) % 4 != 0) = true := by
        have := pad_least hlt
        rw [bne_iff_ne]; omega
      have hsz := HB.out.size
      have hOa : Own2 (wr.alloc (.cells #[.int .u8 0] 5)) g (.slice (some ⟨g, 0, none⟩) L.length cap) L := hO.kept ((World.grownBy_alloc wr _ none).block g (by
        obtain ⟨_, cur, fr, _, e, _⟩ := hO
        exact (Array.getElem?_eq_some_iff.1 e).1) (by simp))
      have HLL := Lib.hid hll
      have hlb : L.length + 1 ≤ 140737488355328 := by omega
      clear hll hO
      go_wp2_with (at_builtin; refine wpList_append2 _ rfl (.tmp 10) (.tmp 11) 61 rfl i0 Try.underlying61 hi hz0 hz1 hz2 g _ L rfl hOa 0 wr.heap.size (heap_alloc_new wr _) rfl hlb ?_; intro v2 w2 g2 hO2 hgrow hat)
      go_roundw
      case rel =>
        refine ⟨k + 1, g2, by omega, ?_, ?_, ?_⟩
        · rw [List.replicate_succ', ← List.append_assoc, ← HL.out]; exact hO2
        · rcases hat with e | e
          · omega
          · simp at e; omega
        · exact (HB.out.alloc hsz _).grown hgrow (by simp; omega) (fun j hj => by simp at hj; omega)
      case measure =>
        obtain ⟨_, _, _, e, _⟩ := hO2
        have hl3 := HLL.out
        rw [e]
        simp [lenV]
        omega
    · have hk' : k = pad s.size := by omega
      subst hk'
      have h4 : ((L.length : Int) % 4 != 0) = false := by
        have := pad_four s.size
        rw [bne_eq_false_iff_eq]; omega
      have hcv2 := hO.string (P := Try.prog) 61 9 Try.underlying61 Try.underlying5 Try.underlying9
      clear hll hO
      go_wp2
      go_ret
      exact ⟨ret_str (by rw [HL.out]; rfl), HB.out⟩

set_option maxHeartbeats 400000 in
theorem refOpaque_wide (s : ByteArray) (w : World) (hs : s.size ≤ 140737488351232) :
    Calls Try.prog 28 #[.string s] w fun e w' => e = .returned (.string ⟨(opaqueOf s).toArray⟩) ∧ Below w.heap.size w w' := by
  have hp := pad_lt s.size
  have hfl := fixedOf_length s
  go_enter Try.func28, Try.ntmps28
  go_wp2_with fail
  refine (refUint_any _ _).mono ?_
  rintro e w1 ⟨rfl, hB1⟩
  have HB1 := Lib.hid hB1
  clear hB1
  go_wp2_with fail
  refine (refFixed_wide s _ hs).mono ?_
  rintro e w2 ⟨rfl, hB2⟩
  have HB2 := Lib.hid (HB1.out.trans (hB2.mono HB1.out.size))
  have HF := Lib.hid (show opaqueOf s = numBytes s.size 4 ++ fixedOf s from rfl)
  have hA : (numBytes (s.size : Int) 4).length ≤ 4 := by rw [numBytes_length]; omega
  have hF : (fixedOf s).length ≤ 140737488351300 := by omega
  clear hB2 HB1 hfl
  generalize numBytes (s.size : Int) 4 = A at *
  generalize fixedOf s = F at *
  go_wp2
  go_ret
  exact ⟨ret_str (by rw [cat_arr, HF.out]), HB2.out⟩
end Go.Proofs.Ytkbjimbnbocfpaa
