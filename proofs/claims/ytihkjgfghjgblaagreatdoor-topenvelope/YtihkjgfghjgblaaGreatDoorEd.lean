/-
  What Encode laid out is taken by Decode as it was, plain. Its condition: bytes that aren't too many.
-/
import Derived.Test.YtihkjgfghjgblaaGreatDoorEn
import Derived.Test.YtihkjgfghjgblaaGreatDoorRl
namespace Go.Proofs.YtihkjgfghjgblaaGreatDoor
open Go.RowKit Sch
theorem enc_dec {t : List UInt8} {N : List Int} {T : List ByteArray} {b : List UInt8} (h : encO t N T = .ok b) : decO t ⟨b.toArray⟩ = .ok (N, T) ∧ b.length ≤ 65536 := by
  unfold encO at h
  split at h
  · cases h
  · rename_i r hr
    split at h
    · cases h
    · rename_i b' hl
      split at h
      · cases h
      · rename_i hb
        simp only [Except.ok.injEq] at h
        subst h
        refine ⟨?_, by omega⟩
        unfold decO
        rw [hr]
        dsimp only
        have hs : (⟨b'.toArray⟩ : ByteArray).size = b'.length := by show b'.toArray.size = _; simp
        rw [if_neg (by rw [hs]; omega)]
        unfold laidO at hl
        split at hl
        · cases hl
        · rename_i y N' T' hly
          split at hl
          · rename_i hNT
            obtain ⟨rfl, rfl⟩ := hNT
            simp only [Except.ok.injEq] at hl
            subst hl
            obtain ⟨n, t', e1, e2, e3⟩ := back_ly r none true (wf_form hr).1 N T y [] [] hly
            rw [List.append_nil] at e1 e2
            subst e1 e2
            unfold takenO
            have e4 := e3 []
            rw [List.append_nil] at e4
            rw [e4]
            dsimp only
            rw [if_pos rfl]
          · cases hl
end Go.Proofs.YtihkjgfghjgblaaGreatDoor
