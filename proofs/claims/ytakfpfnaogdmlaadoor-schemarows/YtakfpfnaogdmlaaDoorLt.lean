/-
  The layer's times and its signs with rows in them, as long as these rows are told. Their condition: there is room.
-/
import Derived.Test.YtakfpfnaogdmlaaDoorLq
import Derived.Test.YtakfpfnaogdmlaaDoorTx
namespace Go.Proofs.YtakfpfnaogdmlaaDoor
open Go.RowKit Sch
/-- What the layer's row is to do. -/
def RowL (r : Row) : Prop := ∀ (B0 p : Nat) (N : List Int) (T : List ByteArray) (l : List UInt8) (v : Value) (w : World), SlR w (Lo B0) 109 4 v r → LyS B0 p N T l w → l.length + worth N T + 200000 ≤ 140737488355328 →
  Calls Tryd.prog 46 #[.pointer (some ⟨p, 0, none⟩), v] w (LyTo B0 p l w (ly none r N T))
set_option maxRecDepth 100000 in
set_option maxHeartbeats 2000000 in
theorem ltimes_of (i : Row) (HR : RowL i) (hch : ∀ N T, Cheap 88 N T (ly none i N T)) (B0 p : Nat) (N : List Int) (T : List ByteArray) (l : List UInt8) (v : Value) (w : World) (hv : SlR w (Lo B0) 109 4 v i) (h : LyS B0 p N T l w) (hK : l.length + worth N T + 200000 ≤ 140737488355328) (x : Lr) (hx : timesL (ly none i) N T = x) :
    Calls Tryd.prog 67 #[.pointer (some ⟨p, 0, none⟩), v] w (LyTo B0 p l w x) := by
  have HV := Lib.hid hv
  have HS := Lib.hid h
  have HCH := Lib.hid hch
  clear h hv hch
  cases N with
  | nil =>
    simp only [timesL] at hx
    subst hx
    go_enter Tryd.func67, Tryd.ntmps67
    go_wp2_with fail
    refine (lnum_none B0 p T l _ _ w HS.out).mono ?_
    rintro r w' ⟨rfl, rfl⟩
    go_wp2
    exact ⟨rfl, FrT.refl _ _, rfl⟩
  | cons n N =>
    simp only [timesL] at hx
    by_cases hn : 0 ≤ n ∧ n ≤ 9223372036854775807
    · rw [if_pos hn] at hx
      obtain ⟨m, rfl⟩ : ∃ m : Nat, n = m := ⟨n.toNat, by omega⟩
      rw [Int.toNat_natCast] at hx
      have HX := Lib.hid hx
      have hwn : worth ((m : Int) :: N) T = worth N T + 100100 := by simp [worth]; omega
      rw [hwn] at hK
      clear hx hwn
      go_enter Tryd.func67, Tryd.ntmps67
      go_wp2_with fail
      refine (lnum_ok B0 p m N T l _ _ w HS.out (by omega) (by omega)).mono ?_
      rintro r w1 ⟨rfl, hS1, hF1⟩
      have HS1 := Lib.hid hS1
      have HF1 := Lib.hid hF1
      clear hS1 hF1
      go_wp2
      go_loopw [6] (fun x6 wr => ∃ (j : Nat) (b1 : List UInt8) (N1 : List Int) (T1 : List ByteArray), x6 = .int .i64 j ∧ j ≤ m ∧ LyS B0 p N1 T1 (l ++ b1) wr ∧ FrT B0 w wr ∧ x = preL b1 (repL (ly none i) (m - j) N1 T1) ∧ b1.length + worth N1 T1 ≤ worth N T) (fun x6 _ => m - (intOf x6).toNat)
      case atStart => exact ⟨0, [], N, T, rfl, by omega, by simpa using HS1.out, HF1.out, by rw [preL_nil]; exact HX.out.symm, by simp⟩
      case round =>
        obtain ⟨j, b1, N1, T1, rfl, hj, hS2, hF2, hx2, hw2⟩ := hrel
        have HS2 := Lib.hid hS2
        have HF2 := Lib.hid hF2
        have HX2 := Lib.hid hx2
        clear hS2 hF2 hx2
        by_cases hlt : j < m
        · go_wp2_with fail
          refine (LyS.bool B0 p N1 T1 (l ++ b1) true wr HS2.out (by rw [List.length_append]; omega)).mono ?_
          rintro r w3 ⟨rfl, hS3, hF3⟩
          have HS3 := Lib.hid hS3
          have HF3 := Lib.hid (HF2.out.trans hF3)
          clear hS3 hF3
          go_wp2_with fail
          refine (HR B0 p N1 T1 _ v w3 (HV.out.low HF3.out.low) HS3.out (by rw [List.length_append, List.length_append, Y.numBytes_length]; omega)).mono ?_
          have hch := HCH.out N1 T1
          have hx2 := HX2.out
          rw [show m - j = (m - (j + 1)) + 1 by omega] at hx2
          simp only [repL] at hx2
          generalize ly none i N1 T1 = y at *
          rintro r w4 ⟨hF4, hr⟩
          have HF4 := Lib.hid (HF3.out.trans hF4)
          clear hF4
          cases y with
          | error e =>
            simp only at hr
            subst hr
            simp only [andL, preL] at hx2
            subst hx2
            go_wp2
            exact ⟨rfl, HF4.out, rfl⟩
          | ok y =>
            obtain ⟨b2, N2, T2⟩ := y
            obtain ⟨rfl, hS4⟩ := hr
            have hc2 := hch b2 N2 T2 rfl
            have HS4 := Lib.hid hS4
            simp only [andL, preL_preL] at hx2
            have HX3 := Lib.hid hx2
            clear hS4 hx2 hch
            go_wp2
            go_roundw
            case rel =>
              refine ⟨j + 1, b1 ++ Y.numBytes 1 4 ++ b2, N2, T2, by go_num, by omega, ?_, HF4.out, ?_, by rw [List.length_append, List.length_append, Y.numBytes_length]; omega⟩
              · have := HS4.out
                simpa [List.append_assoc] using this
              · rw [HX3.out]
                simp [List.append_assoc]
            case measure => simp [intOf]; omega
        · have hjm : j = m := by omega
          subst hjm
          have hx2 := HX2.out
          simp only [Nat.sub_self, repL, preL] at hx2
          subst hx2
          go_wp2_with fail
          refine (LyS.bool B0 p N1 T1 (l ++ b1) false wr HS2.out (by rw [List.length_append]; omega)).mono ?_
          rintro r w3 ⟨rfl, hS3, hF3⟩
          have HS3 := Lib.hid hS3
          have HF3 := Lib.hid (HF2.out.trans hF3)
          clear hS3 hF3
          go_wp2
          go_end0
          refine ⟨HF3.out, rfl, ?_⟩
          have := HS3.out
          simpa [List.append_assoc] using this
    · rw [if_neg hn] at hx
      subst hx
      go_enter Tryd.func67, Tryd.ntmps67
      go_wp2_with fail
      refine (lnum_bad B0 p n N T l _ _ w HS.out hn).mono ?_
      rintro r w' ⟨rfl, rfl⟩
      go_wp2
      exact ⟨rfl, FrT.refl _ _, rfl⟩
end Go.Proofs.YtakfpfnaogdmlaaDoor
