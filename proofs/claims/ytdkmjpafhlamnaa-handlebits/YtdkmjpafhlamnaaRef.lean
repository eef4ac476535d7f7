/-
  What the document's own Uint, Hyper, Fixed and Opaque answer. Their condition: texts of at most 2^40 bytes.
-/
import Derived.Test.YtdkmjpafhlamnaaPut
import Derived.Deep.AppendSrc
namespace Go.Proofs.Ytdkmjpafhlamnaa
open Go.RowKit

theorem conv4 (W : World) (x0 x1 x2 x3 : Int) : (convert 35 9 (.slice (some ⟨W.heap.size, 0, none⟩) 4 4)).run Try.prog (W.alloc (.cells #[.int .u8 x0, .int .u8 x1, .int .u8 x2, .int .u8 x3] 5)) =
    .ok (.string (strOfNums [x0, x1, x2, x3])) (W.alloc (.cells #[.int .u8 x0, .int .u8 x1, .int .u8 x2, .int .u8 x3] 5)) := by
  refine run_convert_bytes_arg (P := Try.prog) _ 35 5 Try.underlying35 Try.underlying5 W.heap.size 0 4 4 [x0, x1, x2, x3] rfl ?_ 9 Try.underlying9
  intro i hi
  rw [cell_of_row _ W.heap.size (0 + i) _ _ _ (heap_alloc_new W _)]
  match i, hi with
  | 0, _ => rfl
  | 1, _ => rfl
  | 2, _ => rfl
  | 3, _ => rfl

theorem u64w (n : Int) : IntKind.u64.wrap n = n % 18446744073709551616 := rfl
theorem ubyte24 (n : Int) : (IntKind.u64.wrap ((IntKind.u64.wrap n).tdiv 16777216)).tmod 256 % 256 = n / (2 : Int) ^ 24 % 256 := by
  rw [u64w, u64w, Int.tdiv_eq_ediv_of_nonneg (by omega), Int.tmod_eq_emod_of_nonneg (by omega)]; simp only [Int.reducePow]; omega
theorem ubyte16 (n : Int) : (IntKind.u64.wrap ((IntKind.u64.wrap n).tdiv 65536)).tmod 256 % 256 = n / (2 : Int) ^ 16 % 256 := by
  rw [u64w, u64w, Int.tdiv_eq_ediv_of_nonneg (by omega), Int.tmod_eq_emod_of_nonneg (by omega)]; simp only [Int.reducePow]; omega
theorem ubyte8 (n : Int) : (IntKind.u64.wrap ((IntKind.u64.wrap n).tdiv 256)).tmod 256 % 256 = n / (2 : Int) ^ 8 % 256 := by
  rw [u64w, u64w, Int.tdiv_eq_ediv_of_nonneg (by omega), Int.tmod_eq_emod_of_nonneg (by omega)]; simp only [Int.reducePow]; omega
theorem ubyte0 (n : Int) : (IntKind.u64.wrap n).tmod 256 % 256 = n / (2 : Int) ^ 0 % 256 := by
  rw [u64w, Int.tmod_eq_emod_of_nonneg (by omega)]; simp only [Int.reducePow]; omega
theorem ubytes (n : Int) : strOfNums [(IntKind.u64.wrap ((IntKind.u64.wrap n).tdiv 16777216)).tmod 256 % 256, (IntKind.u64.wrap ((IntKind.u64.wrap n).tdiv 65536)).tmod 256 % 256, (IntKind.u64.wrap ((IntKind.u64.wrap n).tdiv 256)).tmod 256 % 256, (IntKind.u64.wrap n).tmod 256 % 256] = ⟨(numBytes n 4).toArray⟩ := by
  rw [ubyte24, ubyte16, ubyte8, ubyte0]; rfl
theorem ret_str {a b : ByteArray} (h : a = b) : Ending.returned (.string a) = .returned (.string b) := by rw [h]
theorem cat_arr (a b : List UInt8) : (({ data := a.toArray } : ByteArray) ++ { data := b.toArray }) = ⟨(a ++ b).toArray⟩ := by
  apply ByteArray.ext
  rw [ByteArray.data_append]; simp

set_option maxHeartbeats 400000 in
theorem refUint_any (n : Int) (w : World) :
    Calls Try.prog 23 #[.int .i64 n] w fun e w' => e = .returned (.string ⟨(numBytes n 4).toArray⟩) ∧ Below w.heap.size w w' := by
  have hcv := conv4 w
  go_enter Try.func23, Try.ntmps23
  go_wp2
  go_ret
  exact ⟨ret_str (ubytes n), (Below.refl _ _).alloc (Nat.le_refl _) _⟩

theorem hi_half (n : Int) : wrap64 (IntKind.u64.wrap ((IntKind.u64.wrap n).tdiv 4294967296)) = n % 18446744073709551616 / 4294967296 := by
  rw [u64w, u64w, Int.tdiv_eq_ediv_of_nonneg (by omega), IntWalk.wrap64_in _ (by omega)]; omega
theorem byteAt_congr {n m : Int} {k j : Nat} (h : n / (2 : Int) ^ k % 256 = m / (2 : Int) ^ j % 256) : byteAt n k = byteAt m j := by unfold byteAt; rw [h]
theorem halves (n : Int) : numBytes (n % 18446744073709551616 / 4294967296) 4 ++ numBytes n 4 = numBytes n 8 := by
  show [byteAt _ 24, byteAt _ 16, byteAt _ 8, byteAt _ 0] ++ [byteAt n 24, byteAt n 16, byteAt n 8, byteAt n 0] = [byteAt n 56, byteAt n 48, byteAt n 40, byteAt n 32, byteAt n 24, byteAt n 16, byteAt n 8, byteAt n 0]
  rw [byteAt_congr (m := n) (k := 24) (j := 56) (by simp only [Int.reducePow]; omega), byteAt_congr (m := n) (k := 16) (j := 48) (by simp only [Int.reducePow]; omega),
    byteAt_congr (m := n) (k := 8) (j := 40) (by simp only [Int.reducePow]; omega), byteAt_congr (n := n % 18446744073709551616 / 4294967296) (m := n) (k := 0) (j := 32) (by simp only [Int.reducePow]; omega)]
  rfl

set_option maxHeartbeats 400000 in
theorem refHyper_any (n : Int) (w : World) :
    Calls Try.prog 14 #[.int .i64 n] w fun e w' => e = .returned (.string ⟨(numBytes n 8).toArray⟩) ∧ Below w.heap.size w w' := by
  go_enter Try.func14, Try.ntmps14
  go_wp2_with fail
  rw [hi_half]
  refine (refUint_any _ _).mono ?_
  rintro e w1 ⟨rfl, hB1⟩
  have HB1 := Lib.hid hB1
  clear hB1
  go_wp2_with fail
  refine (refUint_any _ _).mono ?_
  rintro e w2 ⟨rfl, hB2⟩
  have HB2 := Lib.hid (HB1.out.trans (hB2.mono HB1.out.size))
  clear hB2 HB1
  go_wp2
  go_ret
  exact ⟨ret_str (by rw [cat_arr, halves]), HB2.out⟩

end Go.Proofs.Ytdkmjpafhlamnaa
