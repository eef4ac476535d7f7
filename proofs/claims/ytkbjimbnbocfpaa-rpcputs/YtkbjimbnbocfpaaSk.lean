/-
  speaks. No condition.
-/
import Derived.Test.YtkbjimbnbocfpaaGh
import Derived.Test.YtkbjimbnbocfpaaPc
namespace Go.Proofs.Ytkbjimbnbocfpaa
open Go.RowKit
def sk : ByteArray := ⟨#[0,0,0,1, 0,0,0,0, 0,0,0,2, 0,1,134,163, 0,0,0,3, 0,0,0,0, 0,0,0,0, 0,0,0,0, 0,0,0,0, 0,0,0,0]⟩
theorem sk_get : getO sk = .ok 1 100003 3 0 false 0 ⟨#[]⟩ 0 0 [] ⟨#[]⟩ := by kernel_rfl
abbrev skC : Cl := ⟨1, 100003, 3, 0, false, 0, ⟨#[]⟩, 0, 0, [], ⟨#[]⟩⟩
theorem sk_ok : skC.ok = true := by kernel_rfl
theorem sk_put : restS skC.headP skC.args = sk := by kernel_rfl
theorem sk_code : restC skC.headP skC.args = 0 := by kernel_rfl
theorem sk_size : sk.size = 40 := by kernel_rfl
theorem sk_putCall (w : World) : Calls Try.prog 11 #[.agg #[.int .i64 1, .int .i64 100003, .int .i64 3, .int .i64 0, .bool false, .int .i64 0, .string ⟨#[]⟩, .int .i64 0, .int .i64 0, .slice none 0 0, .string ⟨#[]⟩]] w
    fun e w' => e = .returned (.tuple #[.string sk, .int .i64 0]) ∧ Below w.heap.size w w' := by
  have h := putCall_plain skC none 0 w rfl (by show (#[] : Array UInt8).size ≤ _; simp)
  rw [if_pos sk_ok, if_pos sk_ok, sk_put, sk_code] at h
  exact h
theorem sk_getCall (w : World) : Calls Try.prog 14 #[.string sk] w fun r w' => ∃ vo va vc, r = .returned (.tuple #[.agg #[.int .i64 1, .int .i64 100003, .int .i64 3, .int .i64 0, .bool false, .int .i64 0, .string ⟨#[]⟩, .int .i64 0, .int .i64 0, .slice vo va vc, .string ⟨#[]⟩], .string ⟨#[]⟩, .int .i64 0]) ∧ Below w.heap.size w w' := by
  have h := getCall_any sk w
  rw [sk_get] at h
  refine h.mono ?_
  rintro r w' ⟨vg, rfl, ho, hb⟩
  obtain ⟨vo, va, vc, rfl⟩ := owned_slice ho
  exact ⟨vo, va, vc, rfl, hb⟩
set_option maxRecDepth 100000 in
set_option maxHeartbeats 600000 in
theorem speaks_any (w : World) : Calls Try.prog 9 #[] w fun r w' => r = .returned (.bool true) ∧ Below w.heap.size w w' := by
  have hz := sk_size
  go_enter Try.func9, Try.ntmps9
  go_wp2_with fail
  refine (sk_putCall _).mono ?_
  rintro r w1 ⟨rfl, hB1⟩
  have HB1 := Lib.hid hB1
  clear hB1
  go_wp2_with fail
  refine (sk_getCall _).mono ?_
  rintro r w2 ⟨vo, va, vc, rfl, hB2⟩
  have HB2 := Lib.hid hB2
  clear hB2
  go_wp2
  go_ret
  have b12 : Below w.heap.size w w2 := HB1.out.trans ⟨HB2.out.os, HB2.out.tape, HB2.out.output, HB2.out.size, fun k hk => HB2.out.block k (Nat.lt_of_lt_of_le hk HB1.out.size)⟩
  exact ⟨rfl, b12.alloc b12.size _⟩
end Go.Proofs.Ytkbjimbnbocfpaa
