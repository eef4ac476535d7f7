/-
  Put, Get, Number, Verifier and the document's. Condition: a text of at most 2^47 bytes.
-/
import Derived.Test.YtdkmjpafhlamnaaHm
import Derived.Test.YtdkmjpafhlamnaaSp
import Derived.Test.YtdkmjpafhlamnaaOpen
import Derived.Test.YtdkmjpafhlamnaaRs
namespace Go.Proofs.Ytdkmjpafhlamnaa
open Go.RowKit

theorem fixed_cora : fixedOf ⟨#[99, 111, 114, 97]⟩ = cora := by decide +kernel

def hdS (f i g : Int) : ByteArray := ⟨(hd f i g).toArray⟩
theorem Chg.old {w w' : World} {p : Nat} {v v' : Value} {B : Nat} (h : Chg p v v' w w') (hv : ∀ k, v.ownBlock = some k → B ≤ k) (hB : B ≤ w.heap.size) : ∀ k, v'.ownBlock = some k → B ≤ k := by
  intro k hk
  rcases h.own with e | ⟨g, e, hg⟩
  · rw [e] at hk; exact hv k hk
  · rw [e] at hk
    have : g = k := by simpa using hk
    omega

set_option maxHeartbeats 1000000 in
theorem put_any (f i g : Int) (w : World) :
    Calls Try.prog 8 #[.int .i64 f, .int .i64 i, .int .i64 g] w fun e w' => e = .returned (.string (hdS f i g)) ∧ Below w.heap.size w w' := by
  go_enter Try.func8, Try.ntmps8
  go_wp2_with fail
  refine (fixed_any w.heap.size (.slice none 0 0) [] ⟨#[99, 111, 114, 97]⟩ _ (Wr.new w) (by decide)).mono ?_
  rintro e w1 ⟨rfl, v1, hW1, hC1⟩
  have HB1 := Lib.hid (((Below.refl w.heap.size w).alloc (Nat.le_refl _) (.cells #[.slice none 0 0] 37)).trans (hC1.below (B := w.heap.size) (by simp) (Nat.le_refl _) (by intro k hk; simp [Value.ownBlock] at hk)))
  have HO1 := Lib.hid (hC1.old (B := w.heap.size) (by intro k hk; simp [Value.ownBlock] at hk) (by simp))
  clear hC1
  rw [List.nil_append, fixed_cora] at hW1
  go_wp2_with fail
  refine (hyper_any w.heap.size v1 _ f w1 hW1 (by simp [cora])).mono ?_
  rintro e w2 ⟨rfl, v2, hW2, hC2⟩
  have HB2 := Lib.hid (HB1.out.trans (hC2.below (B := w.heap.size) HB1.out.size (Nat.le_refl _) HO1.out))
  have HO2 := Lib.hid (hC2.old HO1.out HB1.out.size)
  clear hC2 HB1 HO1 hW1
  go_wp2_with fail
  refine (hyper_any w.heap.size v2 _ i w2 hW2 (by simp [cora, numBytes_length])).mono ?_
  rintro e w3 ⟨rfl, v3, hW3, hC3⟩
  have HB3 := Lib.hid (HB2.out.trans (hC3.below (B := w.heap.size) HB2.out.size (Nat.le_refl _) HO2.out))
  have HO3 := Lib.hid (hC3.old HO2.out HB2.out.size)
  clear hC3 HB2 HO2 hW2
  go_wp2_with fail
  refine (hyper_any w.heap.size v3 _ g w3 hW3 (by simp [cora, numBytes_length])).mono ?_
  rintro e w4 ⟨rfl, v4, hW4, hC4⟩
  have HB4 := Lib.hid (HB3.out.trans (hC4.below (B := w.heap.size) HB3.out.size (Nat.le_refl _) HO3.out))
  clear hC4 HB3 HO3 hW3
  go_wp2_with fail
  refine (bytes_any w.heap.size v4 _ w4 hW4).mono ?_
  rintro e w5 ⟨rfl, rfl⟩
  go_wp2
  go_ret
  refine ⟨?_, HB4.out⟩
  have e : hdS f i g = ⟨(cora ++ numBytes f 8 ++ numBytes i 8 ++ numBytes g 8).toArray⟩ := by
    unfold hdS hd
    rw [List.append_nil, List.append_assoc, List.append_assoc]
  rw [e]
  first | rfl | simp

set_option maxHeartbeats 1000000 in
theorem verifier_any (f : Int) (w : World) :
    Calls Try.prog 13 #[.int .i64 f] w fun e w' => e = .returned (.string ⟨(numBytes f 8).toArray⟩) ∧ Below w.heap.size w w' := by
  go_enter Try.func13, Try.ntmps13
  go_wp2_with fail
  refine (hyper_any w.heap.size (.slice none 0 0) [] f _ (Wr.new w) (by decide)).mono ?_
  rintro e w1 ⟨rfl, v1, hW1, hC1⟩
  have HB1 := Lib.hid (((Below.refl w.heap.size w).alloc (Nat.le_refl _) (.cells #[.slice none 0 0] 37)).trans (hC1.below (B := w.heap.size) (by simp) (Nat.le_refl _) (by intro k hk; simp [Value.ownBlock] at hk)))
  clear hC1
  rw [List.nil_append] at hW1
  go_wp2_with fail
  refine (bytes_any _ v1 _ w1 hW1).mono ?_
  rintro e w5 ⟨rfl, rfl⟩
  go_wp2
  go_ret
  exact ⟨rfl, HB1.out⟩
end Go.Proofs.Ytdkmjpafhlamnaa
