/-
  XdrJoined's walk. Its condition: the texts are at most 2^21 bytes.
-/
import Derived.Test.YtjkkneeomjfieaaSpeaks
namespace Go.Proofs.Ytjkkneeomjfieaa
open Go.RowKit

set_option maxHeartbeats 2000000 in
theorem join_walk (a b : ByteArray) (n : Int) (w : World) (ha : a.size ≤ 2097152) (hb : b.size ≤ 2097152) :
    Calls Try.prog 7 #[.string a, .string b, .int .i64 n] w fun e w' => e = .returned (.bool true) ∧ Below w.heap.size w w' := by
  have hpa := pad_lt a.size
  have hpb := pad_lt b.size
  go_enter Try.func7, Try.ntmps7
  go_wp2_with fail
  refine (speaks_any _).mono ?_
  rintro e w0 ⟨rfl, HB0⟩
  have HB := Lib.hid HB0
  clear HB0
  go_wp2_with fail
  have hv0 : Wr (((w0.alloc (.cells #[.slice none 0 0] 26)).alloc (.cells #[.slice none 0 0] 26)).alloc (.cells #[.slice none 0 0] 26)) w0.heap.size (.slice none 0 0) [] := ((Wr.new w0).alloc _).alloc _
  have hw0 : Wr (((w0.alloc (.cells #[.slice none 0 0] 26)).alloc (.cells #[.slice none 0 0] 26)).alloc (.cells #[.slice none 0 0] 26)) (w0.heap.size + 1) (.slice none 0 0) [] := by
    have := (Wr.new (w0.alloc (.cells #[.slice none 0 0] 26))).alloc (.cells #[.slice none 0 0] 26)
    simpa using this
  have hx0 : Wr (((w0.alloc (.cells #[.slice none 0 0] 26)).alloc (.cells #[.slice none 0 0] 26)).alloc (.cells #[.slice none 0 0] 26)) (w0.heap.size + 1 + 1) (.slice none 0 0) [] := by
    have := Wr.new ((w0.alloc (.cells #[.slice none 0 0] 26)).alloc (.cells #[.slice none 0 0] 26))
    simpa using this
  have HB1 : Hid (Below w.heap.size w (((w0.alloc (.cells #[.slice none 0 0] 26)).alloc (.cells #[.slice none 0 0] 26)).alloc (.cells #[.slice none 0 0] 26))) := by
    have h0 := HB.out.size
    exact ((HB.out.alloc h0 _).alloc (by simp; omega) _).alloc (by simp; omega) _
  have hsz : w.heap.size ≤ w0.heap.size := HB.out.size
  clear HB
  generalize (((w0.alloc (.cells #[.slice none 0 0] 26)).alloc (.cells #[.slice none 0 0] 26)).alloc (.cells #[.slice none 0 0] 26)) = W at hv0 hw0 hx0 HB1 ⊢
  generalize w0.heap.size = P0 at *
  -- the first writer
  refine (opaque_any P0 (.slice none 0 0) [] a W hv0 (by simp; omega)).mono ?_
  rintro e W1 ⟨rfl, v1, hv1, hC1⟩
  have HC1 := Lib.hid hC1
  clear hC1
  go_wp2_with fail
  refine (hyper_any P0 v1 _ n W1 hv1 (by simp [opaqueOf_length]; omega)).mono ?_
  rintro e W2 ⟨rfl, v2, hv2, hC2⟩
  have HC2 := Lib.hid (HC1.out.trans hC2)
  have hw2 : Wr W2 (P0 + 1) (.slice none 0 0) [] := hw0.kept hv0 HC2.out (by omega) (Or.inl rfl)
  have hx2 : Wr W2 (P0 + 1 + 1) (.slice none 0 0) [] := hx0.kept hv0 HC2.out (by omega) (Or.inl rfl)
  have HB2 : Hid (Below w.heap.size w W2) := HB1.out.trans (HC2.out.below (by have := HB1.out.size; omega) (by omega) (fun k hk => by cases hk))
  clear hC2 HC1 HC2 HB1 hv1 hv0 hw0 hx0
  -- the second
  go_wp2_with fail
  refine (fixed_any (P0 + 1) (.slice none 0 0) [] b W2 hw2 (by simp; omega)).mono ?_
  rintro e W3 ⟨rfl, u1, hu1, hC1⟩
  have HC1 := Lib.hid hC1
  clear hC1
  go_wp2_with fail
  refine (uint_any (P0 + 1) u1 _ n W3 hu1 (by simp [fixedOf_length]; omega)).mono ?_
  rintro e W4 ⟨rfl, u2, hu2, hC2⟩
  have HC2 := Lib.hid (HC1.out.trans hC2)
  have hv4 := hv2.kept hw2 HC2.out (by omega) (by cases h : v2.ownBlock with | none => exact Or.inl rfl | some k => exact Or.inr (by simp [Value.ownBlock]))
  have hx4 : Wr W4 (P0 + 1 + 1) (.slice none 0 0) [] := hx2.kept hw2 HC2.out (by omega) (Or.inl rfl)
  have HB4 : Hid (Below w.heap.size w W4) := HB2.out.trans (HC2.out.below (by have := HB2.out.size; omega) (by omega) (fun k hk => by cases hk))
  clear hC2 HC1 HC2 HB2 hu1 hv2 hw2 hx2
  -- the third
  go_wp2_with fail
  refine (opaque_any (P0 + 1 + 1) (.slice none 0 0) [] a W4 hx4 (by simp; omega)).mono ?_
  rintro e W5 ⟨rfl, x1, hx5, hC1⟩
  have HC1 := Lib.hid hC1
  clear hC1
  go_wp2_with fail
  refine (hyper_any (P0 + 1 + 1) x1 _ n W5 hx5 (by simp [opaqueOf_length]; omega)).mono ?_
  rintro e W6 ⟨rfl, x2, hx6, hC2⟩
  have HC2 := Lib.hid (HC1.out.trans hC2)
  clear HC1 hC2
  go_wp2_with fail
  refine (fixed_any (P0 + 1 + 1) x2 _ b W6 hx6 (by simp [opaqueOf_length, numBytes_length]; omega)).mono ?_
  rintro e W7 ⟨rfl, x3, hx7, hC3⟩
  have HC3 := Lib.hid (HC2.out.trans hC3)
  clear HC2 hC3
  go_wp2_with fail
  refine (uint_any (P0 + 1 + 1) x3 _ n W7 hx7 (by simp [opaqueOf_length, numBytes_length, fixedOf_length]; omega)).mono ?_
  rintro e W8 ⟨rfl, x4, hx8, hC4⟩
  have HC4 := Lib.hid (HC3.out.trans hC4)
  clear HC3 hC4
  have hv8 := hv4.kept hx4 HC4.out (by omega) (by cases h : v2.ownBlock with | none => exact Or.inl rfl | some k => exact Or.inr (by simp [Value.ownBlock]))
  have hw8 := hu2.kept hx4 HC4.out (by omega) (by cases h : u2.ownBlock with | none => exact Or.inl rfl | some k => exact Or.inr (by simp [Value.ownBlock]))
  have HB8 : Hid (Below w.heap.size w W8) := HB4.out.trans (HC4.out.below (by have := HB4.out.size; omega) (by omega) (fun k hk => by cases hk))
  clear HC4 HB4 hx5 hx6 hx7 hx4 hv4 hu2
  obtain ⟨lv, hlv⟩ : ∃ lv, lv = [] ++ opaqueOf a ++ numBytes n 8 := ⟨_, rfl⟩
  obtain ⟨lw, hlw⟩ : ∃ lw, lw = [] ++ fixedOf b ++ numBytes n 4 := ⟨_, rfl⟩
  rw [← hlv] at hv8
  rw [← hlw] at hw8
  have e8 : [] ++ opaqueOf a ++ numBytes n 8 ++ fixedOf b ++ numBytes n 4 = lv ++ lw := by rw [hlv, hlw]; simp
  rw [e8] at hx8
  have h4v : lv.length % 4 = 0 := by rw [hlv]; have := fixedOf_four a; simp [opaqueOf, numBytes_length]; omega
  have h4w : lw.length % 4 = 0 := by rw [hlw]; have := fixedOf_four b; simp [numBytes_length]; omega
  have hlv2 : lv.length ≤ 4194304 := by rw [hlv]; simp [opaqueOf_length, numBytes_length]; omega
  have hlw2 : lw.length ≤ 4194304 := by rw [hlw]; simp [fixedOf_length, numBytes_length]; omega
  clear hlv hlw e8
  have hcat : (({ data := lv.toArray } : ByteArray) ++ { data := lw.toArray }).toList = lv ++ lw := cat_list lv lw
  have hm1 : ((lv.length : Int) % 4 == 0) = true := by rw [beq_iff_eq]; omega
  have hm2 : ((lw.length : Int) % 4 == 0) = true := by rw [beq_iff_eq]; omega
  go_wp2_with (go_at_call 20; refine (bytes_any _ _ _ _ (by assumption)).mono ?_; rintro e w' ⟨rfl, rfl⟩)
  all_goals
    go_ret
    refine ⟨?_, HB8.out⟩
    first | rfl | (simp [hm2])
end Go.Proofs.Ytjkkneeomjfieaa
