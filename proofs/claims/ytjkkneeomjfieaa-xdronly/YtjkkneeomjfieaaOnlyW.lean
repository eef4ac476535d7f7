/-
  XdrOnly's walk. Its condition: a text of at most 2^47 - 4096 bytes.
-/
import Derived.Test.YtjkkneeomjfieaaRdOk
import Derived.Test.YtjkkneeomjfieaaSpeaks
import Derived.Deep.DeepCutAuto
namespace Go.Proofs.Ytjkkneeomjfieaa
open Go.RowKit

theorem and_low (n : Int) : bits .and .i64 n 4294967295 = n % 4294967296 := by
  have e : (BitVec.ofInt 64 n &&& BitVec.ofInt 64 4294967295).toNat = (n % 4294967296).toNat := by
    rw [BitVec.toNat_and]
    have e3 : (BitVec.ofInt 64 4294967295).toNat = 2 ^ 32 - 1 := by decide
    rw [e3, Nat.and_two_pow_sub_one_eq_mod, BitVec.toNat_ofInt]
    omega
  unfold bits
  show IntKind.i64.wrap (((BitVec.ofInt 64 n &&& BitVec.ofInt 64 4294967295).toNat : Nat) : Int) = _
  rw [e, IntWalk.i64_in _ (by omega)]
  omega

theorem Wr.below {w w' : World} {p : Nat} {v : Value} {l : List UInt8} (h : Wr w p v l) (hb : Below w.heap.size w w') : Wr w' p v l := by
  refine ⟨(hb.block p h.lt).trans h.1, h.2.1, ?_⟩
  rcases h.2.2 with e | ⟨g, cap, cur, e1, e2, hg, r⟩
  · exact .inl e
  · exact .inr ⟨g, cap, cur, e1, e2, (hb.block g (Array.getElem?_eq_some_iff.1 hg).1).trans hg, r⟩
theorem Wr.onlyR {w w' : World} {p r : Nat} {v : Value} {l m : List UInt8} {e : Int} (h : Wr w p v l) (hr : Rd w r m e) (ho : Only r w w') : Wr w' p v l := by
  obtain ⟨u, g1, _⟩ := hr
  have hpr : p ≠ r := by intro e; subst e; rw [h.1] at g1; simp at g1
  refine ⟨(ho.block p hpr).trans h.1, h.2.1, ?_⟩
  rcases h.2.2 with e | ⟨g, cap, cur, e1, e2, hg, rr⟩
  · exact .inl e
  · refine .inr ⟨g, cap, cur, e1, e2, (ho.block g ?_).trans hg, rr⟩
    intro e; subst e; rw [g1] at hg; simp at hg

theorem arr_size (l : List UInt8) : ({ data := l.toArray } : ByteArray).size = l.length := by show l.toArray.size = _; simp
theorem only_cases (M : Nat) (s : ByteArray) : (∃ e : Int, (e == 0) = false ∧ fixR M (fixedOf s) 0 = (⟨#[]⟩, [], e)) ∨ (∃ c r, fixR M (fixedOf s) 0 = (⟨((fixedOf s).take M).toArray⟩, c :: r, 0)) ∨
    (fixR M (fixedOf s) 0 = (⟨((fixedOf s).take M).toArray⟩, [], 0) ∧ M + pad M = s.size + pad s.size) := by
  rw [fixR_nat, fixedOf_length]
  by_cases h1 : ((s.size + pad s.size : Nat) : Int) - ((pad M : Nat) : Int) < M
  · exact Or.inl ⟨5, rfl, if_pos h1⟩
  · rw [if_neg h1]
    by_cases h2 : (((fixedOf s).drop M).take (pad M)).all (· == 0) = true
    · rw [if_pos h2]
      have hl : ((fixedOf s).drop (M + pad M)).length = s.size + pad s.size - (M + pad M) := by rw [List.length_drop, fixedOf_length]
      cases h3 : (fixedOf s).drop (M + pad M) with
      | nil => rw [h3] at hl; simp at hl; exact Or.inr (Or.inr ⟨rfl, by omega⟩)
      | cons c r => exact Or.inr (Or.inl ⟨c, r, rfl⟩)
    · rw [if_neg h2]; exact Or.inl ⟨4, rfl, rfl⟩
theorem fixed_low {M : Nat} {s : ByteArray} (h : M ≤ s.size) : (fixedOf s).take M = s.data.toList.take M := by
  unfold fixedOf; rw [List.take_append_of_le_length (by rw [Array.length_toList]; exact h)]
theorem fixed_high {M : Nat} {s : ByteArray} (h : s.size ≤ M) (h2 : M ≤ s.size + pad s.size) : (fixedOf s).take M = s.data.toList ++ List.replicate (M - s.size) 0 := by
  have e0 : s.data.toList.length = s.size := by rw [Array.length_toList]; rfl
  unfold fixedOf
  rw [List.take_append, e0, List.take_of_length_le (by omega), List.take_replicate, Nat.min_eq_left (by omega)]

theorem make_zeros {i0 : TypeInfo} (hi : Try.prog.info? 5 = some i0) (hz0 : i0.zero = some (.int .u8 0)) (hz1 : i0.size = 1) (hz2 : i0.bytes = 1) (d : Nat) (hd : d ≤ 4096) (u : World) :
    (Instr.makeSlice 24 (.int .i64 (d : Int)) (.int .i64 (d : Int))).run Try.prog u = .ok (.slice (some ⟨u.heap.size, 0, none⟩) d d) (u.alloc (.cells (madeCells #[.int .u8 0] d) 5)) := by
  have h := run_make (P := Try.prog) u 24 5 i0 (.int .u8 0) Try.underlying24 hi hz0 .i64 .i64 (d : Int) (d : Int) (by omega) (Int.le_refl _) (by rw [hz2]; omega) (by omega)
  have e : ((d : Int)).toNat = d := by omega
  rw [e] at h
  simpa [hz1, Value.cells] using h
theorem conv_zeros (d : Nat) (u : World) : (convert 24 9 (.slice (some ⟨u.heap.size, 0, none⟩) d d)).run Try.prog (u.alloc (.cells (madeCells #[.int .u8 0] d) 5)) = .ok (.string ⟨(List.replicate d (0 : UInt8)).toArray⟩) (u.alloc (.cells (madeCells #[.int .u8 0] d) 5)) := by
  have h := run_convert_bytes_back (P := Try.prog) (u.alloc (.cells (madeCells #[.int .u8 0] d) 5)) 24 9 5 ⟨u.heap.size, 0, none⟩ d (List.replicate d (0 : UInt8)) Try.underlying24 Try.underlying5 Try.underlying9 (by
    intro j hj
    rw [show (⟨u.heap.size, 0, none⟩ : Addr).add j = ⟨u.heap.size, j, none⟩ from by unfold Addr.add; split <;> simp_all, cell_of_row _ u.heap.size j _ _ _ (heap_alloc_new u _)]
    simp at hj
    simp [madeCells, hj, Nat.mod_one])
  simpa using h

/-- The Bool of a number's four bytes. -/
theorem bool_only (n : Int) : boolR (numBytes n 4) 0 = (if n % 4294967296 ≤ 1 then (n % 4294967296 == 1, [], 0) else (false, [], 4)) := by
  have h := numR_ok4 n [] 0
  rw [List.append_nil] at h
  unfold boolR
  rw [h]
  by_cases h1 : n % 4294967296 ≤ 1
  · rw [if_pos h1, if_neg (by show ¬ 1 < n % 4294967296; omega)]
  · rw [if_neg h1, if_pos (by show 1 < n % 4294967296; omega)]
    rfl

set_option maxRecDepth 100000 in
set_option maxHeartbeats 4000000 in
theorem only_walk (n : Int) (s : ByteArray) (w : World) (hs : s.size ≤ 140737488351232) :
    Calls Try.prog 8 #[.int .i64 n, .string s] w fun e w' => e = .returned (.bool true) ∧ Below w.heap.size w w' := by
  have hand := and_low n
  go_enter Try.func8, Try.ntmps8
  go_wp2_with fail
  refine (speaks_any _).mono ?_
  rintro e w0 ⟨rfl, HB0⟩
  have HB1 := Lib.hid (HB0.alloc HB0.size (.cells #[.slice none 0 0] 26))
  have hW0 := Wr.new w0
  have hsz : w.heap.size ≤ w0.heap.size := HB0.size
  clear HB0
  go_wp2_with fail
  refine (uint_any _ _ _ n _ hW0 (by simp)).mono ?_
  rintro e w1 ⟨rfl, v1, hW1, hC1⟩
  have HB2 := Lib.hid (HB1.out.trans (hC1.below (B := w.heap.size) (by simp; omega) hsz (fun k hk => by cases hk)))
  have hv1 : ∀ j, v1.ownBlock = some j → w.heap.size ≤ j := by
    intro j hj
    rcases hC1.own with e | ⟨g, e, hg⟩
    · rw [hj] at e; cases e
    · rw [hj] at e; have : j = g := by simpa using e
      simp at hg; omega
  have HV1 := Lib.hid hv1
  clear hC1 HB1 hW0 hv1
  rw [List.nil_append] at hW1
  go_wp2_with fail
  refine (bytes_any _ v1 _ w1 hW1).mono ?_
  rintro e w' ⟨rfl, rfl⟩
  go_wp2_with fail
  refine (open_any _ w1 (by simp [ByteArray.size, numBytes_length, maxLen])).mono ?_
  rintro e w2 ⟨rfl, hR2, hB3, hs3⟩
  have hW2 := hW1.below hB3
  have HB3 := Lib.hid (HB2.out.trans (hB3.mono HB2.out.size))
  have hsz1 : w.heap.size ≤ w1.heap.size := HB2.out.size
  clear hB3 hs3 hW1 HB2
  generalize hp : w1.heap.size + 1 = p at *
  have hpw : w.heap.size ≤ p := by omega
  clear hp
  go_wp2_with fail
  refine (rbool_any p _ 0 w2 hR2 (by simp [numBytes_length])).mono ?_
  rintro e w3 ⟨rfl, hR3, hO3⟩
  have hW3 := hW2.onlyR hR2 hO3
  have HB4 := Lib.hid (HB3.out.trans (hO3.below hpw))
  rw [bool_only] at hR3 ⊢
  clear hO3 hW2 hR2 HB3
  obtain ⟨M, hM⟩ : ∃ M : Nat, (M : Int) = n % 4294967296 := ⟨(n % 4294967296).toNat, by omega⟩
  rw [← hM] at hand hR3 ⊢
  have hM32 : M < 4294967296 := by omega
  have HM := Lib.hid hM
  clear hM
  obtain ⟨R, hR⟩ : ∃ R : Bool × List UInt8 × Int, R = if (M : Int) ≤ 1 then ((M : Int) == 1, [], 0) else (false, [], 4) := ⟨_, rfl⟩
  rw [← hR] at hR3 ⊢
  have hE : (endR R.2.1 R.2.2 == 0) = decide ((M : Int) ≤ 1) := by
    rw [hR]
    by_cases h : (M : Int) ≤ 1
    · rw [if_pos h, decide_eq_true h]; rfl
    · rw [if_neg h, decide_eq_false h]; rfl
  have hb : R.1 = ((M : Int) == 1) := by
    rw [hR]
    by_cases h : (M : Int) ≤ 1
    · rw [if_pos h]
    · rw [if_neg h]; show false = _; rw [eq_comm, beq_eq_false_iff_ne]; omega
  obtain ⟨b3, l3, e3⟩ := R
  simp only at hb hE hR3
  subst hb
  obtain ⟨E, hEE⟩ : ∃ E, E = endR l3 e3 := ⟨_, rfl⟩
  rw [← hEE] at hE
  have HEE := Lib.hid hEE
  clear hEE hR
  go_wp2_with fail
  refine (end_any p l3 e3 w3 hR3).mono ?_
  rintro e w' ⟨rfl, rfl⟩
  rw [← HEE.out]
  go_wp2_with fail
  refine (fixed_any _ v1 _ s w3 hW3 (by rw [numBytes_length]; omega)).mono ?_
  rintro e w4 ⟨rfl, v4, hW4, hC4⟩
  have HB5 := Lib.hid (HB4.out.trans (hC4.below (B := w.heap.size) (by have := HB4.out.size; omega) hsz HV1.out))
  clear hW3 hC4 HB4 hR3 hE HEE HV1
  go_wp2_with fail
  refine (bytes_any _ v4 _ w4 hW4).mono ?_
  rintro e w' ⟨rfl, rfl⟩
  go_wp2_with fail
  have hfl := fixedOf_length s
  have hpd := pad_lt s.size
  refine (open_any _ w4 (by rw [arr_size, List.length_append, numBytes_length, hfl]; unfold maxLen; omega)).mono ?_
  rintro e w5 ⟨rfl, hR5, hB6, hs6⟩
  have HB6 := Lib.hid (HB5.out.trans (hB6.mono HB5.out.size))
  have hq5 : w.heap.size ≤ w4.heap.size + 1 := by have := HB5.out.size; omega
  replace hR5 : Rd w5 (w4.heap.size + 1) (numBytes n 4 ++ fixedOf s) 0 := by simpa using hR5
  generalize w4.heap.size + 1 = q at *
  clear hB6 hs6 HB5 hW4
  go_wp2_with fail
  refine (ropaque_any q _ 0 8589934592 w5 hR5 (by rw [List.length_append, numBytes_length, hfl]; omega)).mono ?_
  rintro e w6 ⟨rfl, hR6, hO6⟩
  have HB7 := Lib.hid (HB6.out.trans (hO6.below hq5))
  clear hO6 HB6 hR5
  have hop : opqR 8589934592 (numBytes n 4 ++ fixedOf s) 0 = fixR M (fixedOf s) 0 := by
    unfold opqR
    rw [numR_ok4, ← HM.out]
    have e1 : (if (8589934592 : Int) < 0 then (0 : Int) else 8589934592) = 8589934592 := rfl
    rw [e1, if_neg (by show ¬ (8589934592 : Int) < (M : Int); omega)]
  rw [hop] at hR6 ⊢
  clear hop HM
  rcases only_cases M s with ⟨e7, he7, h7⟩ | ⟨c, r, h7⟩ | ⟨h7, hup⟩
  · rw [h7] at hR6 ⊢
    have he8 : endR [] e7 = e7 := by unfold endR; have : e7 ≠ 0 := by simpa using he7
                                     rw [if_neg this]
    clear h7 hfl
    go_wp2_with fail
    refine (end_any q _ _ w6 hR6).mono ?_
    rintro e w' ⟨rfl, rfl⟩
    rw [he8]
    clear he8
    go_wp2
    all_goals
      go_ret
      exact ⟨rfl, HB7.out⟩
  · rw [h7] at hR6 ⊢
    obtain ⟨T, hT⟩ : ∃ T, T = (fixedOf s).take M := ⟨_, rfl⟩
    rw [← hT]
    clear h7 hfl hT
    go_wp2_with fail
    refine (end_any q _ _ w6 hR6).mono ?_
    rintro e w' ⟨rfl, rfl⟩
    rw [show endR (c :: r) 0 = 6 from rfl]
    cases T with
    | nil =>
      go_wp2
      all_goals
        go_ret
        exact ⟨rfl, HB7.out⟩
    | cons d t =>
      go_wp2_with fail
      refine (end_any q _ _ w6 hR6).mono ?_
      rintro e w' ⟨rfl, rfl⟩
      rw [show endR (c :: r) 0 = 6 from rfl]
      go_wp2
      all_goals
        go_ret
        exact ⟨rfl, HB7.out⟩
  · rw [h7] at hR6 ⊢
    clear h7 hfl
    have hup2 : ((M : Int) + 3) / 4 * 4 = ((s.size : Int) + 3) / 4 * 4 := by unfold pad at hup; omega
    have hpm := pad_lt M
    by_cases hle : M ≤ s.size
    · rw [fixed_low hle]
      have hb4 : (((M : Int) + 3) / 4 * 4 == ((s.size : Int) + 3) / 4 * 4) = true := by rw [beq_iff_eq]; exact hup2
      clear hup2 hup
      go_wp2_with fail
      refine (end_any q _ _ w6 hR6).mono ?_
      rintro e w' ⟨rfl, rfl⟩
      rw [show endR [] 0 = 0 from rfl]
      have hex : (s.extract 0 M).toList = s.data.toList.take M := by
        rw [ByteArray.toList_eq, ByteArray.data_extract, Array.toList_extract]; simp
      go_wp2
      all_goals
        go_ret
        exact ⟨rfl, HB7.out⟩
    · rw [fixed_high (by omega) (by omega)]
      obtain ⟨i0, hi, hz0, hz1, hz2⟩ := info_parts Try.info5
      obtain ⟨d, hd⟩ : ∃ d : Nat, M = s.size + d := ⟨M - s.size, by omega⟩
      have hdb : d ≤ 3 := by omega
      have hd0 : 0 < d := by omega
      have hgt : s.size < M := by omega
      have hgt2 : decide (M ≤ s.size) = false := by simp; omega
      have hb4 : (((M : Int) + 3) / 4 * 4 == ((s.size : Int) + 3) / 4 * 4) = true := by rw [beq_iff_eq]; exact hup2
      have hmu : (M : Int) ≤ ((s.size : Int) + 3) / 4 * 4 := by rw [← hup2]; omega
      have hsub : (M : Int) - (s.size : Int) = (d : Int) := by omega
      rw [show M - s.size = d from by omega]
      have hmk := make_zeros hi hz0 hz1 hz2 d (by omega)
      have hcv := conv_zeros d
      obtain ⟨Z, hZ⟩ : ∃ Z, Z = List.replicate d (0 : UInt8) := ⟨_, rfl⟩
      rw [← hZ] at hcv ⊢
      have hZl : Z.length ≤ 3 := by rw [hZ]; simpa using hdb
      have hcat : (s ++ ({ data := Z.toArray } : ByteArray)).toList = s.data.toList ++ Z := by
        rw [ByteArray.toList_eq, ByteArray.data_append]; simp
      clear hup2 hup hZ hd hle hi hz0 hz1 hz2
      go_wp2_with fail
      refine (end_any q _ _ w6 hR6).mono ?_
      rintro e w' ⟨rfl, rfl⟩
      rw [show endR [] 0 = 0 from rfl]
      go_wp2
      all_goals
        go_ret
        exact ⟨rfl, HB7.out.alloc HB7.out.size _⟩
end Go.Proofs.Ytjkkneeomjfieaa
