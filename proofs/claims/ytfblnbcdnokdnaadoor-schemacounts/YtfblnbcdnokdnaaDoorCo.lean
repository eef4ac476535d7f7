/-
  What Encode answers for a list of texts by the form of a list of texts of at most so many bytes. Its condition: the number is one of 1 to 99999.
-/
import Derived.Test.YtfblnbcdnokdnaaDoorEn
namespace Go.Proofs.YtfblnbcdnokdnaaDoor
open Go.RowKit Sch
theorem decOf_cons (c : UInt8) (l : List UInt8) : decOf (c :: l) = (c.toNat - 48) * 10 ^ l.length + decOf l := by
  have h : ∀ (l : List UInt8) (a : Nat), l.foldl (fun n c => 10 * n + (c.toNat - 48)) a = a * 10 ^ l.length + l.foldl (fun n c => 10 * n + (c.toNat - 48)) 0 := by
    intro l
    induction l with
    | nil => intro a; simp
    | cons x l ih =>
      intro a
      rw [List.foldl_cons, List.foldl_cons, ih, ih (10 * 0 + _), List.length_cons, Nat.pow_succ, Nat.mul_zero, Nat.zero_add, Nat.add_mul]
      have : 10 * a * 10 ^ l.length = a * (10 ^ l.length * 10) := by rw [Nat.mul_comm 10 a, Nat.mul_assoc, Nat.mul_comm 10]
      omega
  unfold decOf
  rw [List.foldl_cons, h, Nat.mul_zero, Nat.zero_add]
/-- The digits of a number, no nought ahead. -/
structure Digs (m : Nat) (D : List UInt8) : Prop where
  ne : D ≠ []
  len : D.length ≤ 5
  all : ∀ c ∈ D, isDig c = true
  val : decOf D = m
  head : D.head? ≠ some 48
theorem num5_digs {m : Nat} {D : List UInt8} (h : Digs m D) : num5 (D ++ [41]) = some (m, [41]) := by
  have hd : digs (D ++ [41]) = D := by
    unfold digs
    have hl := h.len
    rw [List.take_append]
    rw [List.take_of_length_le hl]
    rw [List.takeWhile_append_of_pos h.all]
    have : List.takeWhile isDig (List.take (5 - D.length) [41]) = [] := by
      cases 5 - D.length with
      | zero => rfl
      | succ k => rfl
    rw [this, List.append_nil]
  unfold num5
  rw [hd, if_neg]
  · rw [h.val, List.drop_left]
  · intro hc
    rcases hc with hc | ⟨_, hc⟩
    · exact h.ne hc
    · cases hD : D with
      | nil => exact h.ne hD
      | cons c l =>
        rw [hD] at hc
        exact h.head (by rw [hD]; exact hc)
theorem form_counts {m : Nat} {D : List UInt8} (h : Digs m D) : form num5 (42 :: 40 :: 111 :: (D ++ [41])) = some (.opt 42 (.num 111 m .nil) .nil) := by
  have hn := num5_digs h
  have hl := h.len
  have e3 : ∀ f, pG num5 (f + 1) true 1 [] [41] = some (.nil, [41]) := fun f => by
    unfold pG; rfl
  have e2 : ∀ f, pG num5 (f + 2) true 1 [] (111 :: (D ++ [41])) = some (.num 111 m .nil, [41]) := fun f => by
    unfold pG
    simp only [show isOne 111 = false from rfl, show isNum 111 = true from rfl, Bool.false_eq_true, if_false, if_true, hn, e3, Option.map_some]
  have e1 : ∀ f, pG num5 (f + 3) true 0 [] (42 :: 40 :: 111 :: (D ++ [41])) = some (.opt 42 (.num 111 m .nil) .nil, []) := fun f => by
    unfold pG
    simp only [show isOne 42 = false from rfl, show isNum 42 = false from rfl, show isOpt 42 = true from rfl, Bool.false_eq_true, if_false, if_true]
    rw [if_neg (by decide), e2]
    show (if (41 : UInt8) ≠ 41 ∨ True ∧ (Row.num 111 m Row.nil).empty = true then none else Option.map (fun p => (Row.opt 42 (Row.num 111 m Row.nil) p.1, p.2)) (pG num5 (f + 2) true 0 [] [])) = _
    rw [if_neg (by simp [Row.empty])]
    unfold pG
    rfl
  unfold form
  rw [if_neg (by simp; omega)]
  simp only [List.length_cons, List.length_append, List.length_nil]
  rw [show D.length + (0 + 1) + 1 + 1 + 1 + 1 = (D.length + 2) + 3 from by omega, e1]
/-- How many bytes the list takes. -/
def szT : List ByteArray → Nat
  | [] => 4
  | s :: T => 8 + (s.size + 3) / 4 * 4 + szT T
theorem opq_len (s : ByteArray) : (Y.opaqueOf s).length = 4 + (s.size + 3) / 4 * 4 := by
  rw [Y.opaqueOf_length]
  unfold Y.pad
  omega
theorem rep_counts (m : Nat) : ∀ T : List ByteArray, (∃ s ∈ T, m < s.size) ∧ repL (ly none (.num 111 m .nil)) T.length [] T = .error 4 ∨ (∀ s ∈ T, s.size ≤ m) ∧ ∃ b, repL (ly none (.num 111 m .nil)) T.length [] T = .ok (b, [], []) ∧ b.length = szT T
  | [] => .inr ⟨by simp, _, rfl, by simp [szT, Y.numBytes_length]⟩
  | s :: T => by
    have hstep : repL (ly none (.num 111 m .nil)) (s :: T).length [] (s :: T) = preL (Y.numBytes 1 4) (andL (ly none (.num 111 m .nil) [] (s :: T)) (repL (ly none (.num 111 m .nil)) T.length)) := rfl
    have hf : ly none (.num 111 m .nil) [] (s :: T) = if s.size ≤ m then .ok (Y.opaqueOf s, [], T) else .error 4 := by
      show andL (txtL 111 m [] (s :: T)) (ly none .nil) = _
      show andL (if (111 : UInt8) = 111 then (if s.size ≤ m then .ok (Y.opaqueOf s, [], T) else .error 4) else (if s.size = m then .ok (Y.fixedOf s, [], T) else .error 4)) _ = _
      rw [if_pos rfl]
      split
      · simp [andL, ly, preL]
      · rfl
    rw [hstep, hf]
    by_cases hs : s.size ≤ m
    · rw [if_pos hs]
      rcases rep_counts m T with ⟨⟨s', h1, h2⟩, h3⟩ | ⟨h1, b, h2, h3⟩
      · exact .inl ⟨⟨s', List.mem_cons_of_mem _ h1, h2⟩, by simp [andL, h3, preL]⟩
      · refine .inr ⟨?_, Y.numBytes 1 4 ++ (Y.opaqueOf s ++ b), by simp [andL, h2, preL], ?_⟩
        · intro x hx
          rcases List.mem_cons.1 hx with rfl | hx
          · exact hs
          · exact h1 x hx
        · rw [List.length_append, List.length_append, Y.numBytes_length, opq_len, h3, szT]
          omega
    · rw [if_neg hs]
      exact .inl ⟨⟨s, by simp, by omega⟩, rfl⟩
/-- WHAT Encode ANSWERS. -/
theorem enc_counts {m : Nat} {D : List UInt8} (h : Digs m D) (T : List ByteArray) (hT : T.length ≤ 1000) : (∃ s ∈ T, m < s.size) ∧ encO (42 :: 40 :: 111 :: (D ++ [41])) [(T.length : Int)] T = .error 4 ∨ (∀ s ∈ T, s.size ≤ m) ∧ (65536 < szT T ∧ encO (42 :: 40 :: 111 :: (D ++ [41])) [(T.length : Int)] T = .error 2 ∨ szT T ≤ 65536 ∧ ∃ b, encO (42 :: 40 :: 111 :: (D ++ [41])) [(T.length : Int)] T = .ok b ∧ b.length = szT T) := by
  have hlaid : laidO (.opt 42 (.num 111 m .nil) .nil) [(T.length : Int)] T = match repL (ly none (.num 111 m .nil)) T.length [] T with | .error e => .error e | .ok (b, N', T') => if N' = [] ∧ T' = [] then .ok b else .error 4 := by
    unfold laidO
    have : ly none (.opt 42 (.num 111 m .nil) .nil) [(T.length : Int)] T = andL (repL (ly none (.num 111 m .nil)) T.length [] T) (ly none .nil) := by
      show andL (if (42 : UInt8) = 63 then _ else timesL (ly none (.num 111 m .nil)) [(T.length : Int)] T) _ = _
      rw [if_neg (by decide)]
      show andL (if (0 : Int) ≤ (T.length : Int) ∧ (T.length : Int) ≤ 9223372036854775807 then repL (ly none (.num 111 m .nil)) ((T.length : Int)).toNat [] T else .error 4) _ = _
      rw [if_pos (by omega), Int.toNat_natCast]
    rw [this]
    cases repL (ly none (.num 111 m .nil)) T.length [] T with
    | error e => rfl
    | ok y => obtain ⟨b, N', T'⟩ := y; simp [andL, ly, preL]
  unfold encO
  rw [form_counts h]
  simp only [hlaid]
  rcases rep_counts m T with ⟨h1, h2⟩ | ⟨h1, b, h2, h3⟩
  · rw [h2]; exact .inl ⟨h1, rfl⟩
  · rw [h2]
    refine .inr ⟨h1, ?_⟩
    simp only [and_self, if_true]
    by_cases hb : 65536 < szT T
    · exact .inl ⟨hb, by rw [if_pos (by omega)]⟩
    · exact .inr ⟨by omega, b, by rw [if_neg (by omega)], h3⟩
theorem dig_step (k m : Nat) (D : List UInt8) (c : UInt8) (hk : 1 ≤ k) (hm : m ≤ 99999) (hc : c.toNat = 48 + k % 10) (hv : k * 10 ^ D.length + decOf D = m) (hd : ∀ x ∈ D, isDig x = true) :
    k / 10 * 10 ^ (c :: D).length + decOf (c :: D) = m ∧ (∀ x ∈ c :: D, isDig x = true) ∧ (1 ≤ k / 10 → D.length + 1 ≤ 4) ∧ (k / 10 < 1 → D.length + 1 ≤ 5 → Digs m (c :: D)) := by
  have h1 : k / 10 * 10 ^ (c :: D).length + decOf (c :: D) = m := by
    rw [decOf_cons, hc, List.length_cons, Nat.pow_succ, show 48 + k % 10 - 48 = k % 10 from by omega, ← hv]
    have e : k = k / 10 * 10 + k % 10 := by omega
    have : k * 10 ^ D.length = k / 10 * (10 ^ D.length * 10) + k % 10 * 10 ^ D.length := by
      rw [Nat.mul_comm (10 ^ D.length) 10, ← Nat.mul_assoc, ← Nat.add_mul, ← e]
    omega
  have hdig : isDig c = true := by
    unfold isDig
    rw [Bool.and_eq_true]
    refine ⟨decide_eq_true ?_, decide_eq_true ?_⟩ <;> (rw [UInt8.le_iff_toNat_le]; rw [hc]; show _ ≤ _; have := Nat.mod_lt k (show 0 < 10 from by decide); first | (show 48 ≤ 48 + k % 10; omega) | (show 48 + k % 10 ≤ 57; omega))
  have h2 : ∀ x ∈ c :: D, isDig x = true := fun x hx => by
    rcases List.mem_cons.1 hx with rfl | hx
    · exact hdig
    · exact hd x hx
  refine ⟨h1, h2, fun hq => ?_, fun hq hl => ⟨by simp, by simpa using hl, h2, ?_, ?_⟩⟩
  · refine Nat.le_of_not_lt fun hlt => ?_
    have h3 : 1 * 10 ^ 5 ≤ k / 10 * 10 ^ (c :: D).length := Nat.mul_le_mul hq (Nat.pow_le_pow_right (by decide) (by simp; omega))
    omega
  · rw [show k / 10 = 0 from by omega, Nat.zero_mul, Nat.zero_add] at h1
    exact h1
  · intro h4
    simp only [List.head?_cons, Option.some.injEq] at h4
    rw [h4] at hc
    have : (48 : UInt8).toNat = 48 := rfl
    omega
set_option maxRecDepth 100000 in
set_option maxHeartbeats 1000000 in
theorem digits_any (m : Nat) (h0 : 1 ≤ m) (h1 : m ≤ 99999) (w : World) : Calls Tryd.prog 13 #[.int .i64 (m : Int)] w fun r w' => ∃ D, r = .returned (.string ⟨D.toArray⟩) ∧ Digs m D ∧ Below w.heap.size w w' := by
  go_enter Tryd.func13, Tryd.ntmps13
  go_wp2_with fail
  go_loopw [0, 3] (fun n o wr => ∃ k : Nat, ∃ D : List UInt8, 1 ≤ k ∧ n = .int .i64 k ∧ o = .string ⟨D.toArray⟩ ∧ k * 10 ^ D.length + decOf D = m ∧ D.length ≤ 4 ∧ (∀ c ∈ D, isDig c = true) ∧ Below w.heap.size w wr) (fun n _ _ => (intOf n).toNat)
  case atStart => exact ⟨m, [], h0, rfl, rfl, by simp [decOf], by simp, by simp, Below.refl _ _⟩
  case round =>
    obtain ⟨k, D, hk, rfl, rfl, hv, hl, hd, hb⟩ := hrel
    have HV := Lib.hid hv
    have HL := Lib.hid hl
    have HD := Lib.hid hd
    have HB := Lib.hid hb
    clear hv hl hd hb
    obtain ⟨c, hc⟩ : ∃ c : UInt8, (c.toNat : Int) = 48 + (k : Int) % 10 := ⟨UInt8.ofNat (48 + k % 10), by
      rw [UInt8.toNat_ofNat']; omega⟩
    have hcv := run_convert_bytes_back (P := Tryd.prog) (wr.alloc (.cells #[.int .u8 (48 + (k : Int) % 10)] 5)) 38 9 5 ⟨wr.heap.size, 0, none⟩ 1 [c] Tryd.underlying38 Tryd.underlying5 Tryd.underlying9 (fun j hj => by
      obtain rfl : j = 0 := by simp at hj; omega
      rw [show (⟨wr.heap.size, 0, none⟩ : Addr).add 0 = ⟨wr.heap.size, 0, none⟩ from rfl, cell_of_row _ _ _ _ _ _ (heap_alloc_new wr _)]
      simp [hc])
    simp only [List.length_cons, List.length_nil] at hcv
    have hkm : k ≤ m := by
      have hv := HV.out
      have : k * 1 ≤ k * 10 ^ D.length := Nat.mul_le_mul_left k (Nat.pow_pos (by decide))
      omega
    have hw10 : wrap64 ((k : Int) / 10) = ((k / 10 : Nat) : Int) := by unfold wrap64; omega
    have hlD : (9223372036854775807 < 1 + D.length) = False := by have := HL.out; simp; omega
    have happ : (⟨#[c]⟩ ++ ⟨D.toArray⟩ : ByteArray) = ⟨(c :: D).toArray⟩ := by
      apply ByteArray.ext
      rw [ByteArray.data_append]
      simp
    obtain ⟨hs1, hs2, hs3, hs4⟩ := dig_step k m D c hk h1 (by omega) HV.out HD.out
    have H1 := Lib.hid hs1
    have H2 := Lib.hid hs2
    have H3 := Lib.hid hs3
    have H4 := Lib.hid hs4
    have HBn := Lib.hid (HB.out.alloc HB.out.size (.cells #[.int .u8 (48 + (k : Int) % 10)] 5))
    clear hs1 hs2 hs3 hs4
    by_cases hk9 : k / 10 < 1
    · have hk9' : ((k / 10 : Nat) : Int) < 1 := by omega
      have hDg := Lib.hid (H4.out hk9 (by have := HL.out; omega))
      go_wp2
      go_ret
      exact ⟨c :: D, by rw [← happ]; rfl, hDg.out, HBn.out⟩
    · have hk9' : ¬ ((k / 10 : Nat) : Int) < 1 := by omega
      go_wp2
      exact ⟨⟨k / 10, c :: D, by omega, rfl, rfl, H1.out, by have := H3.out (by omega); simpa using this, H2.out, HBn.out⟩, by simp [intOf]; omega⟩
end Go.Proofs.YtfblnbcdnokdnaaDoor
