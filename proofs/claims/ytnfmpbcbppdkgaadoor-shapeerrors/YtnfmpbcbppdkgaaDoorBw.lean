/-
  ShapeBytes' walk: it answers true, and makes new blocks alone. No condition.
-/
import Derived.Test.YtnfmpbcbppdkgaaDoorOf
import Derived.Test.YtnfmpbcbppdkgaaDoorEn
import Derived.Test.YtnfmpbcbppdkgaaDoorRt
import Derived.Test.YtnfmpbcbppdkgaaDoorSm
import Derived.Deep.DeepCutAuto
namespace Go.Proofs.YtnfmpbcbppdkgaaDoor
open Go.RowKit Sch
theorem decO_err {t : List UInt8} {s : ByteArray} {e : Int} (h : decO t s = .error e) : e ≠ 0 := by
  unfold decO at h
  split at h
  · simp only [Except.error.injEq] at h; omega
  · rename_i r _
    split at h
    · simp only [Except.error.injEq] at h; omega
    · unfold takenO at h
      split at h
      · rename_i e' he
        simp only [Except.error.injEq] at h
        subst h
        exact (sane_tk r none).err _ _ he
      · split at h
        · cases h
        · simp only [Except.error.injEq] at h; omega
/-- A value that was taken is laid out as just these bytes; and it isn't much. -/
theorem dec_enc {t : List UInt8} {s : ByteArray} {n : List Int} {tt : List ByteArray} (h : decO t s = .ok (n, tt)) : encO t n tt = .ok s.data.toList ∧ n.length + tt.length ≤ 16385000 := by
  unfold decO at h
  unfold encO
  split at h
  · cases h
  · rename_i r hr
    rw [hr]
    split at h
    · cases h
    · rename_i hs
      have hsl : s.data.toList.length = s.size := by simp
      unfold takenO at h
      split at h
      · cases h
      · rename_i n1 t1 l1 htk
        split at h
        · rename_i hl1
          subst hl1
          simp only [Except.ok.injEq, Prod.mk.injEq] at h
          obtain ⟨rfl, rfl⟩ := h
          obtain ⟨y, e1, e2⟩ := back_tk r none s.data.toList (by omega) _ _ _ htk
          rw [List.append_nil] at e1
          have e3 := e2 [] []
          rw [List.append_nil, List.append_nil] at e3
          refine ⟨?_, ?_⟩
          · unfold laidO
            dsimp only
            rw [e3]
            dsimp only
            rw [if_pos ⟨rfl, rfl⟩]
            dsimp only
            rw [if_neg (by rw [← e1]; omega), ← e1]
          · have h1 := (few_tk r none _ _ _ _ htk).2
            have hz := (wf_form hr).2
            have h2 : r.sz * ((s.data.toList.length - ([] : List UInt8).length) / 4 + 1) ≤ 1000 * 16385 := Nat.mul_le_mul hz (by rw [hsl]; simp; omega)
            omega
        · cases h
theorem its_of {w : World} {B : Nat} {v : Value} {n : List Int} (h : w.ownsRow B 3 1 v n.length (ints n)) : ∃ ao c, v = .slice ao n.length c ∧ ItsAt w.heap.size w ao n ∧ n.length ≤ c ∧ c ≤ 9223372036854775807 := by
  have hh := h
  rcases h.2 with ⟨e, e2⟩ | ⟨g, cap, cur, e, _, hg, hc, hm, _⟩
  · exact ⟨none, 0, by rw [e, e2], fun i hi => by omega, by omega, by omega⟩
  · subst e
    refine ⟨_, cap, rfl, fun i hi => ⟨g, 0, rfl, (Array.getElem?_eq_some_iff.1 hg).1, ?_⟩, hc, by unfold maxLen at hm; omega⟩
    have := cellAt0 hh i (.int .i64 n[i]) (by simp [ints, hi])
    simpa using this
theorem sts_of {w : World} {B : Nat} {v : Value} {n : List ByteArray} (h : w.ownsRow B 9 1 v n.length (strs n)) : ∃ ao c, v = .slice ao n.length c ∧ StsAt w.heap.size w ao n ∧ n.length ≤ c ∧ c ≤ 9223372036854775807 := by
  have hh := h
  rcases h.2 with ⟨e, e2⟩ | ⟨g, cap, cur, e, _, hg, hc, hm, _⟩
  · exact ⟨none, 0, by rw [e, e2], fun i hi => by omega, by omega, by omega⟩
  · subst e
    refine ⟨_, cap, rfl, fun i hi => ⟨g, 0, rfl, (Array.getElem?_eq_some_iff.1 hg).1, ?_⟩, hc, by unfold maxLen at hm; omega⟩
    have := cellAt0 hh i (.string n[i]) (by simp [strs, hi])
    simpa using this
theorem of_speaks : tup (ofO 100003 1) = .tuple #[.string ⟨#[111, 54, 52]⟩, .string ⟨#[60, 48, 58, 117, 117, 117, 117, 117, 113, 113, 117, 117, 113, 113, 117, 117, 117, 117, 117, 117, 44, 45, 58, 62]⟩, .bool true] := by kernel_rfl
set_option maxRecDepth 100000 in
theorem speaks_any (w : World) : Calls Tryd.prog 5 #[] w fun e w' => e = .returned (.bool true) ∧ Below w.heap.size w w' := by
  go_enter Tryd.func5, Tryd.ntmps5
  go_wp2_with fail
  refine (of_any 100003 1 w).mono ?_
  rintro e w1 ⟨rfl, hb⟩
  rw [of_speaks]
  have HB := Lib.hid hb
  clear hb
  go_wp2
  go_ret
  exact ⟨rfl, HB.out⟩
set_option maxRecDepth 100000 in
set_option maxHeartbeats 4000000 in
theorem bytes_walk (prog proc : Int) (s : ByteArray) (w : World) : Calls Tryd.prog 3 #[.int .i64 prog, .int .i64 proc, .string s] w fun e w' => e = .returned (.bool true) ∧ Below w.heap.size w w' := by
  go_enter Tryd.func3, Tryd.ntmps3
  go_wp2_with fail
  refine (speaks_any _).mono ?_
  rintro e w1 ⟨rfl, hb⟩
  have HB1 := Lib.hid hb
  clear hb
  go_wp2_with fail
  refine (of_any prog proc _).mono ?_
  rintro e w2 ⟨rfl, hb⟩
  have HB2 := Lib.hid (HB1.out.trans (hb.mono HB1.out.size))
  clear hb HB1
  unfold tup
  generalize ofO prog proc = o at *
  obtain ⟨a, r, ok⟩ := o
  go_wp2_with fail
  go_loopw [7, 10] (fun f i wr => ∃ (t : List UInt8) (k : Nat), k ≤ 2 ∧ f = .string (bs t) ∧ i = .int .i64 k ∧ Below w.heap.size w wr) (fun _ i _ => 2 - (intOf i).toNat)
  case atStart => exact ⟨a, 0, by omega, rfl, rfl, HB2.out⟩
  case round =>
    obtain ⟨t, k, hk, rfl, rfl, hb⟩ := hrel
    have HB := Lib.hid hb
    clear hb HB2
    by_cases hk2 : k < 2
    · have hd : decide ((k : Int) < 2) = true := decide_eq_true (by omega)
      have HK := Lib.hid hk2
      clear hk
      go_wp2_with fail
      obtain ⟨x, hx⟩ : ∃ x, decO t s = x := ⟨_, rfl⟩
      refine (decode_any t s _ x hx).mono ?_
      rintro e w3 ⟨hB3, hr⟩
      cases x with
      | error e =>
        simp only at hr
        subst hr
        have he : (e == 0) = false := by simpa using decO_err hx
        have HB3 := Lib.hid ((HB.out.trans (hB3.mono HB.out.size)).alloc (by have := HB.out.size; have := hB3.size; omega) (.cells #[nilS, nilS] 28))
        clear hB3 HB hx
        unfold nilS at *
        go_wp2
        refine ⟨⟨r, k + 1, by have := HK.out; omega, rfl, by go_num, HB3.out⟩, by have := HK.out; simp [intOf]; omega⟩
      | ok y =>
        obtain ⟨n, tt⟩ := y
        obtain ⟨vN, vT, rfl, hN, hT⟩ := hr
        obtain ⟨aN, cN, rfl, iN, n1, n2⟩ := its_of hN
        obtain ⟨aT, cT, rfl, iT, t1, t2⟩ := sts_of hT
        obtain ⟨en, hw⟩ := dec_enc hx
        clear hN hT hx
        have b4 := Below.alloc (Below.refl w3.heap.size w3) (Nat.le_refl _) (.cells #[.slice aN n.length cN, .slice aT tt.length cT] 28)
        have HIN := Lib.hid (iN.up b4 b4.size)
        have HIT := Lib.hid (iT.up b4 b4.size)
        have HEN := Lib.hid en
        have HW := Lib.hid (show worth n tt + 200000 ≤ 140737488355328 by unfold worth; omega)
        have HN1 := Lib.hid n1
        have HN2 := Lib.hid n2
        have HT1 := Lib.hid t1
        have HT2 := Lib.hid t2
        have HB3 := Lib.hid ((HB.out.trans (hB3.mono HB.out.size)).alloc (by have := HB.out.size; have := hB3.size; omega) (.cells #[.slice aN n.length cN, .slice aT tt.length cT] 28))
        clear hB3 HB iN iT en hw n1 n2 t1 t2 b4
        go_wp2_with fail
        generalize w3.alloc (.cells #[.slice aN n.length cN, .slice aT tt.length cT] 28) = w4 at *
        refine (encode_any t n tt aN cN aT cT w4 HIN.out HIT.out ⟨HN1.out, HN2.out⟩ ⟨HT1.out, HT2.out⟩ HW.out _ HEN.out).mono ?_
        rintro e w5 ⟨hB5, rfl⟩
        have HB5 := Lib.hid (HB3.out.trans (hB5.mono HB3.out.size))
        clear hB5 HB3
        have hs : (⟨s.data.toList.toArray⟩ : ByteArray) = s := by simp
        rw [hs]
        clear hs
        go_wp2
        refine ⟨⟨r, k + 1, by have := HK.out; omega, rfl, by go_num, HB5.out⟩, by have := HK.out; simp [intOf]; omega⟩
    · have hd : decide ((k : Int) < 2) = false := decide_eq_false (by omega)
      go_wp2
      go_ret
      exact ⟨rfl, HB.out⟩
end Go.Proofs.YtnfmpbcbppdkgaaDoor
