/-
  strings.ContainsAny(s, "/\x00") and strings.IndexAny, whatever the bytes of s. Its condition: s is shorter than 2^32 - 15.
-/
import Derived.Test.YtmmfmmjjpbfmeaaDoorNm
import Derived.Test.YtmmfmmjjpbfmeaaDoorShelf
import Derived.Lib.Hide
import Derived.WalkKit
import Derived.Laws.Runes
import Derived.Deep.LoopGhost
import Derived.Deep.QuietTactic
import Derived.BigQuiet
import Derived.WalkSmall
namespace Go.Proofs.YtmmfmmjjpbfmeaaDoor
open Go.RowKit

theorem get_at (s : ByteArray) (j : Nat) (h : j < s.size) : s.get! j = s[j]'h := by
  simp [ByteArray.get!, getElem!_pos, h]
  rfl
/-- What stands at a byte that isn't ASCII: a rune of 128 and more, whose bytes are none of ASCII. -/
theorem decode_far (s : ByteArray) (i : Nat) (hi : i < s.size) (h : ¬ (s[i]'hi).toNat < 128) :
    128 ≤ (Utf8.decode s i).1 ∧ (Utf8.decode s i).1 ≤ 1114111 ∧ 1 ≤ (Utf8.decode s i).2 ∧ i + (Utf8.decode s i).2 ≤ s.size ∧ ∀ j (hj : j < s.size), i ≤ j → j < i + (Utf8.decode s i).2 → 128 ≤ (s[j]'hj).toNat := by
  have one : ∀ j (hj : j < s.size), i ≤ j → j < i + 1 → 128 ≤ (s[j]'hj).toNat := fun j hj h1 h2 => by
    obtain rfl : j = i := by omega
    omega
  have hc : ∀ k, (decide (i + k < s.size) && (s.get! (i + k)).toNat / 64 == 2) = true → i + k < s.size ∧ ∀ hj : i + k < s.size, 128 ≤ (s[i + k]'hj).toNat := fun k hk => by
    rw [Bool.and_eq_true, decide_eq_true_eq, beq_iff_eq] at hk
    refine ⟨hk.1, fun hj => ?_⟩
    have := hk.2
    rw [get_at s _ hj] at this
    omega
  have lt : ∀ k, (s.get! (i + k)).toNat < 256 := fun k => UInt8.toNat_lt _
  have l0 := lt 0
  have l1 := lt 1
  have l2 := lt 2
  have l3 := lt 3
  have e0 : (s.get! (i + 0)).toNat = (s[i]'hi).toNat := by rw [Nat.add_zero, get_at s i hi]
  unfold Utf8.decode
  simp only
  rw [if_neg (by rw [e0]; exact h)]
  have err : ∀ x : Nat × Nat, x = (Utf8.runeError, 1) → 128 ≤ x.1 ∧ x.1 ≤ 1114111 ∧ 1 ≤ x.2 ∧ i + x.2 ≤ s.size ∧ ∀ j (hj : j < s.size), i ≤ j → j < i + x.2 → 128 ≤ (s[j]'hj).toNat := by
    rintro x rfl
    exact ⟨by decide, by decide, by decide, by simp only; omega, one⟩
  split
  · rename_i h1
    rw [Bool.and_eq_true] at h1
    have k1 := hc 1 h1.2
    split
    · rename_i h2
      refine ⟨h2, by simp only; omega, by simp only; omega, by simp only; omega, fun j hj a b => ?_⟩
      simp only at b
      rcases (show j = i ∨ j = i + 1 by omega) with rfl | rfl
      · exact one _ hj (by omega) (by omega)
      · exact k1.2 hj
    · exact err _ rfl
  · split
    · rename_i h1
      rw [Bool.and_eq_true, Bool.and_eq_true] at h1
      have k1 := hc 1 h1.1.2
      have k2 := hc 2 h1.2
      split
      · rename_i h2
        rw [Bool.and_eq_true, decide_eq_true_eq] at h2
        refine ⟨by simp only; omega, by simp only; omega, by simp only; omega, by simp only; omega, fun j hj a b => ?_⟩
        simp only at b
        rcases (show j = i ∨ j = i + 1 ∨ j = i + 2 by omega) with rfl | rfl | rfl
        · exact one _ hj (by omega) (by omega)
        · exact k1.2 hj
        · exact k2.2 hj
      · exact err _ rfl
    · split
      · rename_i h1
        rw [Bool.and_eq_true, Bool.and_eq_true, Bool.and_eq_true] at h1
        have k1 := hc 1 h1.1.1.2
        have k2 := hc 2 h1.1.2
        have k3 := hc 3 h1.2
        split
        · rename_i h2
          rw [Bool.and_eq_true, decide_eq_true_eq] at h2
          have hv := h2.2
          unfold Utf8.valid at hv
          simp only [Bool.or_eq_true, Bool.and_eq_true, decide_eq_true_eq] at hv
          refine ⟨by simp only; omega, by simp only; omega, by simp only; omega, by simp only; omega, fun j hj a b => ?_⟩
          simp only at b
          rcases (show j = i ∨ j = i + 1 ∨ j = i + 2 ∨ j = i + 3 by omega) with rfl | rfl | rfl | rfl
          · exact one _ hj (by omega) (by omega)
          · exact k1.2 hj
          · exact k2.2 hj
          · exact k3.2 hj
        · exact err _ rfl
      · exact err _ rfl
theorem run_next_any {P : Program} (w : World) (s : ByteArray) (pos : Nat) (ty : TypeId) (h : pos < s.size) :
    (Instr.next (.pointer (some ⟨w.heap.size, 0, none⟩)) true ty).run P (w.iter s pos) =
      .ok (.tuple #[.bool true, .int .i64 pos, .int .i32 (Utf8.decode s pos).1]) (w.iter s (pos + (Utf8.decode s pos).2)) := by
  simp only [Instr.next, getObj, setObj, Sem.run_bind, Sem.run, World.iter_heap, Result.andThen, h, if_true, World.iter_set]
  simp [goInt]
/-- The bytes of a rune that isn't ASCII: two, of which the last is no nought, or more. -/
theorem encode_far (r : Int) (h0 : 128 ≤ r) : 3 ≤ (Utf8.encode r).size ∧ (Utf8.encode r).size ≤ 4 ∨ ∃ a b : UInt8, Utf8.encode r = ⟨#[a, b]⟩ ∧ b ≠ 0 := by
  have hc : 128 ≤ (if Utf8.valid r then r.toNat else Utf8.runeError) := by
    split
    · omega
    · decide
  have h1 : ¬ (if Utf8.valid r then r.toNat else Utf8.runeError) < 128 := by omega
  by_cases h2 : (if Utf8.valid r then r.toNat else Utf8.runeError) < 2048
  · refine .inr ⟨UInt8.ofNat (192 + (if Utf8.valid r then r.toNat else Utf8.runeError) / 64), UInt8.ofNat (128 + (if Utf8.valid r then r.toNat else Utf8.runeError) % 64), ?_, fun he => ?_⟩
    · unfold Utf8.encode
      simp only
      rw [if_neg h1, if_pos h2]
    · have := congrArg UInt8.toNat he
      rw [UInt8.toNat_ofNat'] at this
      have h3 : (128 + (if Utf8.valid r = true then r.toNat else Utf8.runeError) % 64) % 256 = 0 := this
      omega
  · left
    unfold Utf8.encode
    simp only
    rw [if_neg h1, if_neg h2]
    by_cases h4 : (if Utf8.valid r then r.toNat else Utf8.runeError) < 65536
    · rw [if_pos h4]; exact (by decide : 3 ≤ 3 ∧ 3 ≤ 4)
    · rw [if_neg h4]; exact (by decide : 3 ≤ 4 ∧ 4 ≤ 4)
set_option maxRecDepth 100000 in
set_option maxHeartbeats 1000000 in
/-- No rune that isn't ASCII stands in a slash and a nought. -/
theorem rune_far (r : Int) (w : World) (h0 : 128 ≤ r) (h1 : r ≤ 1114111) : Calls Tryd.prog 23 #[.string ⟨#[47, 0]⟩, .int .i32 r] w fun e w' => e = .returned (.int .i64 (-1)) ∧ Below w.heap.size w w' := by
  have hr0 : (0 : Int) ≤ r := by omega
  have hr1 : ¬ (r < 128) := by omega
  by_cases he : r = 65533
  · subst he
    clear hr0 hr1 h0 h1
    have n0 := fun ty => run_next_ascii (P := Tryd.prog) w ⟨#[47, 0]⟩ 0 ty (by decide) (by decide)
    have n1 := fun ty => run_next_ascii (P := Tryd.prog) w ⟨#[47, 0]⟩ 1 ty (by decide) (by decide)
    have n2 := fun ty => run_next_end (P := Tryd.prog) w ⟨#[47, 0]⟩ 2 ty (by decide)
    go_enter Tryd.func23, Tryd.ntmps23
    go_wp2_with fail
    go_loopg [5, 6] 2 (fun g _ _ wx => ∃ i : Nat, i + g = 2 ∧ wx = w.iter ⟨#[47, 0]⟩ i)
    case atStart => exact ⟨0, by omega, rfl⟩
    case round =>
      obtain ⟨i, hig, rfl⟩ := hrel
      match gk, i, hig with
      | 2, 0, _ =>
        go_wp2
        go_roundg 1
        case measure => omega
        case rel => exact ⟨1, by omega, rfl⟩
      | 1, 1, _ =>
        go_wp2
        go_roundg 0
        case measure => omega
        case rel => exact ⟨2, by omega, rfl⟩
      | 0, 2, _ =>
        go_wp2
        go_ret
        exact ⟨rfl, (Below.refl _ _).alloc (Nat.le_refl _) _⟩
  · have hne : (r == 65533) = false := by simpa using he
    rcases encode_far r h0 with h3 | ⟨a, b, hab, hb⟩
    · obtain ⟨rs, hrs⟩ : ∃ rs, Utf8.encode r = rs := ⟨_, rfl⟩
      have hcv : ∀ w, (convert 21 9 (.int .i32 r)).run Tryd.prog w = .ok (.string rs) w := fun w => by rw [run_convert_int_string w 21 9 .i32 r (by kernel_rfl) Tryd.underlying9, hrs]
      rw [hrs] at h3
      clear hrs
      have hlt : ¬ ((rs.size : Int) - 1 < 2) := by omega
      have hwr : wrap64 ((rs.size : Int) - 1) = (rs.size : Int) - 1 := by unfold wrap64; omega
      go_enter Tryd.func23, Tryd.ntmps23
      go_wp2_with fail
      refine (Tryd.utf8_ValidRune r _).mono ?_
      rintro e w1 ⟨rfl, rfl⟩
      go_wp2_with fail
      · go_ret
        exact ⟨rfl, Below.refl _ _⟩
      · rename_i hv
        clear hv
        go_step3
        go_wp2
        go_loopg [9] 1 (fun g s wx => g = 1 ∧ s = .int .i64 ((rs.size : Int) - 1) ∧ wx = w1)
        case atStart => exact ⟨rfl, rfl, rfl⟩
        case round =>
          obtain ⟨rfl, rfl, rfl⟩ := hrel
          go_wp2
          simp only [Exit.noGoto, Exit.inBlock]
          go_ret
          exact ⟨rfl, Below.refl _ _⟩
    · have hcv : ∀ w, (convert 21 9 (.int .i32 r)).run Tryd.prog w = .ok (.string ⟨#[a, b]⟩) w := fun w => by rw [run_convert_int_string w 21 9 .i32 r (by kernel_rfl) Tryd.underlying9, hab]
      clear hab
      go_enter Tryd.func23, Tryd.ntmps23
      go_wp2_with fail
      refine (Tryd.utf8_ValidRune r _).mono ?_
      rintro e w1 ⟨rfl, rfl⟩
      go_wp2_with fail
      · go_ret
        exact ⟨rfl, Below.refl _ _⟩
      · rename_i hv
        clear hv
        have q0 : (0 : Int) < 1 := by decide
        have hbn : (((((⟨#[47, 0]⟩ : ByteArray)[1]'(by decide)).toNat : Int)) != (((⟨#[a, b]⟩ : ByteArray)[1]'(by show 1 < 2; omega)).toNat : Int)) = true := by
          have h : b.toNat ≠ 0 := fun h => hb (UInt8.toNat_inj.1 (by rw [h]; rfl))
          show ((0 : Int) != (b.toNat : Int)) = true
          simp
          omega
        go_step3
        go_wp2
        go_loopg [9] 1 (fun g s wx => g = 1 ∧ s = .int .i64 1 ∧ wx = w1)
        case atStart => exact ⟨rfl, rfl, rfl⟩
        case round =>
          obtain ⟨rfl, rfl, rfl⟩ := hrel
          go_wp2_with fail
          go_step3
          go_wp2_with fail
          go_quiet (fail)
          go_wp2_with fail
          have hw2 : IntKind.i64.wrap 2 = 2 := by decide
          have HB := Lib.hid (below_drewN (Below.refl wr.heap.size wr) nq)
          generalize wr.drewN nq = wq at *
          go_quiet ((go_at_call 31; exact Calls.quiet_of_same (Tryd.strings_IndexByte _ _ _)))
          go_wp2
          simp only [Exit.noGoto, Exit.inBlock, Exit.then]
          go_ret
          exact ⟨rfl, below_drewN HB.out _⟩

/-- What the loop over the runes keeps: the iterator alone, and new blocks behind it. -/
structure It (B : Nat) (w : World) (s : ByteArray) (i : Nat) (w' : World) : Prop where
  low : Below B w w'
  at_ : w'.heap[B]? = some (.stringIter s i)
theorem It.next {B : Nat} {w w' : World} {s : ByteArray} {i : Nat} (h : It B w s i w') (ty : TypeId) (hi : i < s.size) :
    (Instr.next (.pointer (some ⟨B, 0, none⟩)) true ty).run Tryd.prog w' = .ok (.tuple #[.bool true, .int .i64 i, .int .i32 (Utf8.decode s i).1]) { w' with heap := w'.heap.setIfInBounds B (.stringIter s (i + (Utf8.decode s i).2)) } := by
  simp only [Instr.next, getObj, setObj, Sem.run_bind, Sem.run, h.at_, Result.andThen, hi, if_true]
  simp [goInt]
theorem It.stop {B : Nat} {w w' : World} {s : ByteArray} {i : Nat} (h : It B w s i w') (ty : TypeId) (hi : ¬ i < s.size) :
    (Instr.next (.pointer (some ⟨B, 0, none⟩)) true ty).run Tryd.prog w' = .ok (.tuple #[.bool false]) w' := by
  simp [Instr.next, getObj, Sem.run, h.at_, hi]
theorem It.step {B : Nat} {w w' : World} {s : ByteArray} {i : Nat} (h : It B w s i w') (j : Nat) : It B w s j { w' with heap := w'.heap.setIfInBounds B (.stringIter s j) } := by
  have hB : B < w'.heap.size := (Array.getElem?_eq_some_iff.1 h.at_).1
  refine ⟨⟨h.low.os, h.low.tape, h.low.output, ?_, fun k hk => ?_⟩, ?_⟩
  · simpa using h.low.size
  · rw [show ({ w' with heap := w'.heap.setIfInBounds B (.stringIter s j) } : World).heap[k]? = (w'.heap.setIfInBounds B (.stringIter s j))[k]? from rfl, Array.getElem?_setIfInBounds_ne (by omega)]
    exact h.low.block k hk
  · show (w'.heap.setIfInBounds B (.stringIter s j))[B]? = _
    rw [Array.getElem?_setIfInBounds_self_of_lt hB]
theorem It.keep {B : Nat} {w w' w2 : World} {s : ByteArray} {i : Nat} (h : It B w s i w') (hb : Below w'.heap.size w' w2) : It B w s i w2 := by
  have hB : B < w'.heap.size := (Array.getElem?_eq_some_iff.1 h.at_).1
  exact ⟨h.low.trans (hb.mono (by omega)), (hb.block B hB).trans h.at_⟩
set_option maxRecDepth 100000 in
set_option maxHeartbeats 4000000 in
/-- strings.IndexAny of a slash or a nought. -/
theorem indexAny_any (s : ByteArray) (w : World) (hs : s.size < 4294967281) : Calls Tryd.prog 19 #[.string s, .string ⟨#[47, 0]⟩] w fun e w' => e = .returned (.int .i64 (Lib.indexAny s.data.toList [47, 0])) ∧ Below w.heap.size w w' := by
  by_cases h8 : 8 < s.size
  · refine (Tryd.strings_IndexAny_long (zero_of_info (P := Tryd.prog) (t := 47) (n := 256) (by kernel_rfl)).1 s ⟨#[47, 0]⟩ w (by decide) h8 hs (by decide) (fun j b hj => ?_)).mono ?_
    · rcases j with _ | _ | j <;> simp at hj <;> subst hj <;> decide
    · rintro e w' ⟨rfl, rfl⟩
      exact ⟨rfl, ((Below.refl _ _).alloc (Nat.le_refl _) _).alloc (by simp) _⟩
  · have h8z : decide ((8 : Int) < (s.size : Int)) = false := decide_eq_false (by omega)
    have hs1 : ((s.size : Int)) ≤ 8 := by omega
    go_enter Tryd.func19, Tryd.ntmps19
    go_wp2_with fail
    refine (Tryd.strings_shouldUseASCIISet _ _).mono ?_
    rintro e w1 ⟨rfl, rfl⟩
    rw [h8z]
    go_wp2_with fail
    have HI : It w1.heap.size w1 s 0 (w1.iter s 0) := ⟨(Below.refl _ _).alloc (Nat.le_refl _) _, World.iter_heap _ _ _⟩
    generalize hW : w1.iter s 0 = W at *
    clear hW
    go_loopg [9, 10] s.size (fun g _ _ wx => ∃ i : Nat, i + g = s.size ∧ It w1.heap.size w1 s i wx ∧ Lib.NoAny s.data.toList [47, 0] i)
    case atStart => exact ⟨0, by omega, HI, Lib.NoAny.zero _ _⟩
    case round =>
      obtain ⟨i, hig, hI, hno⟩ := hrel
      have HN := Lib.hid hno
      have HI1 := Lib.hid hI
      clear hno hI HI
      cases gk with
      | zero =>
        have hnx := HI1.out.stop 0 (by omega)
        go_wp2
        go_ret
        refine ⟨?_, HI1.out.low⟩
        rw [Lib.indexAny_none (by rw [← Lib.size_eq, ← (show i = s.size by omega)]; exact HN.out)]
        rfl
      | succ g =>
        have hi : i < s.size := by omega
        have hxl : s.data.toList[i]? = some (s[i]'hi) := Lib.data_getElem? s i hi
        by_cases hx : (s[i]'hi).toNat < 128
        · have hnx := HI1.out.next 0 hi
          rw [decode_ascii s i hi hx] at hnx
          have HI2 := Lib.hid (HI1.out.step (i + 1))
          generalize s[i]'hi = x at *
          have Hx := Lib.hid hxl
          clear hxl HI1
          have hx0 : ¬ ((x.toNat : Int) < 0) := by omega
          have hcon := Lib.contains_iff_indexByte [47, 0] x
          have hback : ((x.toNat : Int)).toNat.toUInt8 = x := by simp
          cases hin : ([47, 0] : List UInt8).contains x
          · rw [hin] at hcon
            have hlt : ¬ ((0 : Int) ≤ Lib.indexByte [47, 0] x) := of_decide_eq_false hcon.symm
            clear hcon
            go_wp2_with fail
            refine (Tryd.strings_IndexRune_ascii _ _ _ (by omega) (by omega)).mono ?_
            rintro e w2 ⟨rfl, rfl⟩
            rw [hback]
            go_wp2
            go_roundg g
            case measure => omega
            case rel => exact ⟨i + 1, by omega, HI2.out, HN.out.succ Hx.out hin⟩
          · rw [hin] at hcon
            have hge : (0 : Int) ≤ Lib.indexByte [47, 0] x := of_decide_eq_true hcon.symm
            clear hcon
            go_wp2_with fail
            refine (Tryd.strings_IndexRune_ascii _ _ _ (by omega) (by omega)).mono ?_
            rintro e w2 ⟨rfl, rfl⟩
            rw [hback]
            go_wp2
            go_ret
            exact ⟨by rw [Lib.indexAny_hit HN.out Hx.out hin]; rfl, HI2.out.low⟩
        · have hnx := HI1.out.next 0 hi
          obtain ⟨d1, d2, d3, d4, d5⟩ := decode_far s i hi hx
          have HI2 := Lib.hid (HI1.out.step (i + (Utf8.decode s i).2))
          have HN2 := Lib.hid (show Lib.NoAny s.data.toList [47, 0] (i + (Utf8.decode s i).2) from fun j b hj hb => by
            by_cases h : j < i
            · exact HN.out j b h hb
            · have hjs : j < s.size := by omega
              have := d5 j hjs (by omega) hj
              rw [Lib.data_getElem? s j hjs] at hb
              cases hb
              simp
              refine ⟨fun e => ?_, fun e => ?_⟩ <;> rw [e] at this <;> exact absurd this (by decide))
          have HD := Lib.hid d1
          have HD2 := Lib.hid d2
          have HD3 := Lib.hid d3
          have HD4 := Lib.hid d4
          clear d1 d2 d3 d4 d5 HI1 HN hxl
          generalize Utf8.decode s i = rn at *
          obtain ⟨r, n⟩ := rn
          go_wp2_with fail
          refine (rune_far _ _ (by have := HD.out; omega) (by have := HD2.out; omega)).mono ?_
          rintro e w2 ⟨rfl, hb2⟩
          have HI3 := Lib.hid (HI2.out.keep hb2)
          clear hb2 HI2
          go_wp2
          go_roundg (g + 1 - n)
          case measure => have := HD3.out; omega
          case rel => exact ⟨i + n, by have := HD3.out; have := HD4.out; omega, HI3.out, HN2.out⟩
set_option maxRecDepth 100000 in
/-- strings.ContainsAny of a slash or a nought. -/
theorem containsAny_any (s : ByteArray) (w : World) (hs : s.size < 4294967281) : Calls Tryd.prog 15 #[.string s, .string ⟨#[47, 0]⟩] w fun e w' => e = .returned (.bool (bad s.data.toList)) ∧ Below w.heap.size w w' := by
  go_enter Tryd.func15, Tryd.ntmps15
  go_wp2_with fail
  refine (indexAny_any s _ hs).mono ?_
  rintro e w2 ⟨rfl, hb⟩
  have HB := Lib.hid hb
  clear hb
  go_wp2
  go_ret
  refine ⟨?_, HB.out⟩
  rw [← bad_any]
  rfl
end Go.Proofs.YtmmfmmjjpbfmeaaDoor
