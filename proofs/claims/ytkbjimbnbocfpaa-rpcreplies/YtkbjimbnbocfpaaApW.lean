/-
  RpcApart's walk: it answers true, and makes new blocks alone. Its condition: the arguments are no longer than memory.
-/
import Derived.Test.YtkbjimbnbocfpaaAp
import Derived.Test.YtkbjimbnbocfpaaCutW
import Derived.BigRegion
import Derived.Laws.StructEq
import Derived.Laws.Small
import Derived.Laws.Tables
import Derived.KernelRfl
namespace Go.Proofs.Ytkbjimbnbocfpaa
open Go.RowKit
@[go_sem] theorem eq22 (a b c d a' b' c' d' : Int) (w : World) : (Op.equalIn 10000 22 (.agg #[.int .i64 a, .int .i64 b, .int .i64 c, .int .i64 d]) (.agg #[.int .i64 a', .int .i64 b', .int .i64 c', .int .i64 d'])).run Try.prog w = .ok (a == a' && (b == b' && (c == c' && d == d'))) w := by
  have u3 := Try.underlying3
  rw [show (10000 : Nat) = 9999 + 1 from rfl, Op.equalIn]
  simp only [Sem.run_bind, run_underlying Try.underlying22, Result.andThen_ok]
  simp only [Std.Legacy.Range.forIn_eq_forIn_range', Std.Legacy.Range.size, Nat.sub_zero, Nat.add_sub_cancel, Nat.div_one, List.range'_succ, List.range'_zero, List.forIn_cons, List.forIn_nil]
  go_simp
  by_cases h1 : a = a' <;> by_cases h2 : b = b' <;> by_cases h3 : c = c' <;> by_cases h4 : d = d' <;> simp [h1, h2, h3, h4]
@[go_sem] theorem eq49 (a b c d : Int) (s : ByteArray) (a' b' c' d' : Int) (s' : ByteArray) (w : World) : (Op.equalIn 10000 49 (.agg #[.int .i64 a, .int .i64 b, .int .i64 c, .int .i64 d, .string s]) (.agg #[.int .i64 a', .int .i64 b', .int .i64 c', .int .i64 d', .string s'])).run Try.prog w = .ok (a == a' && (b == b' && (c == c' && (d == d' && s.toList == s'.toList)))) w := by
  have u3 := Try.underlying3
  have u9 := Try.underlying9
  have hS : Try.prog.underlying 49 = some (.struct (Try.prog.fieldsOf 49)) := by kernel_rfl
  have hp : Try.prog.stoodInHeld 49 = false := by kernel_rfl
  rw [show (10000 : Nat) = 9999 + 1 from rfl, run_equalIn_agg w 9999 49 _ _ hS hp]
  simp only [Program.fieldsOf, Try.underlying49]
  go_simp
  by_cases h1 : a = a' <;> by_cases h2 : b = b' <;> by_cases h3 : c = c' <;> by_cases h4 : d = d' <;> by_cases h5 : s.toList = s'.toList <;> simp [h1, h2, h3, h4, h5]

/-- The three arrays lie where they lay. -/
structure Boxes (w1 : World) (A B C : Nat) (a b c d a' b' c' d' : Int) (s s' : ByteArray) : Prop where
  hA : w1.heap[A]? = some (.cells #[.int .i64 a, .int .i64 b, .int .i64 c, .int .i64 d] 22 (0, 0))
  hB : w1.heap[B]? = some (.cells #[.int .i64 a', .int .i64 b', .int .i64 c', .int .i64 d'] 22 (0, 0))
  hC : w1.heap[C]? = some (.cells #[.string s, .string s'] 57 (0, 0))
theorem Boxes.all {w1 : World} {A B C : Nat} {a b c d a' b' c' d' : Int} {s s' : ByteArray} (h : Boxes w1 A B C a b c d a' b' c' d' s s') : w1.cell? ⟨A, 0, none⟩ = some (.int .i64 a) ∧ w1.cell? ⟨A, 1, none⟩ = some (.int .i64 b) ∧ w1.cell? ⟨A, 2, none⟩ = some (.int .i64 c) ∧ w1.cell? ⟨A, 3, none⟩ = some (.int .i64 d) ∧ w1.cell? ⟨B, 0, none⟩ = some (.int .i64 a') ∧ w1.cell? ⟨B, 1, none⟩ = some (.int .i64 b') ∧ w1.cell? ⟨B, 2, none⟩ = some (.int .i64 c') ∧ w1.cell? ⟨B, 3, none⟩ = some (.int .i64 d') ∧ w1.cell? ⟨C, 0, none⟩ = some (.string s) ∧ w1.cell? ⟨C, 1, none⟩ = some (.string s') := by
  refine ⟨?_, ?_, ?_, ?_, ?_, ?_, ?_, ?_, ?_, ?_⟩
  · rw [cell_of_row w1 _ _ _ _ _ h.hA]; rfl
  · rw [cell_of_row w1 _ _ _ _ _ h.hA]; rfl
  · rw [cell_of_row w1 _ _ _ _ _ h.hA]; rfl
  · rw [cell_of_row w1 _ _ _ _ _ h.hA]; rfl
  · rw [cell_of_row w1 _ _ _ _ _ h.hB]; rfl
  · rw [cell_of_row w1 _ _ _ _ _ h.hB]; rfl
  · rw [cell_of_row w1 _ _ _ _ _ h.hB]; rfl
  · rw [cell_of_row w1 _ _ _ _ _ h.hB]; rfl
  · rw [cell_of_row w1 _ _ _ _ _ h.hC]; rfl
  · rw [cell_of_row w1 _ _ _ _ _ h.hC]; rfl
theorem Boxes.lt {w1 : World} {A B C : Nat} {a b c d a' b' c' d' : Int} {s s' : ByteArray} (h : Boxes w1 A B C a b c d a' b' c' d' s s') : A < w1.heap.size ∧ B < w1.heap.size ∧ C < w1.heap.size :=
  ⟨(Array.getElem?_eq_some_iff.1 h.hA).1, (Array.getElem?_eq_some_iff.1 h.hB).1, (Array.getElem?_eq_some_iff.1 h.hC).1⟩
theorem Boxes.below {w1 w2 : World} {A B C : Nat} {a b c d a' b' c' d' : Int} {s s' : ByteArray} (h : Boxes w1 A B C a b c d a' b' c' d' s s') (hb : Below w1.heap.size w1 w2) : Boxes w2 A B C a b c d a' b' c' d' s s' :=
  ⟨(hb.block _ h.lt.1).trans h.hA, (hb.block _ h.lt.2.1).trans h.hB, (hb.block _ h.lt.2.2).trans h.hC⟩
theorem twoNew {w : World} (o1 o2 : Obj) : Below w.heap.size w ((w.alloc o1).alloc o2).drew ∧ ((w.alloc o1).alloc o2).drew.heap[w.heap.size]? = some o1 ∧ ((w.alloc o1).alloc o2).drew.heap[w.heap.size + 1]? = some o2 := by
  refine ⟨(((Below.refl _ w).alloc (Nat.le_refl _) o1).alloc (by simp) o2).drew, ?_, ?_⟩
  · exact ((World.grownBy_alloc _ _ none).block w.heap.size (by simp) (by simp)).trans (heap_alloc_new w _)
  · have := heap_alloc_new (w.alloc o1) o2
    rw [show (w.alloc o1).heap.size = w.heap.size + 1 from by simp] at this
    exact this

theorem put_n (a b c d : Int) (s : ByteArray) (w : World) (hs : s.size ≤ 9223372036854700000) (S : ByteArray) (E : Int) (hS : (if (plainC a b c d s).ok then restS (plainC a b c d s).headP s else ⟨#[]⟩) = S) (hE : (if (plainC a b c d s).ok then restC (plainC a b c d s).headP s else 4) = E) :
    Calls Try.prog 11 #[.agg #[.int .i64 a, .int .i64 b, .int .i64 c, .int .i64 d, .bool false, .int .i64 0, .string ⟨#[]⟩, .int .i64 0, .int .i64 0, .slice none 0 0, .string s]] w
      fun e w' => e = .returned (.tuple #[.string S, .int .i64 E]) ∧ Below w.heap.size w w' := by
  subst hS hE
  exact put_plain a b c d s w hs
theorem rep_n (R : Rp) (w : World) (hs : R.body.size ≤ 9223372036854700000) (S : ByteArray) (E : Int) (hS : (if R.ok then restS R.head R.body else ⟨#[]⟩) = S) (hE : (if R.ok then restC R.head R.body else 4) = E) :
    Calls Try.prog 16 #[.agg #[.int .i64 R.xid, .int .i64 R.v, .int .i64 R.low, .int .i64 R.high, .string R.body]] w
      fun e w' => e = .returned (.tuple #[.string S, .int .i64 E]) ∧ Below w.heap.size w w' := by
  subst hS hE
  exact putReply_any R w hs
theorem eq_bytes {a b : ByteArray} (h : (a.toList == b.toList) = true) : a = b := ByteArray.ext (Array.ext' (by simpa [ByteArray.toList_eq] using beq_iff_eq.1 h))
/-- Two plain calls: their bytes tell them apart. -/
theorem calls_apart (a b c d a' b' c' d' : Int) (s s' : ByteArray) : ∃ (S1 S2 : ByteArray) (E1 E2 : Int),
    Hid ((if (plainC a b c d s).ok then restS (plainC a b c d s).headP s else ⟨#[]⟩) = S1) ∧ Hid ((if (plainC a b c d s).ok then restC (plainC a b c d s).headP s else 4) = E1) ∧
    Hid ((if (plainC a' b' c' d' s').ok then restS (plainC a' b' c' d' s').headP s' else ⟨#[]⟩) = S2) ∧ Hid ((if (plainC a' b' c' d' s').ok then restC (plainC a' b' c' d' s').headP s' else 4) = E2) ∧
    Hid ((a = a' ∧ b = b' ∧ c = c' ∧ d = d' ∧ s = s') → S1 = S2) ∧ Hid (E1 = 0 → E2 = 0 → S1 = S2 → (a = a' ∧ b = b' ∧ c = c' ∧ d = d' ∧ s = s')) := by
  refine ⟨_, _, _, _, Lib.hid rfl, Lib.hid rfl, Lib.hid rfl, Lib.hid rfl, Lib.hid ?_, Lib.hid ?_⟩
  · rintro ⟨rfl, rfl, rfl, rfl, rfl⟩; rfl
  · intro k1 k2 k3
    cases o1 : (plainC a b c d s).ok with
    | false => rw [o1] at k1; exact absurd k1 (by simp)
    | true =>
      cases o2 : (plainC a' b' c' d' s').ok with
      | false => rw [o2] at k2; exact absurd k2 (by simp)
      | true =>
        rw [o1] at k1 k3
        rw [o2] at k2 k3
        exact @cl_apart (plainC a b c d s) (plainC a' b' c' d' s') rfl rfl o1 o2 k1 k2 k3
/-- Two replies likewise. -/
theorem reps_apart (R R' : Rp) : ∃ (S1 S2 : ByteArray) (E1 E2 : Int),
    Hid ((if R.ok then restS R.head R.body else ⟨#[]⟩) = S1) ∧ Hid ((if R.ok then restC R.head R.body else 4) = E1) ∧
    Hid ((if R'.ok then restS R'.head R'.body else ⟨#[]⟩) = S2) ∧ Hid ((if R'.ok then restC R'.head R'.body else 4) = E2) ∧
    Hid (R = R' → S1 = S2) ∧ Hid (E1 = 0 → E2 = 0 → S1 = S2 → R = R') := by
  refine ⟨_, _, _, _, Lib.hid rfl, Lib.hid rfl, Lib.hid rfl, Lib.hid rfl, Lib.hid ?_, Lib.hid ?_⟩
  · rintro rfl; rfl
  · intro k1 k2 k3
    cases o1 : R.ok with
    | false => rw [o1] at k1; exact absurd k1 (by simp)
    | true =>
      cases o2 : R'.ok with
      | false => rw [o2] at k2; exact absurd k2 (by simp)
      | true =>
        rw [o1] at k1 k3
        rw [o2] at k2 k3
        exact rp_apart o1 o2 k1 k2 k3

set_option maxRecDepth 100000 in
set_option maxHeartbeats 4000000 in
theorem apart_walk (a b c d a' b' c' d' : Int) (s s' : ByteArray) (w : World) (hs : s.size ≤ 9223372036854700000) (hs' : s'.size ≤ 9223372036854700000) :
    Calls Try.prog 7 #[.agg #[.int .i64 a, .int .i64 b, .int .i64 c, .int .i64 d], .agg #[.int .i64 a', .int .i64 b', .int .i64 c', .int .i64 d'], .agg #[.string s, .string s']] w fun e w' => e = .returned (.bool true) ∧ Below w.heap.size w w' := by
  obtain ⟨S1, S2, E1, E2, HS1, HE1, HS2, HE2, HEQ, HNE⟩ := calls_apart a b c d a' b' c' d' s s'
  obtain ⟨U1, U2, F1, F2, HU1, HF1, HU2, HF2, HREQ, HRNE⟩ := reps_apart ⟨a, b, c, d, s⟩ ⟨a', b', c', d', s'⟩
  go_enter Try.func7, Try.ntmps7
  go_wp2_with fail
  refine (speaks_any _).mono ?_
  rintro e w1 ⟨rfl, hB1⟩
  have hA : w1.heap[w.heap.size]? = some (.cells #[.int .i64 a, .int .i64 b, .int .i64 c, .int .i64 d] 22 (0, 0)) :=
    (hB1.block _ (by simp; omega)).trans (((World.grownBy_alloc _ _ none).block w.heap.size (by simp; omega) (by simp)).trans (((World.grownBy_alloc _ _ none).block w.heap.size (by simp) (by simp)).trans (heap_alloc_new w _)))
  have hB : w1.heap[w.heap.size + 1]? = some (.cells #[.int .i64 a', .int .i64 b', .int .i64 c', .int .i64 d'] 22 (0, 0)) := by
    refine (hB1.block _ (by simp)).trans (((World.grownBy_alloc _ _ none).block (w.heap.size + 1) (by simp) (by simp)).trans ?_)
    have := heap_alloc_new (w.alloc (.cells #[.int .i64 a, .int .i64 b, .int .i64 c, .int .i64 d] 22)) (.cells #[.int .i64 a', .int .i64 b', .int .i64 c', .int .i64 d'] 22)
    simpa using this
  have hC : w1.heap[w.heap.size + 1 + 1]? = some (.cells #[.string s, .string s'] 57 (0, 0)) := by
    refine (hB1.block _ (by simp)).trans ?_
    have := heap_alloc_new ((w.alloc (.cells #[.int .i64 a, .int .i64 b, .int .i64 c, .int .i64 d] 22)).alloc (.cells #[.int .i64 a', .int .i64 b', .int .i64 c', .int .i64 d'] 22)) (.cells #[.string s, .string s'] 57)
    simpa using this
  have HB1 : Hid (Below w.heap.size w w1) := Lib.hid ((((Below.refl _ w).alloc (Nat.le_refl _) _).alloc (by simp) _).alloc (by simp; omega) _ |>.trans (hB1.mono (by simp; omega)))
  clear hB1
  have dAB : w.heap.size ≠ w.heap.size + 1 := by omega
  have dAC : w.heap.size ≠ w.heap.size + 1 + 1 := by omega
  have dBC : w.heap.size + 1 ≠ w.heap.size + 1 + 1 := by omega
  generalize hCe : w.heap.size + 1 + 1 = C at *
  generalize hBe : w.heap.size + 1 = B at *
  generalize hAe : w.heap.size = A at *
  clear hCe hBe
  have HAe := Lib.hid hAe
  clear hAe
  have hX : Boxes w1 A B C a b c d a' b' c' d' s s' := ⟨hA, hB, hC⟩
  clear hA hB hC
  have HX := Lib.hid hX
  obtain ⟨lA, lB, lC⟩ := hX.lt
  obtain ⟨x0, x1, x2, x3, y0, y1, y2, y3, z0, z1⟩ := hX.all
  clear hX
  go_upto_region 3 with (fail)
  go_cut [7, 8] (fun p q wc => ∃ X Y, p = .pointer (some ⟨X, 0, none⟩) ∧ q = .pointer (some ⟨Y, 0, none⟩) ∧ Below w1.heap.size w1 wc ∧ CAt wc X a b c d false 0 ⟨#[]⟩ 0 0 (.slice none 0 0) s ∧ CAt wc Y a' b' c' d' false 0 ⟨#[]⟩ 0 0 (.slice none 0 0) s')
  case first =>
    go_region_held3 (fun w' => w'.cell? ⟨A, 0, none⟩ = some (.int .i64 a) ∧ w'.cell? ⟨A, 1, none⟩ = some (.int .i64 b) ∧ w'.cell? ⟨A, 2, none⟩ = some (.int .i64 c) ∧ w'.cell? ⟨A, 3, none⟩ = some (.int .i64 d) ∧ w'.cell? ⟨B, 0, none⟩ = some (.int .i64 a') ∧ w'.cell? ⟨B, 1, none⟩ = some (.int .i64 b') ∧ w'.cell? ⟨B, 2, none⟩ = some (.int .i64 c') ∧ w'.cell? ⟨B, 3, none⟩ = some (.int .i64 d') ∧ w'.cell? ⟨C, 0, none⟩ = some (.string s) ∧ w'.cell? ⟨C, 1, none⟩ = some (.string s')) (go_keep) (first | fail)
    all_goals
      go_wp2
      go_meet
    · exact ⟨_, _, rfl, rfl, (twoNew _ _).1, (twoNew _ _).2.1, (twoNew _ _).2.2⟩
    · exact ⟨_, _, rfl, rfl, (twoNew _ _).1, (twoNew _ _).2.2, (twoNew _ _).2.1⟩
  case rest =>
    obtain ⟨X, Y, rfl, rfl, hB2, hX, hY⟩ := hcut
    have HX2 := Lib.hid (HX.out.below hB2)
    have HB2 := Lib.hid (HB1.out.trans (hB2.mono (show A ≤ w1.heap.size by omega)))
    have l2 : A ≤ wc.heap.size := by have := hB2.size; omega
    have lY : Y < wc.heap.size := (Array.getElem?_eq_some_iff.1 hY).1
    have HY := Lib.hid hY
    clear x0 x1 x2 x3 y0 y1 y2 y3 z0 z1 HX HB1 hB2 lA lB lC hY
    obtain ⟨e0, e1, e2, e3, e4, e5, e6, e7, e8, e9, e10⟩ := hX.all
    clear hX
    go_wp2_with fail
    refine (put_n a b c d s wc hs S1 E1 HS1.out HE1.out).mono ?_
    rintro e w3 ⟨rfl, hB3⟩
    have HX3 := Lib.hid (HX2.out.below hB3)
    have HB3 := Lib.hid (HB2.out.trans (hB3.mono l2))
    have hY3 : CAt w3 Y a' b' c' d' false 0 ⟨#[]⟩ 0 0 (.slice none 0 0) s' := (hB3.block Y lY).trans HY.out
    have l3 : A ≤ w3.heap.size := by have := hB3.size; omega
    clear e0 e1 e2 e3 e4 e5 e6 e7 e8 e9 e10 HX2 HB2 hB3 l2 lY HY
    obtain ⟨e0, e1, e2, e3, e4, e5, e6, e7, e8, e9, e10⟩ := hY3.all
    clear hY3
    go_wp2_with fail
    refine (put_n a' b' c' d' s' w3 hs' S2 E2 HS2.out HE2.out).mono ?_
    rintro e w4 ⟨rfl, hB4⟩
    have hX4 := HX3.out.below hB4
    have HB4 := Lib.hid (HB3.out.trans (hB4.mono l3))
    have l4 : A ≤ w4.heap.size := by have := hB4.size; omega
    clear e0 e1 e2 e3 e4 e5 e6 e7 e8 e9 e10 HX3 HB3 hB4 l3
    have HX4 := Lib.hid hX4
    obtain ⟨x0, x1, x2, x3, y0, y1, y2, y3, z0, z1⟩ := hX4.all
    clear hX4
    go_upto_region 6 with (fail)
    go_cut [74] (fun p wc => p = .bool false ∧ wc = w4)
    case first =>
      by_cases c1 : E1 = 0
      · subst c1
        by_cases c2 : E2 = 0
        · subst c2
          by_cases hall : a = a' ∧ b = b' ∧ c = c' ∧ d = d' ∧ s = s'
          · have hS := HEQ.out hall
            obtain ⟨rfl, rfl, rfl, rfl, rfl⟩ := hall
            subst hS
            go_wp2
            go_meet
            exact ⟨rfl, rfl⟩
          · have hS : (S1.toList == S2.toList) = false := by
              cases hq : (S1.toList == S2.toList) with
              | false => rfl
              | true => exact absurd (HNE.out rfl rfl (ByteArray.ext (Array.ext' (by simpa [ByteArray.toList_eq] using beq_iff_eq.1 hq)))) hall
            cases hab : (a == a' && (b == b' && (c == c' && d == d'))) with
            | true =>
              have hss : (s.toList == s'.toList) = false := by
                cases hq : (s.toList == s'.toList) with
                | false => rfl
                | true =>
                  have hs2 : s = s' := ByteArray.ext (Array.ext' (by simpa [ByteArray.toList_eq] using beq_iff_eq.1 hq))
                  simp only [Bool.and_eq_true, beq_iff_eq] at hab
                  exact absurd ⟨hab.1, hab.2.1, hab.2.2.1, hab.2.2.2, hs2⟩ hall
              have HALL := Lib.hid hall
              clear hall
              go_wp2
              go_meet
              exact ⟨rfl, rfl⟩
            | false =>
              have HALL := Lib.hid hall
              clear hall
              go_wp2
              go_meet
              exact ⟨rfl, rfl⟩
        · have hb2 : (E2 == 0) = false := by simpa using c2
          go_wp2
          go_meet
          exact ⟨rfl, rfl⟩
      · have hb1 : (E1 == 0) = false := by simpa using c1
        go_wp2
        go_meet
        exact ⟨rfl, rfl⟩
    case rest =>
      obtain ⟨rfl, rfl⟩ := hcut
      obtain ⟨lA, lB, lC⟩ := HX4.out.lt
      go_upto_region 8 with (fail)
      go_cut [13, 14] (fun p q wd => ∃ X Y, p = .pointer (some ⟨X, 0, none⟩) ∧ q = .pointer (some ⟨Y, 0, none⟩) ∧ Below wc.heap.size wc wd ∧ RpAt wd X ⟨a, b, c, d, s⟩ ∧ RpAt wd Y ⟨a', b', c', d', s'⟩)
      case first =>
        go_region_held3 (fun w' => w'.cell? ⟨A, 0, none⟩ = some (.int .i64 a) ∧ w'.cell? ⟨A, 1, none⟩ = some (.int .i64 b) ∧ w'.cell? ⟨A, 2, none⟩ = some (.int .i64 c) ∧ w'.cell? ⟨A, 3, none⟩ = some (.int .i64 d) ∧ w'.cell? ⟨B, 0, none⟩ = some (.int .i64 a') ∧ w'.cell? ⟨B, 1, none⟩ = some (.int .i64 b') ∧ w'.cell? ⟨B, 2, none⟩ = some (.int .i64 c') ∧ w'.cell? ⟨B, 3, none⟩ = some (.int .i64 d') ∧ w'.cell? ⟨C, 0, none⟩ = some (.string s) ∧ w'.cell? ⟨C, 1, none⟩ = some (.string s')) (go_keep) (first | fail)
        all_goals
          go_wp2
          go_meet
        · exact ⟨_, _, rfl, rfl, (twoNew _ _).1, (twoNew _ _).2.1, (twoNew _ _).2.2⟩
        · exact ⟨_, _, rfl, rfl, (twoNew _ _).1, (twoNew _ _).2.2, (twoNew _ _).2.1⟩
      case rest =>
        obtain ⟨X', Y', rfl, rfl, hB5, hX, hY⟩ := hcut
        have HB5 := Lib.hid (HB4.out.trans (hB5.mono l4))
        have l5 : A ≤ wc.heap.size := by have := hB5.size; omega
        have lX : X' < wc.heap.size := (Array.getElem?_eq_some_iff.1 hX).1
        have lY : Y' < wc.heap.size := (Array.getElem?_eq_some_iff.1 hY).1
        have HY := Lib.hid hY
        have HX := Lib.hid hX
        clear x0 x1 x2 x3 y0 y1 y2 y3 z0 z1 HX4 HB4 hB5 l4 lA lB lC hY
        obtain ⟨x0, x1, x2, x3, x4⟩ := hX.all
        clear hX
        go_wp2_with fail
        refine (rep_n ⟨a, b, c, d, s⟩ wc hs U1 F1 HU1.out HF1.out).mono ?_
        rintro e w6 ⟨rfl, hB6⟩
        have hX6 : RpAt w6 X' ⟨a, b, c, d, s⟩ := (hB6.block X' lX).trans HX.out
        have hY6 : RpAt w6 Y' ⟨a', b', c', d', s'⟩ := (hB6.block Y' lY).trans HY.out
        have HB6 := Lib.hid (HB5.out.trans (hB6.mono l5))
        have l6 : A ≤ w6.heap.size := by have := hB6.size; omega
        have lX6 : X' < w6.heap.size := by have := hB6.size; omega
        have lY6 : Y' < w6.heap.size := by have := hB6.size; omega
        have HY6 := Lib.hid hY6
        have HX6 := Lib.hid hX6
        clear x0 x1 x2 x3 x4 hX6 HX HY HB5 hB6 l5 lX lY
        obtain ⟨y0, y1, y2, y3, y4⟩ := hY6.all
        clear hY6
        go_wp2_with fail
        refine (rep_n ⟨a', b', c', d', s'⟩ w6 hs' U2 F2 HU2.out HF2.out).mono ?_
        rintro e w7 ⟨rfl, hB7⟩
        have hX7 : RpAt w7 X' ⟨a, b, c, d, s⟩ := (hB7.block X' lX6).trans HX6.out
        have hY7 : RpAt w7 Y' ⟨a', b', c', d', s'⟩ := (hB7.block Y' lY6).trans HY6.out
        have HB7 := Lib.hid (HB6.out.trans (hB7.mono l6))
        clear y0 y1 y2 y3 y4 HX6 HY6 HB6 hB7 l6 lX6 lY6
        obtain ⟨x0, x1, x2, x3, x4⟩ := hX7.all
        obtain ⟨y0, y1, y2, y3, y4⟩ := hY7.all
        clear hX7 hY7
        by_cases c1 : F1 = 0
        · subst c1
          by_cases c2 : F2 = 0
          · subst c2
            by_cases hall : (⟨a, b, c, d, s⟩ : Rp) = ⟨a', b', c', d', s'⟩
            · have hS := HREQ.out hall
              simp only [Rp.mk.injEq] at hall
              obtain ⟨rfl, rfl, rfl, rfl, rfl⟩ := hall
              subst hS
              go_wp2
              go_ret
              exact ⟨by simp, by rw [HAe.out]; exact HB7.out⟩
            · have hS : (U1.toList == U2.toList) = false := by
                cases hq : (U1.toList == U2.toList) with
                | false => rfl
                | true => exact absurd (HRNE.out rfl rfl (eq_bytes hq)) hall
              have hab : (a == a' && (b == b' && (c == c' && (d == d' && s.toList == s'.toList)))) = false := by
                cases hq : (a == a' && (b == b' && (c == c' && (d == d' && s.toList == s'.toList)))) with
                | false => rfl
                | true =>
                  simp only [Bool.and_eq_true, beq_iff_eq] at hq
                  obtain ⟨rfl, rfl, rfl, rfl, q5⟩ := hq
                  have := eq_bytes (beq_iff_eq.2 q5)
                  subst this
                  exact absurd rfl hall
              have HALL := Lib.hid hall
              clear hall
              go_wp2
              all_goals
                go_ret
                refine ⟨?_, by rw [HAe.out]; exact HB7.out⟩
                first | rfl | (simp at *; done) | (simp_all; done)
          · have hb2 : (F2 != 0) = true := by simpa using c2
            go_wp2
            go_ret
            exact ⟨rfl, by rw [HAe.out]; exact HB7.out⟩
        · have hb1 : (F1 != 0) = true := by simpa using c1
          go_wp2
          go_ret
          exact ⟨rfl, by rw [HAe.out]; exact HB7.out⟩
end Go.Proofs.Ytkbjimbnbocfpaa
