/-
  ScoreTurned's walk: it answers true, and makes new blocks alone. Its condition: the numbers fit into 64 bits.
-/
import Derived.Test.YtdfpfdkpgokflabTn
import Derived.Test.YtdfpfdkpgokflabOwn
namespace Go.Proofs.Ytdfpfdkpgokflab
open Go.RowKit Ieee
@[go_sem] theorem neg_f (b : Nat) : Op.unary .neg (.float .f64 b) = pure (.float .f64 (Op.negFloat .f64 b)) := rfl
set_option maxRecDepth 100000 in
theorem inf_pos (w : World) : Calls Try.prog 8 #[.int .i64 1] w fun e w' => e = .returned (.float .f64 9218868437227405312) ∧ w = w' := by
  go_enter Try.func8, Try.ntmps8
  go_wp2
  go_ret
  exact ⟨rfl, rfl⟩
set_option maxRecDepth 100000 in
theorem inf_neg (w : World) : Calls Try.prog 8 #[.int .i64 (-1)] w fun e w' => e = .returned (.float .f64 18442240474082181120) ∧ w = w' := by
  go_enter Try.func8, Try.ntmps8
  go_wp2
  go_ret
  exact ⟨rfl, rfl⟩
theorem row_flt (w : World) (L : List Nat) (hL : ∀ x ∈ L, x < 18446744073709551616) : FltAt (w.alloc (.cells (L.map (Value.float .f64)).toArray 24)) (some ⟨w.heap.size, 0, none⟩) L := by
  intro i hi
  refine ⟨w.heap.size, 0, rfl, by simp, ?_, hL _ (List.getElem_mem hi)⟩
  rw [Nat.zero_add, cell_of_row _ w.heap.size i _ 24 _ (heap_alloc_new w _)]
  simp [hi]
theorem mean_bad (w : World) (B : Nat) (hB : w.heap.size = B) : Calls Try.prog 6 #[.slice (some ⟨B, 0, none⟩) 3 3] (w.alloc (.cells #[.float .f64 9221120237041090561, .float .f64 9218868437227405312, .float .f64 18442240474082181120] 24))
    fun e w' => ∃ r n, e = .returned (.tuple #[.float .f64 r, .int .i64 0]) ∧ w' = (w.alloc (.cells #[.float .f64 9221120237041090561, .float .f64 9218868437227405312, .float .f64 18442240474082181120] 24)).drewN n := by
  subst hB
  have hm := mean_any [9221120237041090561, 9218868437227405312, 18442240474082181120] (some ⟨w.heap.size, 0, none⟩) 3 _ (row_flt w [9221120237041090561, 9218868437227405312, 18442240474082181120] (by decide)) (by decide)
  refine Calls.mono hm ?_
  rintro e w' ⟨r, n, rfl, _, rfl⟩
  exact ⟨r, n, rfl, rfl⟩
theorem mean_x (x : Nat) (hx : x < 18446744073709551616) (w : World) (B : Nat) (hB : w.heap.size = B) : Calls Try.prog 6 #[.slice (some ⟨B, 0, none⟩) 1 1] (w.alloc (.cells #[.float .f64 x] 24))
    fun e w' => ∃ r n, e = .returned (.tuple #[.float .f64 r, .int .i64 (if fin x then 1 else 0)]) ∧ (fin x = true → (FloatKind.f64.format.order r x != some .eq) = false) ∧ w' = (w.alloc (.cells #[.float .f64 x] 24)).drewN n := by
  subst hB
  have hm := mean_any [x] (some ⟨w.heap.size, 0, none⟩) 1 _ (row_flt w [x] (by simpa using hx)) (by simp)
  refine Calls.mono hm ?_
  rintro e w' ⟨r, n, rfl, hr, rfl⟩
  refine ⟨r, n, ?_, ?_, rfl⟩
  · have hc : ((cntO [x] : Nat) : Int) = if fin x then 1 else 0 := by
      show (((if fin x then 0 + 1 else 0) : Nat) : Int) = _
      cases fin x <;> rfl
    rw [hc]
  · intro hf
    rw [mean_one x hx hf] at hr
    obtain rfl : r = _ := hr
    exact one_eq x hx hf
set_option maxRecDepth 100000 in
set_option maxHeartbeats 2000000 in
theorem turned_none (a b : Int) (w : World) (h : nan a.toNat = true ∨ nan a.toNat = false ∧ nan b.toNat = true) : Calls Try.prog 3 #[.int .u64 a, .int .u64 b] w fun e w' => e = .returned (.bool true) ∧ Below w.heap.size w w' := by
  have hx : (FloatKind.f64.format.order a.toNat a.toNat != some .eq) = nan a.toNat := not_beq_self _
  have hy : (FloatKind.f64.format.order b.toNat b.toNat != some .eq) = nan b.toNat := not_beq_self _
  rcases h with h | ⟨h1, h⟩
  all_goals
    (go_enter Try.func3, Try.ntmps3
     go_wp2_with fail
     refine (speaks_any _).mono ?_
     rintro e w' ⟨o, n, rfl, rfl⟩
     go_wp2_with fail
     refine (nan_any _).mono ?_
     rintro e w' ⟨rfl, rfl⟩
     go_wp2_with fail
     refine (inf_pos _).mono ?_
     rintro e w' ⟨rfl, rfl⟩
     go_wp2_with fail
     refine (inf_neg _).mono ?_
     rintro e w' ⟨rfl, rfl⟩
     go_wp2_with fail
     refine (mean_bad ((w.alloc o).drewN n) (w.heap.size + 1) (by simp)).mono ?_
     rintro e w' ⟨r1, n1, rfl, rfl⟩
     go_wp2
     go_ret
     exact ⟨rfl, below_drewN (below_al (below_drewN (below_al (Below.refl _ _) _) _) _) _⟩)
set_option maxRecDepth 100000 in
set_option maxHeartbeats 2000000 in
theorem turned_some (a b : Int) (w : World) (ha : a.toNat < 18446744073709551616) (hb : b.toNat < 18446744073709551616) (nx : nan a.toNat = false) (ny : nan b.toNat = false) : Calls Try.prog 3 #[.int .u64 a, .int .u64 b] w fun e w' => e = .returned (.bool true) ∧ Below w.heap.size w w' := by
  have hx : (FloatKind.f64.format.order a.toNat a.toNat != some .eq) = nan a.toNat := not_beq_self _
  have hy : (FloatKind.f64.format.order b.toNat b.toNat != some .eq) = nan b.toNat := not_beq_self _
  have HN := Lib.hid (neg_less a.toNat b.toNat ha hb nx ny)
  have HL1 := neg_lt a.toNat ha
  have HL2 := neg_lt b.toNat hb
  have hk := fin_skip a.toNat
  rw [nx] at hk hx
  rw [ny] at hy
  cases hf : fin a.toNat
  · have hi : infB a.toNat = true := by rw [hf] at hk; simpa using hk
    clear hk
    go_enter Try.func3, Try.ntmps3
    go_wp2_with fail
    refine (speaks_any _).mono ?_
    rintro e w' ⟨o, n, rfl, rfl⟩
    go_wp2_with fail
    refine (mean_x a.toNat ha ((w.alloc o).drewN n) (w.heap.size + 1) (by simp)).mono ?_
    rintro e w' ⟨r1, n1, rfl, hr1, rfl⟩
    rw [hf] at hr1 ⊢
    clear hr1
    go_wp2_with fail
    refine (isinf_any a.toNat _ ha).mono ?_
    rintro e w' ⟨rfl, rfl⟩
    rw [hi]
    go_wp2_with fail
    refine (less_any a.toNat b.toNat _ ha hb).mono ?_
    rintro e w' ⟨rfl, rfl⟩
    go_wp2_with fail
    refine (less_any _ _ _ HL2 HL1).mono ?_
    rintro e w' ⟨rfl, rfl⟩
    rw [HN.out]
    go_wp2
    go_ret
    exact ⟨by simp, below_drewN (below_al (below_drewN (below_al (Below.refl _ _) _) _) _) _⟩
  · have hi : infB a.toNat = false := by rw [hf] at hk; simpa using hk
    clear hk
    go_enter Try.func3, Try.ntmps3
    go_wp2_with fail
    refine (speaks_any _).mono ?_
    rintro e w' ⟨o, n, rfl, rfl⟩
    go_wp2_with fail
    refine (mean_x a.toNat ha ((w.alloc o).drewN n) (w.heap.size + 1) (by simp)).mono ?_
    rintro e w' ⟨r1, n1, rfl, hr1, rfl⟩
    rw [hf] at hr1 ⊢
    have hr2 := hr1 rfl
    clear hr1
    go_wp2_with fail
    refine (isinf_any a.toNat _ ha).mono ?_
    rintro e w' ⟨rfl, rfl⟩
    rw [hi]
    go_wp2_with fail
    refine (less_any a.toNat b.toNat _ ha hb).mono ?_
    rintro e w' ⟨rfl, rfl⟩
    go_wp2_with fail
    refine (less_any _ _ _ HL2 HL1).mono ?_
    rintro e w' ⟨rfl, rfl⟩
    rw [HN.out]
    go_wp2
    go_ret
    exact ⟨by simp, below_drewN (below_al (below_drewN (below_al (Below.refl _ _) _) _) _) _⟩
theorem turned_walk (a b : Int) (w : World) (ha : a.toNat < 18446744073709551616) (hb : b.toNat < 18446744073709551616) : Calls Try.prog 3 #[.int .u64 a, .int .u64 b] w fun e w' => e = .returned (.bool true) ∧ Below w.heap.size w w' := by
  cases nx : nan a.toNat
  · cases ny : nan b.toNat
    · exact turned_some a b w ha hb nx ny
    · exact turned_none a b w (.inr ⟨nx, ny⟩)
  · exact turned_none a b w (.inl nx)
end Go.Proofs.Ytdfpfdkpgokflab
