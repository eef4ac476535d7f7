/-
  The taker's sign, as long as the rows in it are told. Its condition: there is room.
-/
import Derived.Test.YtjogcdkebplcpaaGreatDoorTi
import Derived.Deep.RegionHeld3
import Derived.Deep.RegionWith
namespace Go.Proofs.YtjogcdkebplcpaaGreatDoor
open Go.RowKit Sch
section
variable {B0 p q : Nat} {N : List Int} {T : List ByteArray} {l : List UInt8} {e : Int} {w w' : World}
theorem TkS.later (h : TkS B0 p q N T l e w) (hb : Below w.heap.size w w') : TkS B0 p q N T l e w' := by
  obtain ⟨⟨vN, vT, hB⟩, hr⟩ := h
  refine ⟨⟨vN, vT, hB.kept (hb.block p hB.lt) fun k cur t _ hk => hb.block k (Array.getElem?_eq_some_iff.1 hk).1⟩, rd_kept hr fun k cur t fr _ hk => hb.block k (Array.getElem?_eq_some_iff.1 hk).1⟩
theorem TkS.alloc (h : TkS B0 p q N T l e w) (o : Obj) : TkS B0 p q N T l e (w.alloc o) := h.later ((Below.refl _ _).alloc (Nat.le_refl _) o)
theorem TkS.drew (h : TkS B0 p q N T l e w) : TkS B0 p q N T l e w.drew := h.later (Below.refl _ _).drew
theorem only_undrew (h : X.Only q w.drew w') : X.Only q w w' := ⟨h.os, h.tape, h.output, h.size, h.block⟩
theorem below_undrew {B : Nat} (h : Below B w.drew w') : Below B w w' := ⟨h.os, h.tape, h.output, h.size, h.block⟩
theorem TkS.plt (h : TkS B0 p q N T l e w) : p < w.heap.size ∧ B0 ≤ p := by
  obtain ⟨⟨vN, vT, hB⟩, hr⟩ := h
  exact ⟨hB.lt, hB.hp⟩
end
theorem fixR_err (n : Int) (l : List UInt8) : (X.fixR n l 0).2.2 = 0 ∨ (X.fixR n l 0).2.2 = 4 ∨ (X.fixR n l 0).2.2 = 5 := by
  unfold X.fixR X.failE
  split
  · simp
  · split
    · simp
    · split <;> simp
theorem fixR_five (n : Int) (l : List UInt8) : (X.fixR n l 5).2.2 = 5 := by
  unfold X.fixR X.failE
  split
  · simp
  · split
    · simp
    · split <;> simp
theorem opqR_err (n : Int) (l : List UInt8) : (X.opqR n l 0).2.2 ≠ 6 := by
  unfold X.opqR
  have h := numR_err 4 l
  generalize X.numR 4 l 0 = y at *
  obtain ⟨a, b, c⟩ := y
  dsimp only at h ⊢
  rcases h with rfl | rfl
  · by_cases h2 : (if n < 0 then 0 else n) < a
    · rw [if_pos h2]; simp [X.failE]
    · rw [if_neg h2]; have := fixR_err a b; omega
  · by_cases h2 : (if n < 0 then 0 else n) < a
    · rw [if_pos h2]; simp [X.failE]
    · rw [if_neg h2, fixR_five]; decide
set_option maxRecDepth 100000 in
set_option maxHeartbeats 1000000 in
theorem sign_u (B0 p q : Nat) (N : List Int) (T : List ByteArray) (l : List UInt8) (w : World) (h : TkS B0 p q N T l 0 w) (hl : l.length ≤ 65536) (hN : N.length ≤ 1000000000) (x : Tr) (hx : oneT 117 l = x) :
    Calls Tryz.prog 47 #[.pointer (some ⟨p, 0, none⟩), .agg #[.int .u8 117, .int .i64 0, nilS, nilS]] w (TkTo B0 p q N T w x) := by
  have hx' : ofN (X.numR 4 l 0) = x := by rw [← hx]; rfl
  clear hx
  have HX := Lib.hid hx'
  clear hx'
  have HS := Lib.hid (h.alloc (.cells #[.int .u8 117, .int .i64 0, nilS, nilS] 92))
  have HB := Lib.hid ((FrT.refl B0 w).alloc (by have := h.plt; omega) (.cells #[.int .u8 117, .int .i64 0, nilS, nilS] 92))
  have c0 := HS.out.c0
  have hp := h.plt.1
  clear h
  have he := numR_err 4 l
  go_enter Tryz.func47, Tryz.ntmps47
  go_wp2_with fail
  refine (X.ruint_any q l 0 _ HS.out.2 (by omega)).mono ?_
  rintro r w1 ⟨rfl, hR1, hO1⟩
  have HS1 := Lib.hid (HS.out.only hR1 hO1)
  have HB1 := Lib.hid (HB.out.trans (HS.out.below hO1))
  clear hR1 hO1
  go_wp2_with fail
  refine (keep_any B0 p q N T _ _ _ w1 HS1.out (by omega) (by omega)).mono ?_
  have hx := HX.out
  rw [show ((X.numR 4 l 0).1, (X.numR 4 l 0).2.1, (X.numR 4 l 0).2.2) = X.numR 4 l 0 from rfl, hx]
  rintro r w2 ⟨hB2, hr⟩
  have HB2 := Lib.hid (HB1.out.trans hB2)
  clear hB2
  cases x with
  | error e =>
    simp only at hr
    subst hr
    go_wp2
    exact ⟨rfl, HB2.out, rfl⟩
  | ok y =>
    obtain ⟨n, t, l2⟩ := y
    obtain ⟨rfl, hS2⟩ := hr
    have HS2 := Lib.hid hS2
    clear hS2
    go_wp2
    go_end0
    exact ⟨HB2.out, rfl, HS2.out⟩
set_option maxRecDepth 100000 in
set_option maxHeartbeats 1000000 in
theorem sign_q (B0 p q : Nat) (N : List Int) (T : List ByteArray) (l : List UInt8) (w : World) (h : TkS B0 p q N T l 0 w) (hl : l.length ≤ 65536) (hN : N.length ≤ 1000000000) (x : Tr) (hx : oneT 113 l = x) :
    Calls Tryz.prog 47 #[.pointer (some ⟨p, 0, none⟩), .agg #[.int .u8 113, .int .i64 0, nilS, nilS]] w (TkTo B0 p q N T w x) := by
  have hx' : ofN (X.numR 8 l 0) = x := by rw [← hx]; rfl
  clear hx
  have HX := Lib.hid hx'
  clear hx'
  have HS := Lib.hid (h.alloc (.cells #[.int .u8 113, .int .i64 0, nilS, nilS] 92))
  have HB := Lib.hid ((FrT.refl B0 w).alloc (by have := h.plt; omega) (.cells #[.int .u8 113, .int .i64 0, nilS, nilS] 92))
  have c0 := HS.out.c0
  have hp := h.plt.1
  clear h
  have he := numR_err 8 l
  go_enter Tryz.func47, Tryz.ntmps47
  go_wp2_with fail
  refine (X.rhyper_any q l 0 _ HS.out.2 (by omega)).mono ?_
  rintro r w1 ⟨rfl, hR1, hO1⟩
  have HS1 := Lib.hid (HS.out.only hR1 hO1)
  have HB1 := Lib.hid (HB.out.trans (HS.out.below hO1))
  clear hR1 hO1
  go_wp2_with fail
  refine (keep_any B0 p q N T _ _ _ w1 HS1.out (by omega) (by omega)).mono ?_
  have hx := HX.out
  rw [show ((X.numR 8 l 0).1, (X.numR 8 l 0).2.1, (X.numR 8 l 0).2.2) = X.numR 8 l 0 from rfl, hx]
  rintro r w2 ⟨hB2, hr⟩
  have HB2 := Lib.hid (HB1.out.trans hB2)
  clear hB2
  cases x with
  | error e =>
    simp only at hr
    subst hr
    go_wp2
    exact ⟨rfl, HB2.out, rfl⟩
  | ok y =>
    obtain ⟨n, t, l2⟩ := y
    obtain ⟨rfl, hS2⟩ := hr
    have HS2 := Lib.hid hS2
    clear hS2
    go_wp2
    go_end0
    exact ⟨HB2.out, rfl, HS2.out⟩
set_option maxRecDepth 100000 in
set_option maxHeartbeats 1000000 in
theorem sign_b (B0 p q : Nat) (N : List Int) (T : List ByteArray) (l : List UInt8) (w : World) (h : TkS B0 p q N T l 0 w) (hl : l.length ≤ 65536) (hN : N.length ≤ 1000000000) (x : Tr) (hx : oneT 98 l = x) :
    Calls Tryz.prog 47 #[.pointer (some ⟨p, 0, none⟩), .agg #[.int .u8 98, .int .i64 0, nilS, nilS]] w (TkTo B0 p q N T w x) := by
  have hx' : ofN (boolN l) = x := by rw [← hx]; rfl
  clear hx
  have HX := Lib.hid hx'
  clear hx'
  have HS := Lib.hid (h.alloc (.cells #[.int .u8 98, .int .i64 0, nilS, nilS] 92))
  have HB := Lib.hid ((FrT.refl B0 w).alloc (by have := h.plt; omega) (.cells #[.int .u8 98, .int .i64 0, nilS, nilS] 92))
  have c0 := HS.out.c0
  have hp := h.plt.1
  clear h
  go_enter Tryz.func47, Tryz.ntmps47
  go_wp2_with fail
  refine (keepBool_any B0 p q N T l _ HS.out hl (by omega) _ x rfl HX.out).mono ?_
  rintro r w2 ⟨hB2, hr⟩
  have HB2 := Lib.hid (HB.out.trans hB2)
  clear hB2
  cases x with
  | error e =>
    simp only at hr
    subst hr
    go_wp2
    exact ⟨rfl, HB2.out, rfl⟩
  | ok y =>
    obtain ⟨n, t, l2⟩ := y
    obtain ⟨rfl, hS2⟩ := hr
    have HS2 := Lib.hid hS2
    clear hS2
    go_wp2
    go_end0
    exact ⟨HB2.out, rfl, HS2.out⟩
set_option maxRecDepth 100000 in
set_option maxHeartbeats 2000000 in
theorem sign_o (n : Nat) (_hn : n ≤ 99999) (B0 p q : Nat) (N : List Int) (T : List ByteArray) (l : List UInt8) (w : World) (h : TkS B0 p q N T l 0 w) (hl : l.length ≤ 65536) (hT : T.length ≤ 1000000000) (x : Tr) (hx : numT 111 n l = x) :
    Calls Tryz.prog 47 #[.pointer (some ⟨p, 0, none⟩), .agg #[.int .u8 111, .int .i64 n, nilS, nilS]] w (TkTo B0 p q N T w x) := by
  have hx' : ofT (X.opqR n l 0) = x := by rw [← hx]; rfl
  clear hx
  have HX := Lib.hid hx'
  clear hx'
  have HS := Lib.hid (h.alloc (.cells #[.int .u8 111, .int .i64 n, nilS, nilS] 92))
  have HB := Lib.hid ((FrT.refl B0 w).alloc (by have := h.plt; omega) (.cells #[.int .u8 111, .int .i64 n, nilS, nilS] 92))
  have c0 := HS.out.c0
  have hp := h.plt.1
  clear h
  have he : (X.opqR n l 0).2.2 ≠ 6 := opqR_err n l
  have HE := Lib.hid he
  clear he
  have k1 : (w.alloc (.cells #[.int .u8 111, .int .i64 n, nilS, nilS] 92)).cell? ⟨w.heap.size, 1, none⟩ = some (.int .i64 n) := by rw [cell_of_row _ _ _ _ _ _ (heap_alloc_new w (.cells #[.int .u8 111, .int .i64 n, nilS, nilS] 92))]; rfl
  have HK := Lib.hid (heap_alloc_new w (.cells #[.int .u8 111, .int .i64 n, nilS, nilS] 92))
  have hne : w.heap.size ≠ q := fun e => by
    obtain ⟨_, v, g1, _⟩ := HS.out
    subst e
    exact absurd (blk_type g1 HK.out) (by decide)
  go_enter Tryz.func47, Tryz.ntmps47
  go_wp2_with fail
  cases x with
  | error e =>
    have hx := HX.out
    go_region_with (first | (go_at_call 60; refine (X.ropaque_any q l 0 n _ HS.out.drew.2 (by omega)).mono ?_; rintro r w1 ⟨rfl, hR1, hO1⟩; have hS1 := HS.out.only hR1 (only_undrew hO1); have hB1 := HB.out.trans (HS.out.below (only_undrew hO1)); have c1 := hS1.c0; have k2 : w1.cell? ⟨w.heap.size, 1, none⟩ = some (.int .i64 n) := (World.cell?_of_block (a := ⟨w.heap.size, 1, none⟩) (hO1.block _ hne)).trans k1) | (go_at_call 59; refine (keepText_any B0 p q N T (X.opqR n l 0).2.1 (X.opqR n l 0).2.2 (X.opqR n l 0).1 _ hS1 HE.out (by omega)).mono ?_; rw [show ((X.opqR n l 0).1, (X.opqR n l 0).2.1, (X.opqR n l 0).2.2) = X.opqR n l 0 from rfl, hx]; (intro r w2 hr); cases r; (case panicked c => exact ⟨rfl, hB1.trans hr.1, hr.2⟩); (case outgrown => exact absurd hr.2 (by simp)); (have HRR := Lib.hid hr); (clear hr)))
    all_goals exact absurd HRR.out.2 (by simp)
  | ok y =>
    obtain ⟨n2, t2, l2⟩ := y
    have hx := HX.out
    go_region_with (first | (go_at_call 60; refine (X.ropaque_any q l 0 n _ HS.out.drew.2 (by omega)).mono ?_; rintro r w1 ⟨rfl, hR1, hO1⟩; have hS1 := HS.out.only hR1 (only_undrew hO1); have hB1 := HB.out.trans (HS.out.below (only_undrew hO1)); have c1 := hS1.c0; have k2 : w1.cell? ⟨w.heap.size, 1, none⟩ = some (.int .i64 n) := (World.cell?_of_block (a := ⟨w.heap.size, 1, none⟩) (hO1.block _ hne)).trans k1) | (go_at_call 59; refine (keepText_any B0 p q N T (X.opqR n l 0).2.1 (X.opqR n l 0).2.2 (X.opqR n l 0).1 _ hS1 HE.out (by omega)).mono ?_; rw [show ((X.opqR n l 0).1, (X.opqR n l 0).2.1, (X.opqR n l 0).2.2) = X.opqR n l 0 from rfl, hx]; rintro r w2 ⟨hB2, rfl, hS2⟩; have hB3 := hB1.trans hB2))
    all_goals
      go_wp2
      go_end0
      exact ⟨hB3, rfl, hS2⟩
set_option maxRecDepth 100000 in
set_option maxHeartbeats 2000000 in
theorem sign_f (n : Nat) (hn : n ≤ 99999) (B0 p q : Nat) (N : List Int) (T : List ByteArray) (l : List UInt8) (w : World) (h : TkS B0 p q N T l 0 w) (hl : l.length ≤ 65536) (hT : T.length ≤ 1000000000) (x : Tr) (hx : numT 102 n l = x) :
    Calls Tryz.prog 47 #[.pointer (some ⟨p, 0, none⟩), .agg #[.int .u8 102, .int .i64 n, nilS, nilS]] w (TkTo B0 p q N T w x) := by
  have hx' : ofT (X.fixR n l 0) = x := by rw [← hx]; rfl
  clear hx
  have HX := Lib.hid hx'
  clear hx'
  have HS := Lib.hid (h.alloc (.cells #[.int .u8 102, .int .i64 n, nilS, nilS] 92))
  have HB := Lib.hid ((FrT.refl B0 w).alloc (by have := h.plt; omega) (.cells #[.int .u8 102, .int .i64 n, nilS, nilS] 92))
  have c0 := HS.out.c0
  have hp := h.plt.1
  clear h
  have he : (X.fixR n l 0).2.2 ≠ 6 := (by have := fixR_err n l; omega)
  have HE := Lib.hid he
  clear he
  have k1 : (w.alloc (.cells #[.int .u8 102, .int .i64 n, nilS, nilS] 92)).cell? ⟨w.heap.size, 1, none⟩ = some (.int .i64 n) := by rw [cell_of_row _ _ _ _ _ _ (heap_alloc_new w (.cells #[.int .u8 102, .int .i64 n, nilS, nilS] 92))]; rfl
  have HK := Lib.hid (heap_alloc_new w (.cells #[.int .u8 102, .int .i64 n, nilS, nilS] 92))
  have hne : w.heap.size ≠ q := fun e => by
    obtain ⟨_, v, g1, _⟩ := HS.out
    subst e
    exact absurd (blk_type g1 HK.out) (by decide)
  go_enter Tryz.func47, Tryz.ntmps47
  go_wp2_with fail
  cases x with
  | error e =>
    have hx := HX.out
    go_region_with (first | (go_at_call 61; refine (X.rfixed_any q l 0 n _ HS.out.drew.2 (by omega) (by omega)).mono ?_; rintro r w1 ⟨rfl, hR1, hO1⟩; have hS1 := HS.out.only hR1 (only_undrew hO1); have hB1 := HB.out.trans (HS.out.below (only_undrew hO1)); have c1 := hS1.c0; have k2 : w1.cell? ⟨w.heap.size, 1, none⟩ = some (.int .i64 n) := (World.cell?_of_block (a := ⟨w.heap.size, 1, none⟩) (hO1.block _ hne)).trans k1) | (go_at_call 59; refine (keepText_any B0 p q N T (X.fixR n l 0).2.1 (X.fixR n l 0).2.2 (X.fixR n l 0).1 _ hS1 HE.out (by omega)).mono ?_; rw [show ((X.fixR n l 0).1, (X.fixR n l 0).2.1, (X.fixR n l 0).2.2) = X.fixR n l 0 from rfl, hx]; (intro r w2 hr); cases r; (case panicked c => exact ⟨rfl, hB1.trans hr.1, hr.2⟩); (case outgrown => exact absurd hr.2 (by simp)); (have HRR := Lib.hid hr); (clear hr)))
    all_goals exact absurd HRR.out.2 (by simp)
  | ok y =>
    obtain ⟨n2, t2, l2⟩ := y
    have hx := HX.out
    go_region_with (first | (go_at_call 61; refine (X.rfixed_any q l 0 n _ HS.out.drew.2 (by omega) (by omega)).mono ?_; rintro r w1 ⟨rfl, hR1, hO1⟩; have hS1 := HS.out.only hR1 (only_undrew hO1); have hB1 := HB.out.trans (HS.out.below (only_undrew hO1)); have c1 := hS1.c0; have k2 : w1.cell? ⟨w.heap.size, 1, none⟩ = some (.int .i64 n) := (World.cell?_of_block (a := ⟨w.heap.size, 1, none⟩) (hO1.block _ hne)).trans k1) | (go_at_call 59; refine (keepText_any B0 p q N T (X.fixR n l 0).2.1 (X.fixR n l 0).2.2 (X.fixR n l 0).1 _ hS1 HE.out (by omega)).mono ?_; rw [show ((X.fixR n l 0).1, (X.fixR n l 0).2.1, (X.fixR n l 0).2.2) = X.fixR n l 0 from rfl, hx]; rintro r w2 ⟨hB2, rfl, hS2⟩; have hB3 := hB1.trans hB2))
    all_goals
      go_wp2
      go_end0
      exact ⟨hB3, rfl, hS2⟩
end Go.Proofs.YtjogcdkebplcpaaGreatDoor
