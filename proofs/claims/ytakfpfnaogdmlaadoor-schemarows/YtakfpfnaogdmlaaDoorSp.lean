/-
  speaks answers true. No condition.
-/
import Derived.Test.YtakfpfnaogdmlaaDoorMy
import Derived.Deep.WholeRow
namespace Go.Proofs.YtakfpfnaogdmlaaDoor.A
open Go.RowKit
/-- An Attr in its block. -/
def AAt (w : World) (B : Nat) (n0 n1 n2 n3 n4 n5 n6 n7 n8 n9 n10 n11 n12 n13 n14 n15 n16 : Int) : Prop := w.heap[B]? = some (.cells #[.int .i64 n0, .int .i64 n1, .int .i64 n2, .int .i64 n3, .int .i64 n4, .int .i64 n5, .int .i64 n6, .int .i64 n7, .int .i64 n8, .int .i64 n9, .int .i64 n10, .int .i64 n11, .int .i64 n12, .int .i64 n13, .int .i64 n14, .int .i64 n15, .int .i64 n16] 41 (0, 0))
theorem AAt.lt {w : World} {B : Nat} {n0 n1 n2 n3 n4 n5 n6 n7 n8 n9 n10 n11 n12 n13 n14 n15 n16 : Int} (h : AAt w B n0 n1 n2 n3 n4 n5 n6 n7 n8 n9 n10 n11 n12 n13 n14 n15 n16) : B < w.heap.size := (Array.getElem?_eq_some_iff.1 h).1
theorem AAt.all {w : World} {B : Nat} {n0 n1 n2 n3 n4 n5 n6 n7 n8 n9 n10 n11 n12 n13 n14 n15 n16 : Int} (h : AAt w B n0 n1 n2 n3 n4 n5 n6 n7 n8 n9 n10 n11 n12 n13 n14 n15 n16) : w.cell? ⟨B, 0, none⟩ = some (.int .i64 n0) ∧ w.cell? ⟨B, 1, none⟩ = some (.int .i64 n1) ∧ w.cell? ⟨B, 2, none⟩ = some (.int .i64 n2) ∧ w.cell? ⟨B, 3, none⟩ = some (.int .i64 n3) ∧ w.cell? ⟨B, 4, none⟩ = some (.int .i64 n4) ∧ w.cell? ⟨B, 5, none⟩ = some (.int .i64 n5) ∧ w.cell? ⟨B, 6, none⟩ = some (.int .i64 n6) ∧ w.cell? ⟨B, 7, none⟩ = some (.int .i64 n7) ∧ w.cell? ⟨B, 8, none⟩ = some (.int .i64 n8) ∧ w.cell? ⟨B, 9, none⟩ = some (.int .i64 n9) ∧ w.cell? ⟨B, 10, none⟩ = some (.int .i64 n10) ∧ w.cell? ⟨B, 11, none⟩ = some (.int .i64 n11) ∧ w.cell? ⟨B, 12, none⟩ = some (.int .i64 n12) ∧ w.cell? ⟨B, 13, none⟩ = some (.int .i64 n13) ∧ w.cell? ⟨B, 14, none⟩ = some (.int .i64 n14) ∧ w.cell? ⟨B, 15, none⟩ = some (.int .i64 n15) ∧ w.cell? ⟨B, 16, none⟩ = some (.int .i64 n16) := by
  refine ⟨?_, ?_, ?_, ?_, ?_, ?_, ?_, ?_, ?_, ?_, ?_, ?_, ?_, ?_, ?_, ?_, ?_⟩ <;> (rw [cell_of_row w B _ _ _ _ h]; rfl)
theorem AAt.keep {w w' : World} {B : Nat} {n0 n1 n2 n3 n4 n5 n6 n7 n8 n9 n10 n11 n12 n13 n14 n15 n16 : Int} (h : AAt w B n0 n1 n2 n3 n4 n5 n6 n7 n8 n9 n10 n11 n12 n13 n14 n15 n16) (hb : Below w.heap.size w w') : AAt w' B n0 n1 n2 n3 n4 n5 n6 n7 n8 n9 n10 n11 n12 n13 n14 n15 n16 := (hb.block B h.lt).trans h
theorem one28 (n0 n1 n2 n3 n4 n5 n6 n7 n8 n9 n10 n11 n12 n13 n14 n15 n16 : Int) : (#[.int .i64 n0, .int .i64 n1, .int .i64 n2, .int .i64 n3, .int .i64 n4, .int .i64 n5, .int .i64 n6, .int .i64 n7, .int .i64 n8, .int .i64 n9, .int .i64 n10, .int .i64 n11, .int .i64 n12, .int .i64 n13, .int .i64 n14, .int .i64 n15, .int .i64 n16] : Array Value).all (·.oneCell') = true := by simp [Value.oneCell']
/-- An Attr is stored into a block that was just made. -/
theorem store28 {o : Oper} {a : Act} {w : World} {K : Act → World → Prop} {Q : Exit → Act → World → Prop} (n0 n1 n2 n3 n4 n5 n6 n7 n8 n9 n10 n11 n12 n13 n14 n15 n16 : Int) (x y : Operand) (ho : o.op = .store 41 x y)
    (hx : a.eval x = .pointer (some ⟨w.heap.size, 0, none⟩)) (hy : a.eval y = .agg #[.int .i64 n0, .int .i64 n1, .int .i64 n2, .int .i64 n3, .int .i64 n4, .int .i64 n5, .int .i64 n6, .int .i64 n7, .int .i64 n8, .int .i64 n9, .int .i64 n10, .int .i64 n11, .int .i64 n12, .int .i64 n13, .int .i64 n14, .int .i64 n15, .int .i64 n16]) (h : K (a.put o.dst undef) (w.alloc (.cells #[.int .i64 n0, .int .i64 n1, .int .i64 n2, .int .i64 n3, .int .i64 n4, .int .i64 n5, .int .i64 n6, .int .i64 n7, .int .i64 n8, .int .i64 n9, .int .i64 n10, .int .i64 n11, .int .i64 n12, .int .i64 n13, .int .i64 n14, .int .i64 n15, .int .i64 n16] 41))) :
    o.wp Tryd.prog a (w.alloc (.cells #[.int .i64 0, .int .i64 0, .int .i64 0, .int .i64 0, .int .i64 0, .int .i64 0, .int .i64 0, .int .i64 0, .int .i64 0, .int .i64 0, .int .i64 0, .int .i64 0, .int .i64 0, .int .i64 0, .int .i64 0, .int .i64 0, .int .i64 0] 41)) K Q := by
  refine wp_store_row 41 x y ho w.heap.size #[.int .i64 n0, .int .i64 n1, .int .i64 n2, .int .i64 n3, .int .i64 n4, .int .i64 n5, .int .i64 n6, .int .i64 n7, .int .i64 n8, .int .i64 n9, .int .i64 n10, .int .i64 n11, .int .i64 n12, .int .i64 n13, .int .i64 n14, .int .i64 n15, .int .i64 n16] hx hy 41 #[.int .i64 0, .int .i64 0, .int .i64 0, .int .i64 0, .int .i64 0, .int .i64 0, .int .i64 0, .int .i64 0, .int .i64 0, .int .i64 0, .int .i64 0, .int .i64 0, .int .i64 0, .int .i64 0, .int .i64 0, .int .i64 0, .int .i64 0] (heap_alloc_last w _) (by kernel_rfl) rfl (one28 n0 n1 n2 n3 n4 n5 n6 n7 n8 n9 n10 n11 n12 n13 n14 n15 n16) ?_
  rw [World.setRow_alloc_new]
  exact h
/-- An Attr is stored into its block. -/
theorem store28_at {o : Oper} {a : Act} {w : World} {K : Act → World → Prop} {Q : Exit → Act → World → Prop} (B : Nat) (n0 n1 n2 n3 n4 n5 n6 n7 n8 n9 n10 n11 n12 n13 n14 n15 n16 m0 m1 m2 m3 m4 m5 m6 m7 m8 m9 m10 m11 m12 m13 m14 m15 m16 : Int) (hg : AAt w B m0 m1 m2 m3 m4 m5 m6 m7 m8 m9 m10 m11 m12 m13 m14 m15 m16) (x y : Operand) (ho : o.op = .store 41 x y)
    (hx : a.eval x = .pointer (some ⟨B, 0, none⟩)) (hy : a.eval y = .agg #[.int .i64 n0, .int .i64 n1, .int .i64 n2, .int .i64 n3, .int .i64 n4, .int .i64 n5, .int .i64 n6, .int .i64 n7, .int .i64 n8, .int .i64 n9, .int .i64 n10, .int .i64 n11, .int .i64 n12, .int .i64 n13, .int .i64 n14, .int .i64 n15, .int .i64 n16]) (h : K (a.put o.dst undef) (w.setRow B #[.int .i64 n0, .int .i64 n1, .int .i64 n2, .int .i64 n3, .int .i64 n4, .int .i64 n5, .int .i64 n6, .int .i64 n7, .int .i64 n8, .int .i64 n9, .int .i64 n10, .int .i64 n11, .int .i64 n12, .int .i64 n13, .int .i64 n14, .int .i64 n15, .int .i64 n16])) :
    o.wp Tryd.prog a w K Q :=
  wp_store_row 41 x y ho B #[.int .i64 n0, .int .i64 n1, .int .i64 n2, .int .i64 n3, .int .i64 n4, .int .i64 n5, .int .i64 n6, .int .i64 n7, .int .i64 n8, .int .i64 n9, .int .i64 n10, .int .i64 n11, .int .i64 n12, .int .i64 n13, .int .i64 n14, .int .i64 n15, .int .i64 n16] hx hy 41 _ hg (by kernel_rfl) rfl (one28 n0 n1 n2 n3 n4 n5 n6 n7 n8 n9 n10 n11 n12 n13 n14 n15 n16) h
/-- An Attr is read. -/
theorem load28 {o : Oper} {a : Act} {w : World} {K : Act → World → Prop} {Q : Exit → Act → World → Prop} {B : Nat} {n0 n1 n2 n3 n4 n5 n6 n7 n8 n9 n10 n11 n12 n13 n14 n15 n16 : Int} (hg : AAt w B n0 n1 n2 n3 n4 n5 n6 n7 n8 n9 n10 n11 n12 n13 n14 n15 n16) (x : Operand) (ho : o.op = .load 41 x)
    (hx : a.eval x = .pointer (some ⟨B, 0, none⟩)) (h : K (a.put o.dst (.agg #[.int .i64 n0, .int .i64 n1, .int .i64 n2, .int .i64 n3, .int .i64 n4, .int .i64 n5, .int .i64 n6, .int .i64 n7, .int .i64 n8, .int .i64 n9, .int .i64 n10, .int .i64 n11, .int .i64 n12, .int .i64 n13, .int .i64 n14, .int .i64 n15, .int .i64 n16])) w) : o.wp Tryd.prog a w K Q :=
  wp_load_row 41 x ho B hx 41 _ (0, 0) _ hg Tryd.underlying41 rfl (by kernel_rfl) h
/-- The same behind a guard that lets by. -/
theorem load28g {ops : Array Oper} {rest : List Oper} {o : Oper} {a : Act} {w : World} {Q : Exit → Act → World → Prop} {B : Nat} {n0 n1 n2 n3 n4 n5 n6 n7 n8 n9 n10 n11 n12 n13 n14 n15 n16 : Int} (hg : AAt w B n0 n1 n2 n3 n4 n5 n6 n7 n8 n9 n10 n11 n12 n13 n14 n15 n16) (x : Operand) (ho : o.op = .load 41 x)
    (hw : Region.wanted o (yielded ops a.tmps) = true) (hx : a.eval x = .pointer (some ⟨B, 0, none⟩)) (h : wpList Tryd.prog ops Q rest (a.put o.dst (.agg #[.int .i64 n0, .int .i64 n1, .int .i64 n2, .int .i64 n3, .int .i64 n4, .int .i64 n5, .int .i64 n6, .int .i64 n7, .int .i64 n8, .int .i64 n9, .int .i64 n10, .int .i64 n11, .int .i64 n12, .int .i64 n13, .int .i64 n14, .int .i64 n15, .int .i64 n16])) w) : wpList Tryd.prog ops Q (o :: rest) a w :=
  wpList_step fun K hK => by rw [if_pos hw]; exact load28 hg x ho hx (hK _ _ h)
theorem AAt.new (w : World) (n0 n1 n2 n3 n4 n5 n6 n7 n8 n9 n10 n11 n12 n13 n14 n15 n16 : Int) : AAt (w.alloc (.cells #[.int .i64 n0, .int .i64 n1, .int .i64 n2, .int .i64 n3, .int .i64 n4, .int .i64 n5, .int .i64 n6, .int .i64 n7, .int .i64 n8, .int .i64 n9, .int .i64 n10, .int .i64 n11, .int .i64 n12, .int .i64 n13, .int .i64 n14, .int .i64 n15, .int .i64 n16] 41)) w.heap.size n0 n1 n2 n3 n4 n5 n6 n7 n8 n9 n10 n11 n12 n13 n14 n15 n16 := heap_alloc_new w _
theorem AAt.set {w : World} {B : Nat} {m0 m1 m2 m3 m4 m5 m6 m7 m8 m9 m10 m11 m12 m13 m14 m15 m16 : Int} (h : AAt w B m0 m1 m2 m3 m4 m5 m6 m7 m8 m9 m10 m11 m12 m13 m14 m15 m16) (n0 n1 n2 n3 n4 n5 n6 n7 n8 n9 n10 n11 n12 n13 n14 n15 n16 : Int) : AAt (w.setRow B #[.int .i64 n0, .int .i64 n1, .int .i64 n2, .int .i64 n3, .int .i64 n4, .int .i64 n5, .int .i64 n6, .int .i64 n7, .int .i64 n8, .int .i64 n9, .int .i64 n10, .int .i64 n11, .int .i64 n12, .int .i64 n13, .int .i64 n14, .int .i64 n15, .int .i64 n16]) B n0 n1 n2 n3 n4 n5 n6 n7 n8 n9 n10 n11 n12 n13 n14 n15 n16 := by
  unfold AAt at h ⊢
  simp [World.setRow, Array.getElem?_modify, h]
set_option maxRecDepth 100000 in
set_option maxHeartbeats 1000000 in
theorem speaks_any (w : World) : Calls Tryd.prog 9 #[] w fun e w' => e = .returned (.bool true) ∧ Below w.heap.size w w' := by
  have e1 : mayB 416 5 6 5 9 [] 4 = true := by decide
  have e2 : mayB 416 5 6 7 6 [] 4 = true := by decide
  have e3 : mayB 416 5 6 7 7 [] 4 = false := by decide
  go_enter Tryd.func9, Tryd.ntmps9
  go_wp2_with (first
    | (refine store28 0 416 0 5 6 0 0 0 0 0 0 0 0 0 0 0 0 _ _ rfl rfl rfl ?_)
    | (refine load28 (AAt.new _ 0 416 0 5 6 0 0 0 0 0 0 0 0 0 0 0 0) _ rfl rfl ?_))
  have HA0 := Lib.hid (AAt.new w 0 416 0 5 6 0 0 0 0 0 0 0 0 0 0 0 0)
  have HB0 := Lib.hid ((Below.refl w.heap.size w).alloc (Nat.le_refl _) (.cells #[.int .i64 0, .int .i64 416, .int .i64 0, .int .i64 5, .int .i64 6, .int .i64 0, .int .i64 0, .int .i64 0, .int .i64 0, .int .i64 0, .int .i64 0, .int .i64 0, .int .i64 0, .int .i64 0, .int .i64 0, .int .i64 0, .int .i64 0] 41))
  generalize w.alloc (.cells #[.int .i64 0, .int .i64 416, .int .i64 0, .int .i64 5, .int .i64 6, .int .i64 0, .int .i64 0, .int .i64 0, .int .i64 0, .int .i64 0, .int .i64 0, .int .i64 0, .int .i64 0, .int .i64 0, .int .i64 0, .int .i64 0, .int .i64 0] 41) = W at *
  refine (may_any 0 416 0 5 6 0 0 0 0 0 0 0 0 0 0 0 0 5 9 4 [] none 0 W (fun i hi => absurd hi (by simp)) (by decide)).mono ?_
  rintro e w1 ⟨rfl, hB1⟩
  rw [e1]
  have HA1 := Lib.hid (HA0.out.keep hB1)
  have HB1 := Lib.hid (HB0.out.trans (hB1.mono HB0.out.size))
  clear hB1 HA0 HB0
  go_wp2_with (refine load28g HA1.out _ rfl rfl rfl ?_)
  refine (may_any 0 416 0 5 6 0 0 0 0 0 0 0 0 0 0 0 0 7 6 4 [] none 0 w1 (fun i hi => absurd hi (by simp)) (by decide)).mono ?_
  rintro e w2 ⟨rfl, hB1⟩
  rw [e2]
  have HA2 := Lib.hid (HA1.out.keep hB1)
  have HB2 := Lib.hid (HB1.out.trans (hB1.mono HB1.out.size))
  clear hB1 HA1 HB1
  go_wp2_with (refine load28g HA2.out _ rfl rfl rfl ?_)
  refine (may_any 0 416 0 5 6 0 0 0 0 0 0 0 0 0 0 0 0 7 7 4 [] none 0 w2 (fun i hi => absurd hi (by simp)) (by decide)).mono ?_
  rintro e w3 ⟨rfl, hB1⟩
  rw [e3]
  have HB3 := Lib.hid (HB2.out.trans (hB1.mono HB2.out.size))
  go_wp2
  go_ret
  exact ⟨rfl, HB3.out⟩
end Go.Proofs.YtakfpfnaogdmlaaDoor.A
