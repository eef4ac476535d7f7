/-
  AttrPuts' walk: it answers true, and makes new blocks alone. Its condition: the numbers behind are no longer than memory.
-/
import Derived.Test.YtedcgmagkkoggaaGp
namespace Go.Proofs.Ytedcgmagkkoggaa
open Go.RowKit
set_option maxRecDepth 100000 in
set_option maxHeartbeats 2000000 in
@[go_sem] theorem eq28 (n0 n1 n2 n3 n4 n5 n6 n7 n8 n9 n10 n11 n12 n13 n14 n15 n16 : Int) (w : World) : (Op.equalIn 10000 28 (.agg #[.int .i64 n0, .int .i64 n1, .int .i64 n2, .int .i64 n3, .int .i64 n4, .int .i64 n5, .int .i64 n6, .int .i64 n7, .int .i64 n8, .int .i64 n9, .int .i64 n10, .int .i64 n11, .int .i64 n12, .int .i64 n13, .int .i64 n14, .int .i64 n15, .int .i64 n16]) (.agg #[.int .i64 n0, .int .i64 n1, .int .i64 n2, .int .i64 n3, .int .i64 n4, .int .i64 n5, .int .i64 n6, .int .i64 n7, .int .i64 n8, .int .i64 n9, .int .i64 n10, .int .i64 n11, .int .i64 n12, .int .i64 n13, .int .i64 n14, .int .i64 n15, .int .i64 n16])).run Try.prog w = .ok true w := by
  have u3 := Try.underlying3
  have hS : Try.prog.underlying 28 = some (.struct (Try.prog.fieldsOf 28)) := by kernel_rfl
  have hp : Try.prog.stoodInHeld 28 = false := by kernel_rfl
  rw [show (10000 : Nat) = 9999 + 1 from rfl, run_equalIn_agg w 9999 28 _ _ hS hp]
  simp only [Program.fieldsOf, Try.underlying28]
  go_simp
theorem list_app {ops : Array Oper} {rest : List Oper} {o : Oper} {a : Act} {w : World} {Q : Exit → Act → World → Prop} (hgd : o.guard = none) (s x : Operand) (ho : o.op = .call { callee := .builtin .append, args := #[s, x], argTypes := #[23, 23] })
    (B : Nat) (v : Value) (xs : List Int) (hs : a.eval s = v) (hown : w.ownsRow B 3 1 v xs.length (ints xs)) (ao : Option Addr) (L : List Int) (cap : Nat) (hx : a.eval x = .slice ao L.length cap) (hI : IntsAt w ao L)
    (hsz : (xs.length + L.length) * 8 ≤ 140737488355328) (hB : B ≤ w.heap.size) (h : ∀ v' w', AppTo B w v (xs ++ L) v' w' → wpList Try.prog ops Q rest (a.put o.dst v') w') : wpList Try.prog ops Q (o :: rest) a w :=
  wpList_plain hgd fun _ hK => wp_app s x ho B v xs hs hown ao L cap hx hI hsz hB fun v' w' hT => hK _ _ (h v' w' hT)
theorem own_form {w : World} {B : Nat} {v : Value} {G : List Int} (h : w.ownsRow B 3 1 v G.length (ints G)) : ∃ ao cap, v = .slice ao G.length cap ∧ IntsAt w ao G ∧ G.length ≤ cap ∧ cap ≤ 9223372036854775807 := by
  obtain ⟨ao, cap, rfl, hI, hc, _⟩ := ints_of_own h
  refine ⟨ao, cap, rfl, hI, hc, ?_⟩
  rcases h.2 with ⟨e, _⟩ | ⟨g, c, cur, e, _, _, _, hm, _⟩
  · injection e with _ _ e; omega
  · injection e with _ _ e; subst e; unfold maxLen at hm; omega
/-- What the walk keeps. -/
structure Kp (w0 : World) (X : Nat) (n0 n1 n2 n3 n4 n5 n6 n7 n8 n9 n10 n11 n12 n13 n14 n15 n16 : Int) (mo : Option Addr) (M : List Int) (w : World) : Prop where
  x : w.heap[X]? = some (.cells #[.int .i64 n0, .int .i64 n1, .int .i64 n2, .int .i64 n3, .int .i64 n4, .int .i64 n5, .int .i64 n6, .int .i64 n7, .int .i64 n8, .int .i64 n9, .int .i64 n10, .int .i64 n11, .int .i64 n12, .int .i64 n13, .int .i64 n14, .int .i64 n15, .int .i64 n16] 22 (0, 0))
  m : IntsAt w mo M
  low : Below w0.heap.size w0 w
theorem Kp.step {w0 w w' : World} {X : Nat} {n0 n1 n2 n3 n4 n5 n6 n7 n8 n9 n10 n11 n12 n13 n14 n15 n16 : Int} {mo : Option Addr} {M : List Int} (h : Kp w0 X n0 n1 n2 n3 n4 n5 n6 n7 n8 n9 n10 n11 n12 n13 n14 n15 n16 mo M w) (hb : Below w.heap.size w w') : Kp w0 X n0 n1 n2 n3 n4 n5 n6 n7 n8 n9 n10 n11 n12 n13 n14 n15 n16 mo M w' :=
  ⟨(hb.block X (Array.getElem?_eq_some_iff.1 h.x).1).trans h.x, h.m.below hb, h.low.trans (hb.mono h.low.size)⟩
theorem Kp.all {w0 w : World} {B : Nat} {n0 n1 n2 n3 n4 n5 n6 n7 n8 n9 n10 n11 n12 n13 n14 n15 n16 : Int} {mo : Option Addr} {M : List Int} (h : Kp w0 B n0 n1 n2 n3 n4 n5 n6 n7 n8 n9 n10 n11 n12 n13 n14 n15 n16 mo M w) : w.cell? ⟨B, 0, none⟩ = some (.int .i64 n0) ∧ w.cell? ⟨B, 1, none⟩ = some (.int .i64 n1) ∧ w.cell? ⟨B, 2, none⟩ = some (.int .i64 n2) ∧ w.cell? ⟨B, 3, none⟩ = some (.int .i64 n3) ∧ w.cell? ⟨B, 4, none⟩ = some (.int .i64 n4) ∧ w.cell? ⟨B, 5, none⟩ = some (.int .i64 n5) ∧ w.cell? ⟨B, 6, none⟩ = some (.int .i64 n6) ∧ w.cell? ⟨B, 7, none⟩ = some (.int .i64 n7) ∧ w.cell? ⟨B, 8, none⟩ = some (.int .i64 n8) ∧ w.cell? ⟨B, 9, none⟩ = some (.int .i64 n9) ∧ w.cell? ⟨B, 10, none⟩ = some (.int .i64 n10) ∧ w.cell? ⟨B, 11, none⟩ = some (.int .i64 n11) ∧ w.cell? ⟨B, 12, none⟩ = some (.int .i64 n12) ∧ w.cell? ⟨B, 13, none⟩ = some (.int .i64 n13) ∧ w.cell? ⟨B, 14, none⟩ = some (.int .i64 n14) ∧ w.cell? ⟨B, 15, none⟩ = some (.int .i64 n15) ∧ w.cell? ⟨B, 16, none⟩ = some (.int .i64 n16) := by
  refine ⟨?_, ?_, ?_, ?_, ?_, ?_, ?_, ?_, ?_, ?_, ?_, ?_, ?_, ?_, ?_, ?_, ?_⟩ <;> (rw [cell_of_row w B _ _ _ _ h.x]; rfl)
theorem Kp.ints {w0 w : World} {X : Nat} {n0 n1 n2 n3 n4 n5 n6 n7 n8 n9 n10 n11 n12 n13 n14 n15 n16 : Int} {mo : Option Addr} {M : List Int} (h : Kp w0 X n0 n1 n2 n3 n4 n5 n6 n7 n8 n9 n10 n11 n12 n13 n14 n15 n16 mo M w) : IntsAt w (some ⟨X, 0, none⟩) [n0, n1, n2, n3, n4, n5, n6, n7, n8, n9, n10, n11, n12, n13, n14, n15, n16] := ints_row (t := 22) (fr := (0, 0)) [n0, n1, n2, n3, n4, n5, n6, n7, n8, n9, n10, n11, n12, n13, n14, n15, n16] h.x
set_option maxRecDepth 100000 in
set_option maxHeartbeats 4000000 in
theorem puts_walk (n0 n1 n2 n3 n4 n5 n6 n7 n8 n9 n10 n11 n12 n13 n14 n15 n16 : Int) (mo : Option Addr) (M : List Int) (mcap : Nat) (w : World) (hI : IntsAt w mo M) (hl : M.length * 8 ≤ 140737488351232) :
    Calls Try.prog 3 #[.agg #[.int .i64 n0, .int .i64 n1, .int .i64 n2, .int .i64 n3, .int .i64 n4, .int .i64 n5, .int .i64 n6, .int .i64 n7, .int .i64 n8, .int .i64 n9, .int .i64 n10, .int .i64 n11, .int .i64 n12, .int .i64 n13, .int .i64 n14, .int .i64 n15, .int .i64 n16], .slice mo M.length mcap] w fun e w' => e = .returned (.bool true) ∧ Below w.heap.size w w' := by
  have hK0 : Kp w w.heap.size n0 n1 n2 n3 n4 n5 n6 n7 n8 n9 n10 n11 n12 n13 n14 n15 n16 mo M (w.alloc (.cells #[.int .i64 n0, .int .i64 n1, .int .i64 n2, .int .i64 n3, .int .i64 n4, .int .i64 n5, .int .i64 n6, .int .i64 n7, .int .i64 n8, .int .i64 n9, .int .i64 n10, .int .i64 n11, .int .i64 n12, .int .i64 n13, .int .i64 n14, .int .i64 n15, .int .i64 n16] 22)) := ⟨heap_alloc_new w _, hI.below ((Below.refl _ w).alloc (Nat.le_refl _) _), (Below.refl _ w).alloc (Nat.le_refl _) _⟩
  have HK0 := Lib.hid hK0
  clear hK0 hI
  go_enter Try.func3, Try.ntmps3
  go_wp2_with fail
  generalize w.alloc (.cells #[.int .i64 n0, .int .i64 n1, .int .i64 n2, .int .i64 n3, .int .i64 n4, .int .i64 n5, .int .i64 n6, .int .i64 n7, .int .i64 n8, .int .i64 n9, .int .i64 n10, .int .i64 n11, .int .i64 n12, .int .i64 n13, .int .i64 n14, .int .i64 n15, .int .i64 n16] 22) = W at *
  refine (speaks_any W).mono ?_
  rintro e w1 ⟨rfl, hB1⟩
  have HK1 := Lib.hid (HK0.out.step hB1)
  clear hB1 HK0
  obtain ⟨y0, y1, y2, y3, y4, y5, y6, y7, y8, y9, y10, y11, y12, y13, y14, y15, y16⟩ := HK1.out.all
  generalize hX : w.heap.size = X at *
  have HX := Lib.hid hX
  clear hX
  go_upto_region 4 with (refine store28_n rfl n0 n1 n2 n3 n4 n5 n6 n7 n8 n9 n10 n11 n12 n13 n14 n15 n16 _ _ rfl rfl rfl ?_)
  have HA := Lib.hid (AAt.new w1 n0 n1 n2 n3 n4 n5 n6 n7 n8 n9 n10 n11 n12 n13 n14 n15 n16)
  have HK2 := Lib.hid (HK1.out.step ((Below.refl _ w1).alloc (Nat.le_refl _) (.cells #[.int .i64 n0, .int .i64 n1, .int .i64 n2, .int .i64 n3, .int .i64 n4, .int .i64 n5, .int .i64 n6, .int .i64 n7, .int .i64 n8, .int .i64 n9, .int .i64 n10, .int .i64 n11, .int .i64 n12, .int .i64 n13, .int .i64 n14, .int .i64 n15, .int .i64 n16] 28)))
  clear HK1 y0 y1 y2 y3 y4 y5 y6 y7 y8 y9 y10 y11 y12 y13 y14 y15 y16
  generalize w1.alloc (.cells #[.int .i64 n0, .int .i64 n1, .int .i64 n2, .int .i64 n3, .int .i64 n4, .int .i64 n5, .int .i64 n6, .int .i64 n7, .int .i64 n8, .int .i64 n9, .int .i64 n10, .int .i64 n11, .int .i64 n12, .int .i64 n13, .int .i64 n14, .int .i64 n15, .int .i64 n16] 28) = W2 at *
  generalize w1.heap.size = A at *
  go_wp2_with (refine load28_l rfl HA.out _ rfl rfl ?_)
  refine (put_any n0 n1 n2 n3 n4 n5 n6 n7 n8 n9 n10 n11 n12 n13 n14 n15 n16 W2).mono ?_
  rintro e w3 ⟨rfl, hP, hB⟩
  have HA3 := Lib.hid (HA.out.keep hB)
  have HK3 := Lib.hid (HK2.out.step hB)
  have HP := Lib.hid hP
  clear hB hP HA HK2
  generalize W2.heap.size + 1 = P at *
  go_wp2_with fail
  refine (same_ints [n0, n1, n2, n3, n4, n5, n6, n7, n8, n9, n10, n11, n12, n13, n14, n15, n16] (some ⟨P, 0, none⟩) (some ⟨X, 0, none⟩) 17 17 w3 HP.out HK3.out.ints (by simp)).mono ?_
  rintro e w4 ⟨rfl, hB⟩
  have HA4 := Lib.hid (HA3.out.keep hB)
  have HK4 := Lib.hid (HK3.out.step hB)
  have HP4 := Lib.hid (HP.out.below hB)
  clear hB HA3 HK3 HP
  go_wp2_with (first
    | (refine list_app rfl _ _ rfl w4.heap.size _ [] rfl (own_empty (heap_alloc_new w4 _) (Nat.le_refl _)) (some ⟨P, 0, none⟩) [n0, n1, n2, n3, n4, n5, n6, n7, n8, n9, n10, n11, n12, n13, n14, n15, n16] 17 rfl (HP4.out.below ((Below.refl _ w4).alloc (Nat.le_refl _) _)) (by simp) (by simp) ?_; intro v1 w5 hT1)
    | (refine list_app rfl _ _ rfl w4.heap.size _ ([] ++ [n0, n1, n2, n3, n4, n5, n6, n7, n8, n9, n10, n11, n12, n13, n14, n15, n16]) rfl hT1.own mo M mcap rfl ((HK4.out.step (hT1.below (own_empty (B := w4.heap.size) (heap_alloc_new w4 _) (Nat.le_refl _)) ((Below.refl _ w4).alloc (Nat.le_refl _) _) (Nat.le_refl _))).m) (by simp; omega) (hT1.below (own_empty (B := w4.heap.size) (heap_alloc_new w4 _) (Nat.le_refl _)) ((Below.refl _ w4).alloc (Nat.le_refl _) _) (Nat.le_refl _)).size ?_; intro v2 w6 hT2; obtain ⟨bo, bcap, hv2, hI2, hc2, hc3⟩ := own_form hT2.own; subst hv2))
  have hB5 := hT1.below (own_empty (B := w4.heap.size) (heap_alloc_new w4 _) (Nat.le_refl _)) ((Below.refl _ w4).alloc (Nat.le_refl _) _) (Nat.le_refl _)
  have hB6 := hT2.below hT1.own hB5 (Nat.le_refl _)
  have HA6 := Lib.hid (HA4.out.keep hB6)
  have HK6 := Lib.hid (HK4.out.step hB6)
  have HI2 := Lib.hid hI2
  have hcM : M.length + 17 ≤ bcap := by simpa using hc2
  clear hB5 hB6 hT1 hT2 hI2 hc2 HA4 HK4 HP4
  refine (get_ok n0 n1 n2 n3 n4 n5 n6 n7 n8 n9 n10 n11 n12 n13 n14 n15 n16 M bo bcap w6 HI2.out hcM hc3 (by omega)).mono ?_
  rintro e w7 ⟨⟨ro, rcap, rfl, hR, _⟩, hB⟩
  have HA7 := Lib.hid (HA6.out.keep hB)
  have HK7 := Lib.hid (HK6.out.step hB)
  have HR := Lib.hid hR
  clear hB HA6 HK6 HI2 hR
  go_upto_region 8 with (refine store28_n rfl n0 n1 n2 n3 n4 n5 n6 n7 n8 n9 n10 n11 n12 n13 n14 n15 n16 _ _ rfl rfl rfl ?_)
  have HD := Lib.hid (AAt.new w7 n0 n1 n2 n3 n4 n5 n6 n7 n8 n9 n10 n11 n12 n13 n14 n15 n16)
  have hB := (Below.refl w7.heap.size w7).alloc (Nat.le_refl _) (.cells #[.int .i64 n0, .int .i64 n1, .int .i64 n2, .int .i64 n3, .int .i64 n4, .int .i64 n5, .int .i64 n6, .int .i64 n7, .int .i64 n8, .int .i64 n9, .int .i64 n10, .int .i64 n11, .int .i64 n12, .int .i64 n13, .int .i64 n14, .int .i64 n15, .int .i64 n16] 28)
  have HA8 := Lib.hid (HA7.out.keep hB)
  have HK8 := Lib.hid (HK7.out.step hB)
  have HR8 := Lib.hid (HR.out.below hB)
  clear hB HA7 HK7 HR
  generalize w7.alloc (.cells #[.int .i64 n0, .int .i64 n1, .int .i64 n2, .int .i64 n3, .int .i64 n4, .int .i64 n5, .int .i64 n6, .int .i64 n7, .int .i64 n8, .int .i64 n9, .int .i64 n10, .int .i64 n11, .int .i64 n12, .int .i64 n13, .int .i64 n14, .int .i64 n15, .int .i64 n16] 28) = W8 at *
  generalize w7.heap.size = D at *
  go_wp2_with (first
    | (refine list_app rfl _ _ rfl W8.heap.size _ [] rfl (own_empty (heap_alloc_new W8 _) (Nat.le_refl _)) (some ⟨X, 0, none⟩) [n0, n1, n2, n3, n4, n5, n6, n7, n8, n9, n10, n11, n12, n13, n14, n15] 17 rfl ((IntsAt.pre (A := [n0, n1, n2, n3, n4, n5, n6, n7, n8, n9, n10, n11, n12, n13, n14, n15]) (B := [n16]) HK8.out.ints).below ((Below.refl _ W8).alloc (Nat.le_refl _) _)) (by simp) (by simp) ?_; intro v1 w9 hT1; obtain ⟨bo, bcap, hv2, hI2, hc2, hc3⟩ := own_form hT1.own; subst hv2))
  have hB9 := hT1.below (own_empty (B := W8.heap.size) (heap_alloc_new W8 _) (Nat.le_refl _)) ((Below.refl _ W8).alloc (Nat.le_refl _) _) (Nat.le_refl _)
  have HA9 := Lib.hid (HA8.out.keep hB9)
  have HD9 := Lib.hid (HD.out.keep hB9)
  have HK9 := Lib.hid (HK8.out.step hB9)
  have HR9 := Lib.hid (HR8.out.below hB9)
  have HI9 := Lib.hid hI2
  clear hB9 hT1 hI2 HA8 HD HK8 HR8
  refine (get_no n0 n1 n2 n3 n4 n5 n6 n7 n8 n9 n10 n11 n12 n13 n14 n15 bo bcap w9 HI9.out hc2 hc3).mono ?_
  rintro e w10 ⟨rfl, hB⟩
  have HA10 := Lib.hid (HA9.out.keep hB)
  have HD10 := Lib.hid (HD9.out.keep hB)
  have HK10 := Lib.hid (HK9.out.step hB)
  have HR10 := Lib.hid (HR9.out.below hB)
  clear hB HA9 HD9 HK9 HR9 HI9
  go_upto_region 9 with (refine store28_n rfl 0 0 0 0 0 0 0 0 0 0 0 0 0 0 0 0 0 _ _ rfl rfl rfl ?_)
  have HE := Lib.hid (AAt.new w10 0 0 0 0 0 0 0 0 0 0 0 0 0 0 0 0 0)
  have hB := (Below.refl w10.heap.size w10).alloc (Nat.le_refl _) (.cells #[.int .i64 0, .int .i64 0, .int .i64 0, .int .i64 0, .int .i64 0, .int .i64 0, .int .i64 0, .int .i64 0, .int .i64 0, .int .i64 0, .int .i64 0, .int .i64 0, .int .i64 0, .int .i64 0, .int .i64 0, .int .i64 0, .int .i64 0] 28)
  have HA11 := Lib.hid (HA10.out.keep hB)
  have HD11 := Lib.hid (HD10.out.keep hB)
  have HK11 := Lib.hid (HK10.out.step hB)
  have HR11 := Lib.hid (HR10.out.below hB)
  clear hB HA10 HD10 HK10 HR10
  generalize w10.alloc (.cells #[.int .i64 0, .int .i64 0, .int .i64 0, .int .i64 0, .int .i64 0, .int .i64 0, .int .i64 0, .int .i64 0, .int .i64 0, .int .i64 0, .int .i64 0, .int .i64 0, .int .i64 0, .int .i64 0, .int .i64 0, .int .i64 0, .int .i64 0] 28) = W11 at *
  generalize w10.heap.size = E at *
  go_wp2_with (first | (refine load28g HD11.out _ rfl rfl rfl ?_) | (refine load28g HA11.out _ rfl rfl rfl ?_))
  refine (same_ints M ro mo rcap mcap W11 HR11.out HK11.out.m (by omega)).mono ?_
  rintro e w12 ⟨rfl, hB⟩
  have HE12 := Lib.hid (HE.out.keep hB)
  have HB12 := Lib.hid (HK11.out.low.trans (hB.mono HK11.out.low.size))
  clear hB HE HA11 HD11 HK11 HR11
  go_wp2_with (refine load28g HE12.out _ rfl rfl rfl ?_)
  go_ret
  exact ⟨rfl, HB12.out⟩
end Go.Proofs.Ytedcgmagkkoggaa
