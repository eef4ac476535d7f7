/-
  AttrBack's walk: it answers true, and makes new blocks alone. Its condition: the numbers behind are no longer than memory.
-/
import Derived.Test.YtedcgmagkkoggaaPq
namespace Go.Proofs.Ytedcgmagkkoggaa
open Go.RowKit
theorem pe_back (b : Bool) (x : Int) (r : List Int) (h : b = false → x = 0) : peO (peL b x ++ r) = some (b, x, r) := by
  cases b with
  | false =>
    rw [h rfl]
    rfl
  | true => rfl
theorem mo_back (h x y : Int) (r : List Int) (h0 : 0 ≤ h) (h2 : h ≤ 2) (hz : h ≠ 2 → x = 0 ∧ y = 0) : moO (moL h x y ++ r) = some (h, x, y, r) := by
  unfold moL
  by_cases k : h = 2
  · subst k; rfl
  · obtain ⟨rfl, rfl⟩ := hz k
    rw [if_neg k]
    unfold moO
    simp only [List.cons_append, List.nil_append, upO, if_pos (And.intro h0 h2), if_neg k]
theorem mo_cut (h x y : Int) (h0 : 0 ≤ h) (h2 : h ≤ 2) : moO (moL h x y).dropLast = none := by
  unfold moL
  by_cases k : h = 2
  · subst k; rfl
  · rw [if_neg k]; rfl
theorem set_back (b0 b1 b2 b3 : Bool) (x0 x1 x2 x3 h0 h1 a0 a1 m0 m1 : Int) (M : List Int) (k0 : b0 = false → x0 = 0) (k1 : b1 = false → x1 = 0) (k2 : b2 = false → x2 = 0) (k3 : b3 = false → x3 = 0) (p0 : 0 ≤ h0) (p1 : h0 ≤ 2) (p2 : h0 ≠ 2 → a0 = 0 ∧ a1 = 0) (q0 : 0 ≤ h1) (q1 : h1 ≤ 2) (q2 : h1 ≠ 2 → m0 = 0 ∧ m1 = 0) :
    setO (putL b0 b1 b2 b3 x0 x1 x2 x3 h0 h1 a0 a1 m0 m1 ++ M) = some (#[.bool b0, .bool b1, .bool b2, .bool b3, .int .i64 x0, .int .i64 x1, .int .i64 x2, .int .i64 x3, .int .i64 h0, .int .i64 h1, .int .i64 a0, .int .i64 a1, .int .i64 m0, .int .i64 m1], M) := by
  unfold setO putL
  simp only [List.nil_append, List.append_assoc]
  simp only [pe_back b0 x0 _ k0, pe_back b1 x1 _ k1, pe_back b2 x2 _ k2, pe_back b3 x3 _ k3, mo_back h0 a0 a1 _ p0 p1 p2, mo_back h1 m0 m1 _ q0 q1 q2]
theorem set_cut (b0 b1 b2 b3 : Bool) (x0 x1 x2 x3 h0 h1 a0 a1 m0 m1 : Int) (k0 : b0 = false → x0 = 0) (k1 : b1 = false → x1 = 0) (k2 : b2 = false → x2 = 0) (k3 : b3 = false → x3 = 0) (p0 : 0 ≤ h0) (p1 : h0 ≤ 2) (p2 : h0 ≠ 2 → a0 = 0 ∧ a1 = 0) (q0 : 0 ≤ h1) (q1 : h1 ≤ 2) :
    setO (putL b0 b1 b2 b3 x0 x1 x2 x3 h0 h1 a0 a1 m0 m1).dropLast = none := by
  have hne : moL h1 m0 m1 ≠ [] := by unfold moL; split <;> simp
  unfold putL
  rw [List.dropLast_append_of_ne_nil hne]
  unfold setO
  simp only [List.nil_append, List.append_assoc]
  simp only [pe_back b0 x0 _ k0, pe_back b1 x1 _ k1, pe_back b2 x2 _ k2, pe_back b3 x3 _ k3, mo_back h0 a0 a1 _ p0 p1 p2, mo_cut h1 m0 m1 q0 q1]
/-- What the walk keeps. -/
structure Kq (w0 : World) (X Y : Nat) (b0 b1 b2 b3 : Bool) (n0 n1 n2 n3 n4 n5 n6 n7 n8 n9 : Int) (mo : Option Addr) (M : List Int) (w : World) : Prop where
  x : w.heap[X]? = some (.cells #[.bool b0, .bool b1, .bool b2, .bool b3] 34 (0, 0))
  y : w.heap[Y]? = some (.cells #[.int .i64 n0, .int .i64 n1, .int .i64 n2, .int .i64 n3, .int .i64 n4, .int .i64 n5, .int .i64 n6, .int .i64 n7, .int .i64 n8, .int .i64 n9] 35 (0, 0))
  m : IntsAt w mo M
  low : Below w0.heap.size w0 w
theorem Kq.step {w0 w w' : World} {X Y : Nat} {b0 b1 b2 b3 : Bool} {n0 n1 n2 n3 n4 n5 n6 n7 n8 n9 : Int} {mo : Option Addr} {M : List Int} (h : Kq w0 X Y b0 b1 b2 b3 n0 n1 n2 n3 n4 n5 n6 n7 n8 n9 mo M w) (hb : Below w.heap.size w w') : Kq w0 X Y b0 b1 b2 b3 n0 n1 n2 n3 n4 n5 n6 n7 n8 n9 mo M w' :=
  ⟨(hb.block X (Array.getElem?_eq_some_iff.1 h.x).1).trans h.x, (hb.block Y (Array.getElem?_eq_some_iff.1 h.y).1).trans h.y, h.m.below hb, h.low.trans (hb.mono h.low.size)⟩
theorem Kq.cx {w0 w : World} {X Y : Nat} {b0 b1 b2 b3 : Bool} {n0 n1 n2 n3 n4 n5 n6 n7 n8 n9 : Int} {mo : Option Addr} {M : List Int} (h : Kq w0 X Y b0 b1 b2 b3 n0 n1 n2 n3 n4 n5 n6 n7 n8 n9 mo M w) : w.cell? ⟨X, 0, none⟩ = some (.bool b0) ∧ w.cell? ⟨X, 1, none⟩ = some (.bool b1) ∧ w.cell? ⟨X, 2, none⟩ = some (.bool b2) ∧ w.cell? ⟨X, 3, none⟩ = some (.bool b3) := by
  refine ⟨?_, ?_, ?_, ?_⟩ <;> (rw [cell_of_row w X _ _ _ _ h.x]; rfl)
theorem Kq.cy {w0 w : World} {X Y : Nat} {b0 b1 b2 b3 : Bool} {n0 n1 n2 n3 n4 n5 n6 n7 n8 n9 : Int} {mo : Option Addr} {M : List Int} (h : Kq w0 X Y b0 b1 b2 b3 n0 n1 n2 n3 n4 n5 n6 n7 n8 n9 mo M w) : w.cell? ⟨Y, 0, none⟩ = some (.int .i64 n0) ∧ w.cell? ⟨Y, 1, none⟩ = some (.int .i64 n1) ∧ w.cell? ⟨Y, 2, none⟩ = some (.int .i64 n2) ∧ w.cell? ⟨Y, 3, none⟩ = some (.int .i64 n3) ∧ w.cell? ⟨Y, 4, none⟩ = some (.int .i64 n4) ∧ w.cell? ⟨Y, 5, none⟩ = some (.int .i64 n5) ∧ w.cell? ⟨Y, 6, none⟩ = some (.int .i64 n6) ∧ w.cell? ⟨Y, 7, none⟩ = some (.int .i64 n7) ∧ w.cell? ⟨Y, 8, none⟩ = some (.int .i64 n8) ∧ w.cell? ⟨Y, 9, none⟩ = some (.int .i64 n9) := by
  refine ⟨?_, ?_, ?_, ?_, ?_, ?_, ?_, ?_, ?_, ?_⟩ <;> (rw [cell_of_row w Y _ _ _ _ h.y]; rfl)
theorem two_new (w : World) (o1 o2 : Obj) : Below w.heap.size w ((w.alloc o1).alloc o2) ∧ ((w.alloc o1).alloc o2).heap[w.heap.size]? = some o1 ∧ ((w.alloc o1).alloc o2).heap[w.heap.size + 1]? = some o2 := by
  refine ⟨((Below.refl _ w).alloc (Nat.le_refl _) o1).alloc (by simp) o2, ?_, ?_⟩
  · exact ((World.grownBy_alloc _ _ none).block w.heap.size (by simp) (by simp)).trans (heap_alloc_new w _)
  · have := heap_alloc_new (w.alloc o1) o2
    rw [show (w.alloc o1).heap.size = w.heap.size + 1 from by simp] at this
    exact this
/-- A made Set in its block. -/
def RAt (w : World) (K : Nat) (cs : Array Value) : Prop := w.heap[K]? = some (.cells cs 40 (0, 0))
theorem RAt.lt {w : World} {K : Nat} {cs : Array Value} (h : RAt w K cs) : K < w.heap.size := (Array.getElem?_eq_some_iff.1 h).1
theorem RAt.keep {w w' : World} {K : Nat} {cs : Array Value} (h : RAt w K cs) (hb : Below w.heap.size w w') : RAt w' K cs := (hb.block K h.lt).trans h
theorem RAt.put {w : World} {K : Nat} {cs : Array Value} (h : RAt w K cs) (i : Nat) (u : Value) : RAt (w.setCell ⟨K, i, none⟩ u) K (cs.setIfInBounds i u) := by
  unfold RAt at h ⊢
  simp [World.setCell, Array.getElem?_modify, h]
theorem RAt.cell {w : World} {K : Nat} {cs : Array Value} (h : RAt w K cs) (i : Nat) {u : Value} (hu : cs[i]? = some u) : w.cell? ⟨K, i, none⟩ = some u ∧ w.frozen? ⟨K, i, none⟩ = false :=
  ⟨by rw [cell_of_row w K i _ _ _ h]; exact hu, Lib.frozen_of_heap h i⟩
theorem Kq.put {w0 w : World} {X Y : Nat} {b0 b1 b2 b3 : Bool} {n0 n1 n2 n3 n4 n5 n6 n7 n8 n9 : Int} {mo : Option Addr} {M : List Int} (h : Kq w0 X Y b0 b1 b2 b3 n0 n1 n2 n3 n4 n5 n6 n7 n8 n9 mo M w) {K i : Nat} {u : Value} {cs : Array Value} (_ : RAt w K cs) (hX : K ≠ X) (hY : K ≠ Y) (hK : w0.heap.size ≤ K) (hm : ∀ g off, mo = some ⟨g, off, none⟩ → M ≠ [] → g ≠ K) : Kq w0 X Y b0 b1 b2 b3 n0 n1 n2 n3 n4 n5 n6 n7 n8 n9 mo M (w.setCell ⟨K, i, none⟩ u) := by
  have hF := Fq.set K w i u
  refine ⟨(hF.block X (Array.getElem?_eq_some_iff.1 h.x).1 (fun e => hX e.symm)).trans h.x, (hF.block Y (Array.getElem?_eq_some_iff.1 h.y).1 (fun e => hY e.symm)).trans h.y, ?_, hF.below h.low hK h.low.size⟩
  intro j hj
  obtain ⟨g, off, e1, e2, e3⟩ := h.m j hj
  exact ⟨g, off, e1, Nat.lt_of_lt_of_le e2 hF.size, (World.cell?_of_block (a := ⟨g, off + j, none⟩) (hF.block g e2 (hm g off e1 (fun e => by rw [e] at hj; simp at hj)))).trans e3⟩
set_option maxRecDepth 100000 in
set_option maxHeartbeats 2000000 in
@[go_sem] theorem eq43 (b0 b1 b2 b3 : Bool) (x0 x1 x2 x3 h0 h1 a0 a1 m0 m1 : Int) (w : World) : (Op.equalIn 10000 43 (.agg #[.bool b0, .bool b1, .bool b2, .bool b3, .int .i64 x0, .int .i64 x1, .int .i64 x2, .int .i64 x3, .int .i64 h0, .int .i64 h1, .int .i64 a0, .int .i64 a1, .int .i64 m0, .int .i64 m1]) (.agg #[.bool b0, .bool b1, .bool b2, .bool b3, .int .i64 x0, .int .i64 x1, .int .i64 x2, .int .i64 x3, .int .i64 h0, .int .i64 h1, .int .i64 a0, .int .i64 a1, .int .i64 m0, .int .i64 m1])).run Try.prog w = .ok true w := by
  have u3 := Try.underlying3
  have u4 := Try.underlying4
  have hS : Try.prog.underlying 43 = some (.struct (Try.prog.fieldsOf 43)) := by kernel_rfl
  have hp : Try.prog.stoodInHeld 43 = false := by kernel_rfl
  rw [show (10000 : Nat) = 9999 + 1 from rfl, run_equalIn_agg w 9999 43 _ _ hS hp]
  simp only [Program.fieldsOf, Try.underlying43]
  go_simp
/-- What the last statement's walk keeps. -/
structure Kz (w0 : World) (D K : Nat) (cs : Array Value) (ro mo : Option Addr) (M : List Int) (w : World) : Prop where
  d : SAt w D cs
  k : RAt w K cs
  r : IntsAt w ro M
  m : IntsAt w mo M
  low : Below w0.heap.size w0 w
theorem Kz.step {w0 w w' : World} {D K : Nat} {cs : Array Value} {ro mo : Option Addr} {M : List Int} (h : Kz w0 D K cs ro mo M w) (hb : Below w.heap.size w w') : Kz w0 D K cs ro mo M w' :=
  ⟨h.d.keep hb, h.k.keep hb, h.r.below hb, h.m.below hb, h.low.trans (hb.mono h.low.size)⟩
theorem Kz.drew {w0 w : World} {D K : Nat} {cs : Array Value} {ro mo : Option Addr} {M : List Int} (h : Kz w0 D K cs ro mo M w) : Kz w0 D K cs ro mo M w.drew := ⟨h.d, h.k, h.r, h.m, h.low.drew⟩
theorem Kz.cs {w0 w' : World} {D K : Nat} {b0 b1 b2 b3 : Bool} {x0 x1 x2 x3 h0 h1 a0 a1 m0 m1 : Int} {ro mo : Option Addr} {M : List Int} (h : Kz w0 D K #[.bool b0, .bool b1, .bool b2, .bool b3, .int .i64 x0, .int .i64 x1, .int .i64 x2, .int .i64 x3, .int .i64 h0, .int .i64 h1, .int .i64 a0, .int .i64 a1, .int .i64 m0, .int .i64 m1] ro mo M w') : w'.cell? ⟨D, 0, none⟩ = some (.bool b0) ∧ w'.cell? ⟨D, 1, none⟩ = some (.bool b1) ∧ w'.cell? ⟨D, 2, none⟩ = some (.bool b2) ∧ w'.cell? ⟨D, 3, none⟩ = some (.bool b3) ∧ w'.cell? ⟨D, 4, none⟩ = some (.int .i64 x0) ∧ w'.cell? ⟨D, 5, none⟩ = some (.int .i64 x1) ∧ w'.cell? ⟨D, 6, none⟩ = some (.int .i64 x2) ∧ w'.cell? ⟨D, 7, none⟩ = some (.int .i64 x3) ∧ w'.cell? ⟨D, 8, none⟩ = some (.int .i64 h0) ∧ w'.cell? ⟨D, 9, none⟩ = some (.int .i64 h1) ∧ w'.cell? ⟨D, 10, none⟩ = some (.int .i64 a0) ∧ w'.cell? ⟨D, 11, none⟩ = some (.int .i64 a1) ∧ w'.cell? ⟨D, 12, none⟩ = some (.int .i64 m0) ∧ w'.cell? ⟨D, 13, none⟩ = some (.int .i64 m1) ∧ w'.cell? ⟨K, 0, none⟩ = some (.bool b0) ∧ w'.cell? ⟨K, 1, none⟩ = some (.bool b1) ∧ w'.cell? ⟨K, 2, none⟩ = some (.bool b2) ∧ w'.cell? ⟨K, 3, none⟩ = some (.bool b3) ∧ w'.cell? ⟨K, 4, none⟩ = some (.int .i64 x0) ∧ w'.cell? ⟨K, 5, none⟩ = some (.int .i64 x1) ∧ w'.cell? ⟨K, 6, none⟩ = some (.int .i64 x2) ∧ w'.cell? ⟨K, 7, none⟩ = some (.int .i64 x3) ∧ w'.cell? ⟨K, 8, none⟩ = some (.int .i64 h0) ∧ w'.cell? ⟨K, 9, none⟩ = some (.int .i64 h1) ∧ w'.cell? ⟨K, 10, none⟩ = some (.int .i64 a0) ∧ w'.cell? ⟨K, 11, none⟩ = some (.int .i64 a1) ∧ w'.cell? ⟨K, 12, none⟩ = some (.int .i64 m0) ∧ w'.cell? ⟨K, 13, none⟩ = some (.int .i64 m1) := by
  refine ⟨?_, ?_, ?_, ?_, ?_, ?_, ?_, ?_, ?_, ?_, ?_, ?_, ?_, ?_, ?_, ?_, ?_, ?_, ?_, ?_, ?_, ?_, ?_, ?_, ?_, ?_, ?_, ?_⟩
  all_goals first | (rw [cell_of_row w' D _ _ _ _ h.d]; rfl) | (rw [cell_of_row w' K _ _ _ _ h.k]; rfl)
theorem get_set_n (L : List Int) (n : Nat) (hn : n = L.length) (ao : Option Addr) (cap : Nat) (w : World) (hI : IntsAt w ao L) (hc : L.length ≤ cap) (hc2 : cap ≤ 9223372036854775807) (hsz : L.length * 8 ≤ 140737488355328) (X : Option (Array Value × List Int)) (hX : setO L = X) :
    Calls Try.prog 15 #[.slice ao n cap] w (GetTo w X) := by
  subst hn
  exact get_set L ao cap w hI hc hc2 hsz X hX
theorem ints_last {w : World} {ao : Option Addr} {P : List Int} (h : IntsAt w ao P) : IntsAt w ao P.dropLast := by
  intro i hi
  rw [List.length_dropLast] at hi
  obtain ⟨g, off, e1, e2, e3⟩ := h i (by omega)
  exact ⟨g, off, e1, e2, by rw [e3, List.getElem_dropLast]⟩
set_option maxRecDepth 100000 in
set_option maxHeartbeats 4000000 in
theorem back_walk (b0 b1 b2 b3 : Bool) (n0 n1 n2 n3 n4 n5 n6 n7 n8 n9 : Int) (mo : Option Addr) (M : List Int) (mcap : Nat) (w : World) (hI : IntsAt w mo M) (hl : M.length * 8 ≤ 140737488351232) :
    Calls Try.prog 7 #[.agg #[.bool b0, .bool b1, .bool b2, .bool b3], .agg #[.int .i64 n0, .int .i64 n1, .int .i64 n2, .int .i64 n3, .int .i64 n4, .int .i64 n5, .int .i64 n6, .int .i64 n7, .int .i64 n8, .int .i64 n9], .slice mo M.length mcap] w fun e w' => e = .returned (.bool true) ∧ Below w.heap.size w w' := by
  obtain ⟨hB, hX, hY⟩ := two_new w (.cells #[.bool b0, .bool b1, .bool b2, .bool b3] 34) (.cells #[.int .i64 n0, .int .i64 n1, .int .i64 n2, .int .i64 n3, .int .i64 n4, .int .i64 n5, .int .i64 n6, .int .i64 n7, .int .i64 n8, .int .i64 n9] 35)
  have HK0 := Lib.hid (show Kq w w.heap.size (w.heap.size + 1) b0 b1 b2 b3 n0 n1 n2 n3 n4 n5 n6 n7 n8 n9 mo M _ from ⟨hX, hY, hI.below hB, hB⟩)
  clear hB hX hY hI
  have hw : IntKind.i64.wrap (2 * (n5 % 2)) = 2 * (n5 % 2) := by rw [IntKind.wrap_i64]; omega
  go_enter Try.func7, Try.ntmps7
  go_wp2_with fail
  generalize (w.alloc (.cells #[.bool b0, .bool b1, .bool b2, .bool b3] 34)).alloc (.cells #[.int .i64 n0, .int .i64 n1, .int .i64 n2, .int .i64 n3, .int .i64 n4, .int .i64 n5, .int .i64 n6, .int .i64 n7, .int .i64 n8, .int .i64 n9] 35) = W at *
  refine (speaks_any W).mono ?_
  rintro e w1 ⟨rfl, hB1⟩
  have HK1 := Lib.hid (HK0.out.step hB1)
  clear hB1 HK0
  generalize w.heap.size + 1 = Y at *
  generalize w.heap.size = X at *
  obtain ⟨c0, c1, c2, c3⟩ := HK1.out.cx
  obtain ⟨y0, y1, y2, y3, y4, y5, y6, y7, y8, y9⟩ := HK1.out.cy
  go_upto_region 4 with (refine wpList_store_row rfl 40 _ _ rfl w1.heap.size #[.bool b0, .bool b1, .bool b2, .bool b3, .int .i64 n0, .int .i64 n1, .int .i64 n2, .int .i64 n3, .int .i64 (n4 % 2), .int .i64 (2 * (n5 % 2)), .int .i64 0, .int .i64 0, .int .i64 n8, .int .i64 n9] rfl rfl 40 #[.bool false, .bool false, .bool false, .bool false, .int .i64 0, .int .i64 0, .int .i64 0, .int .i64 0, .int .i64 0, .int .i64 0, .int .i64 0, .int .i64 0, .int .i64 0, .int .i64 0] (heap_alloc_last w1 _) (by kernel_rfl) rfl (by simp [Value.oneCell']) ?_; rw [World.setRow_alloc_new])
  simp only [Act.put]
  clear c0 c1 c2 c3 y0 y1 y2 y3 y4 y5 y6 y7 y8 y9 hw
  have HR0 : Hid (RAt (w1.alloc (.cells #[.bool b0, .bool b1, .bool b2, .bool b3, .int .i64 n0, .int .i64 n1, .int .i64 n2, .int .i64 n3, .int .i64 (n4 % 2), .int .i64 (2 * (n5 % 2)), .int .i64 0, .int .i64 0, .int .i64 n8, .int .i64 n9] 40)) w1.heap.size #[.bool b0, .bool b1, .bool b2, .bool b3, .int .i64 n0, .int .i64 n1, .int .i64 n2, .int .i64 n3, .int .i64 (n4 % 2), .int .i64 (2 * (n5 % 2)), .int .i64 0, .int .i64 0, .int .i64 n8, .int .i64 n9]) := Lib.hid (heap_alloc_new w1 _)
  have hb := (Below.refl w1.heap.size w1).alloc (Nat.le_refl _) (.cells #[.bool b0, .bool b1, .bool b2, .bool b3, .int .i64 n0, .int .i64 n1, .int .i64 n2, .int .i64 n3, .int .i64 (n4 % 2), .int .i64 (2 * (n5 % 2)), .int .i64 0, .int .i64 0, .int .i64 n8, .int .i64 n9] 40)
  have HK2 := Lib.hid (HK1.out.step hb)
  have hKX : w1.heap.size ≠ X := by have := (Array.getElem?_eq_some_iff.1 HK1.out.x).1; omega
  have hKY : w1.heap.size ≠ Y := by have := (Array.getElem?_eq_some_iff.1 HK1.out.y).1; omega
  have hKw : w.heap.size ≤ w1.heap.size := HK1.out.low.size
  have hKm : ∀ g off, mo = some ⟨g, off, none⟩ → M ≠ [] → g ≠ w1.heap.size := by
    intro g off e hne
    obtain ⟨g', off', e1, e2, _⟩ := HK1.out.m 0 (List.length_pos_iff.2 hne)
    rw [e] at e1
    injection e1 with e1
    injection e1 with e1
    omega
  have HKm := Lib.hid hKm
  clear hb HK1 hKm
  obtain ⟨x0, hx0⟩ : ∃ x, x = if b0 then n0 else 0 := ⟨_, rfl⟩
  obtain ⟨x1, hx1⟩ : ∃ x, x = if b1 then n1 else 0 := ⟨_, rfl⟩
  obtain ⟨x2, hx2⟩ : ∃ x, x = if b2 then n2 else 0 := ⟨_, rfl⟩
  obtain ⟨x3, hx3⟩ : ∃ x, x = if b3 then n3 else 0 := ⟨_, rfl⟩
  have HX0 := Lib.hid hx0
  have HX1 := Lib.hid hx1
  have HX2 := Lib.hid hx2
  have HX3 := Lib.hid hx3
  clear hx0 hx1 hx2 hx3
  generalize w1.alloc (.cells #[.bool b0, .bool b1, .bool b2, .bool b3, .int .i64 n0, .int .i64 n1, .int .i64 n2, .int .i64 n3, .int .i64 (n4 % 2), .int .i64 (2 * (n5 % 2)), .int .i64 0, .int .i64 0, .int .i64 n8, .int .i64 n9] 40) = W2 at *
  generalize w1.heap.size = K at *
  go_wp2_with fail
  go_loopw [8] (fun i wr => Kq w X Y b0 b1 b2 b3 n0 n1 n2 n3 n4 n5 n6 n7 n8 n9 mo M wr ∧ (i = .int .i64 0 ∧ RAt wr K #[.bool b0, .bool b1, .bool b2, .bool b3, .int .i64 n0, .int .i64 n1, .int .i64 n2, .int .i64 n3, .int .i64 (n4 % 2), .int .i64 (2 * (n5 % 2)), .int .i64 0, .int .i64 0, .int .i64 n8, .int .i64 n9] ∨ i = .int .i64 1 ∧ RAt wr K #[.bool b0, .bool b1, .bool b2, .bool b3, .int .i64 x0, .int .i64 n1, .int .i64 n2, .int .i64 n3, .int .i64 (n4 % 2), .int .i64 (2 * (n5 % 2)), .int .i64 0, .int .i64 0, .int .i64 n8, .int .i64 n9] ∨ i = .int .i64 2 ∧ RAt wr K #[.bool b0, .bool b1, .bool b2, .bool b3, .int .i64 x0, .int .i64 x1, .int .i64 n2, .int .i64 n3, .int .i64 (n4 % 2), .int .i64 (2 * (n5 % 2)), .int .i64 0, .int .i64 0, .int .i64 n8, .int .i64 n9] ∨ i = .int .i64 3 ∧ RAt wr K #[.bool b0, .bool b1, .bool b2, .bool b3, .int .i64 x0, .int .i64 x1, .int .i64 x2, .int .i64 n3, .int .i64 (n4 % 2), .int .i64 (2 * (n5 % 2)), .int .i64 0, .int .i64 0, .int .i64 n8, .int .i64 n9] ∨ i = .int .i64 4 ∧ RAt wr K #[.bool b0, .bool b1, .bool b2, .bool b3, .int .i64 x0, .int .i64 x1, .int .i64 x2, .int .i64 x3, .int .i64 (n4 % 2), .int .i64 (2 * (n5 % 2)), .int .i64 0, .int .i64 0, .int .i64 n8, .int .i64 n9])) (fun i _ => 4 - (intOf i).toNat)
  case atStart => exact ⟨HK2.out, .inl ⟨rfl, HR0.out⟩⟩
  case round =>
    obtain ⟨hq, hh⟩ := hrel
    have HQ := Lib.hid hq
    obtain ⟨c0, c1, c2, c3⟩ := hq.cx
    clear hq HK2 HR0
    rcases hh with ⟨rfl, hr⟩ | ⟨rfl, hr⟩ | ⟨rfl, hr⟩ | ⟨rfl, hr⟩ | ⟨rfl, hr⟩
    · have HR := Lib.hid hr
      obtain ⟨d0, e0⟩ := hr.cell 4 (u := .int .i64 n0) rfl
      clear hr
      cases b0 with
      | true =>
        have ex : x0 = n0 := HX0.out
        go_wp2
        refine ⟨⟨HQ.out, .inr (.inl ⟨rfl, ?_⟩)⟩, by simp [intOf]⟩
        rw [ex]
        exact HR.out
      | false =>
        have ex : x0 = 0 := HX0.out
        have HP := Lib.hid (HR.out.put 4 (.int .i64 0))
        have HQ2 := Lib.hid (HQ.out.put (i := 4) (u := .int .i64 0) HR.out hKX hKY hKw HKm.out)
        go_wp2
        refine ⟨⟨HQ2.out, .inr (.inl ⟨rfl, ?_⟩)⟩, by simp [intOf]⟩
        rw [ex]
        exact HP.out
    · have HR := Lib.hid hr
      obtain ⟨d0, e0⟩ := hr.cell 5 (u := .int .i64 n1) rfl
      clear hr
      cases b1 with
      | true =>
        have ex : x1 = n1 := HX1.out
        go_wp2
        refine ⟨⟨HQ.out, .inr (.inr (.inl ⟨rfl, ?_⟩))⟩, by simp [intOf]⟩
        rw [ex]
        exact HR.out
      | false =>
        have ex : x1 = 0 := HX1.out
        have HP := Lib.hid (HR.out.put 5 (.int .i64 0))
        have HQ2 := Lib.hid (HQ.out.put (i := 5) (u := .int .i64 0) HR.out hKX hKY hKw HKm.out)
        go_wp2
        refine ⟨⟨HQ2.out, .inr (.inr (.inl ⟨rfl, ?_⟩))⟩, by simp [intOf]⟩
        rw [ex]
        exact HP.out
    · have HR := Lib.hid hr
      obtain ⟨d0, e0⟩ := hr.cell 6 (u := .int .i64 n2) rfl
      clear hr
      cases b2 with
      | true =>
        have ex : x2 = n2 := HX2.out
        go_wp2
        refine ⟨⟨HQ.out, .inr (.inr (.inr (.inl ⟨rfl, ?_⟩)))⟩, by simp [intOf]⟩
        rw [ex]
        exact HR.out
      | false =>
        have ex : x2 = 0 := HX2.out
        have HP := Lib.hid (HR.out.put 6 (.int .i64 0))
        have HQ2 := Lib.hid (HQ.out.put (i := 6) (u := .int .i64 0) HR.out hKX hKY hKw HKm.out)
        go_wp2
        refine ⟨⟨HQ2.out, .inr (.inr (.inr (.inl ⟨rfl, ?_⟩)))⟩, by simp [intOf]⟩
        rw [ex]
        exact HP.out
    · have HR := Lib.hid hr
      obtain ⟨d0, e0⟩ := hr.cell 7 (u := .int .i64 n3) rfl
      clear hr
      cases b3 with
      | true =>
        have ex : x3 = n3 := HX3.out
        go_wp2
        refine ⟨⟨HQ.out, .inr (.inr (.inr (.inr (⟨rfl, ?_⟩))))⟩, by simp [intOf]⟩
        rw [ex]
        exact HR.out
      | false =>
        have ex : x3 = 0 := HX3.out
        have HP := Lib.hid (HR.out.put 7 (.int .i64 0))
        have HQ2 := Lib.hid (HQ.out.put (i := 7) (u := .int .i64 0) HR.out hKX hKY hKw HKm.out)
        go_wp2
        refine ⟨⟨HQ2.out, .inr (.inr (.inr (.inr (⟨rfl, ?_⟩))))⟩, by simp [intOf]⟩
        rw [ex]
        exact HP.out
    · have HR := Lib.hid hr
      obtain ⟨d0, e0⟩ := hr.cell 9 (u := .int .i64 (2 * (n5 % 2))) rfl
      obtain ⟨d1, e1⟩ := hr.cell 12 (u := .int .i64 n8) rfl
      obtain ⟨d2, e2⟩ := hr.cell 13 (u := .int .i64 n9) rfl
      clear hr c0 c1 c2 c3
      obtain ⟨m0, hm0⟩ : ∃ x, x = if n5 % 2 = 0 then 0 else n8 := ⟨_, rfl⟩
      obtain ⟨m1, hm1⟩ : ∃ x, x = if n5 % 2 = 0 then 0 else n9 := ⟨_, rfl⟩
      have HM0 := Lib.hid hm0
      have HM1 := Lib.hid hm1
      clear hm0 hm1
      go_upto_if 58 with (fail)
      go_cut [] (fun wc => Kq w X Y b0 b1 b2 b3 n0 n1 n2 n3 n4 n5 n6 n7 n8 n9 mo M wc ∧ RAt wc K #[.bool b0, .bool b1, .bool b2, .bool b3, .int .i64 x0, .int .i64 x1, .int .i64 x2, .int .i64 x3, .int .i64 (n4 % 2), .int .i64 (2 * (n5 % 2)), .int .i64 0, .int .i64 0, .int .i64 m0, .int .i64 m1])
      case first =>
        rcases two_way n5 with h5 | h5
        · have hb5 : (2 * (n5 % 2) == 0) = true := by rw [h5]; rfl
          have e0' : m0 = 0 := by rw [HM0.out, if_pos h5]
          have e1' : m1 = 0 := by rw [HM1.out, if_pos h5]
          have H5 := Lib.hid h5
          clear h5
          have HP := Lib.hid ((HR.out.put 12 (.int .i64 0)).put 13 (.int .i64 0))
          have HQ2 := Lib.hid ((HQ.out.put (i := 12) (u := .int .i64 0) HR.out hKX hKY hKw HKm.out).put (i := 13) (u := .int .i64 0) (HR.out.put 12 (.int .i64 0)) hKX hKY hKw HKm.out)
          subst e0' e1'
          go_wp2
          go_meet
          exact ⟨HQ2.out, HP.out⟩
        · have hb5 : (2 * (n5 % 2) == 0) = false := by rw [h5]; rfl
          have hne : ¬ n5 % 2 = 0 := by rw [h5]; decide
          have e0' : m0 = n8 := by rw [HM0.out, if_neg hne]
          have e1' : m1 = n9 := by rw [HM1.out, if_neg hne]
          have H5 := Lib.hid h5
          clear h5 hne
          subst e0' e1'
          go_wp2
          go_meet
          exact ⟨HQ.out, HR.out⟩
      case rest =>
        obtain ⟨hq, hr⟩ := hcut
        have HQ2 := Lib.hid hq
        have HR2 := Lib.hid hr
        clear hq hr d0 d1 d2 e0 e1 e2 HQ HR
        have k0 : b0 = false → x0 = 0 := fun e => by rw [HX0.out, e]; rfl
        have k1 : b1 = false → x1 = 0 := fun e => by rw [HX1.out, e]; rfl
        have k2 : b2 = false → x2 = 0 := fun e => by rw [HX2.out, e]; rfl
        have k3 : b3 = false → x3 = 0 := fun e => by rw [HX3.out, e]; rfl
        have p0 : 0 ≤ n4 % 2 := by omega
        have p1 : n4 % 2 ≤ 2 := by omega
        have q0 : 0 ≤ 2 * (n5 % 2) := by omega
        have q1 : 2 * (n5 % 2) ≤ 2 := by omega
        have q2 : 2 * (n5 % 2) ≠ 2 → m0 = 0 ∧ m1 = 0 := fun e => by
          have h5 : n5 % 2 = 0 := by omega
          rw [HM0.out, HM1.out, if_pos h5, if_pos h5]
          exact ⟨rfl, rfl⟩
        obtain ⟨P, hPd⟩ : ∃ P, P = putL b0 b1 b2 b3 x0 x1 x2 x3 (n4 % 2) (2 * (n5 % 2)) 0 0 m0 m1 := ⟨_, rfl⟩
        have hbk : setO (([] ++ P) ++ M) = some (#[.bool b0, .bool b1, .bool b2, .bool b3, .int .i64 x0, .int .i64 x1, .int .i64 x2, .int .i64 x3, .int .i64 (n4 % 2), .int .i64 (2 * (n5 % 2)), .int .i64 0, .int .i64 0, .int .i64 m0, .int .i64 m1], M) := by
          rw [List.nil_append, hPd]
          exact set_back b0 b1 b2 b3 x0 x1 x2 x3 (n4 % 2) (2 * (n5 % 2)) 0 0 m0 m1 M k0 k1 k2 k3 p0 p1 (fun _ => ⟨rfl, rfl⟩) q0 q1 q2
        have hct : setO ([] ++ P.dropLast) = none := by
          rw [List.nil_append, hPd]
          exact set_cut b0 b1 b2 b3 x0 x1 x2 x3 (n4 % 2) (2 * (n5 % 2)) 0 0 m0 m1 k0 k1 k2 k3 p0 p1 (fun _ => ⟨rfl, rfl⟩) q0 q1
        have hlen : P.length ≤ 14 ∧ 0 < P.length := by
          have s0 := pe_short b0 x0
          have s1 := pe_short b1 x1
          have s2 := pe_short b2 x2
          have s3 := pe_short b3 x3
          have s4 := mo_short (n4 % 2) 0 0
          have s5 := mo_short (2 * (n5 % 2)) m0 m1
          have s6 : 0 < (moL (2 * (n5 % 2)) m0 m1).length := by unfold moL; split <;> simp
          rw [hPd]
          unfold putL
          simp only [List.length_append, List.length_nil]
          omega
        obtain ⟨k, hPk⟩ : ∃ k, P.length = k + 1 := ⟨P.length - 1, by omega⟩
        have hk14 : k ≤ 13 := by omega
        have HPD := Lib.hid hPd
        have HBK := Lib.hid hbk
        have HCT := Lib.hid hct
        have HPK := Lib.hid hPk
        clear k0 k1 k2 k3 p0 p1 q0 q1 q2 hPd hbk hct hlen hPk HX0 HX1 HX2 HX3 HM0 HM1 hKX hKY HKm
        go_wp2_with (refine wpList_load_row rfl 40 _ rfl K rfl 40 _ (0, 0) _ HR2.out Try.underlying40 rfl (by kernel_rfl) ?_)
        refine (made_any b0 b1 b2 b3 x0 x1 x2 x3 (n4 % 2) (2 * (n5 % 2)) 0 0 m0 m1 wc).mono ?_
        rintro r w3 ⟨rfl, hb⟩
        have HQ3 := Lib.hid (HQ2.out.step hb)
        have HR3 := Lib.hid (HR2.out.keep hb)
        clear hb HQ2 HR2
        go_wp2_with fail
        refine (put_set b0 b1 b2 b3 x0 x1 x2 x3 (n4 % 2) (2 * (n5 % 2)) 0 0 m0 m1 w3).mono ?_
        rintro r w4 ⟨v', rfl, hPu⟩
        rw [← HPD.out] at hPu
        obtain ⟨po, pcap, rfl, hIP, hcP, hcP2⟩ := own_form hPu.own
        have HQ4 := Lib.hid (HQ3.out.step hPu.low)
        have HR4 := Lib.hid (HR3.out.keep hPu.low)
        have HP4 := Lib.hid hIP
        obtain ⟨pg, poff, rfl, _, _⟩ := hIP 0 (by have := HPK.out; omega)
        rw [HPK.out] at hcP
        clear hPu hIP HQ3 HR3
        rw [HPK.out]
        go_wp2_with (first
          | (refine list_app rfl _ _ rfl w4.heap.size _ [] rfl (own_empty (heap_alloc_new w4 _) (Nat.le_refl _)) (some ⟨pg, poff, none⟩) P pcap (by rw [HPK.out]; rfl) (HP4.out.below ((Below.refl _ w4).alloc (Nat.le_refl _) _)) (by rw [HPK.out]; simp; omega) (by simp) ?_; intro v1 w5 hT1)
          | (refine list_app rfl _ _ rfl w4.heap.size _ ([] ++ P) rfl hT1.own mo M mcap rfl ((HQ4.out.step (hT1.below (own_empty (B := w4.heap.size) (heap_alloc_new w4 _) (Nat.le_refl _)) ((Below.refl _ w4).alloc (Nat.le_refl _) _) (Nat.le_refl _))).m) (by rw [List.nil_append, HPK.out]; omega) (hT1.below (own_empty (B := w4.heap.size) (heap_alloc_new w4 _) (Nat.le_refl _)) ((Below.refl _ w4).alloc (Nat.le_refl _) _) (Nat.le_refl _)).size ?_; intro v2 w6 hT2; obtain ⟨bo, bcap, hv2, hI2, hc2, hc3⟩ := own_form hT2.own; subst hv2))
        have hB5 := hT1.below (own_empty (B := w4.heap.size) (heap_alloc_new w4 _) (Nat.le_refl _)) ((Below.refl _ w4).alloc (Nat.le_refl _) _) (Nat.le_refl _)
        have hB6 := hT2.below hT1.own hB5 (Nat.le_refl _)
        have HQ6 := Lib.hid (HQ4.out.step hB6)
        have HR6 := Lib.hid (HR4.out.keep hB6)
        have HP6 := Lib.hid (HP4.out.below hB6)
        have HI2 := Lib.hid hI2
        clear hB5 hB6 hT1 hT2 hI2 HQ4 HR4 HP4
        refine (get_set_n _ _ (by simp) bo bcap w6 HI2.out hc2 hc3 (by rw [List.nil_append, List.length_append, HPK.out]; omega) _ HBK.out).mono ?_
        rintro r w7 ⟨hB, ro, rcap, rfl, hR, _⟩
        have HQ7 := Lib.hid (HQ6.out.step hB)
        have HR7 := Lib.hid (HR6.out.keep hB)
        have HP7 := Lib.hid (HP6.out.below hB)
        have HRO := Lib.hid hR
        clear hB HQ6 HR6 HP6 HI2 hR hc2 hc3
        go_upto_region 13 with (refine wpList_store_row rfl 43 _ _ rfl w7.heap.size #[.bool b0, .bool b1, .bool b2, .bool b3, .int .i64 x0, .int .i64 x1, .int .i64 x2, .int .i64 x3, .int .i64 (n4 % 2), .int .i64 (2 * (n5 % 2)), .int .i64 0, .int .i64 0, .int .i64 m0, .int .i64 m1] rfl rfl 43 #[.bool false, .bool false, .bool false, .bool false, .int .i64 0, .int .i64 0, .int .i64 0, .int .i64 0, .int .i64 0, .int .i64 0, .int .i64 0, .int .i64 0, .int .i64 0, .int .i64 0] (heap_alloc_last w7 _) (by kernel_rfl) rfl (by simp [Value.oneCell']) ?_; rw [World.setRow_alloc_new])
        have hB := (Below.refl w7.heap.size w7).alloc (Nat.le_refl _) (.cells #[.bool b0, .bool b1, .bool b2, .bool b3, .int .i64 x0, .int .i64 x1, .int .i64 x2, .int .i64 x3, .int .i64 (n4 % 2), .int .i64 (2 * (n5 % 2)), .int .i64 0, .int .i64 0, .int .i64 m0, .int .i64 m1] 43)
        have HD8 := Lib.hid (SAt.new w7 #[.bool b0, .bool b1, .bool b2, .bool b3, .int .i64 x0, .int .i64 x1, .int .i64 x2, .int .i64 x3, .int .i64 (n4 % 2), .int .i64 (2 * (n5 % 2)), .int .i64 0, .int .i64 0, .int .i64 m0, .int .i64 m1])
        have HQ8 := Lib.hid (HQ7.out.step hB)
        have HR8 := Lib.hid (HR7.out.keep hB)
        have HP8 := Lib.hid (HP7.out.below hB)
        have HRO8 := Lib.hid (HRO.out.below hB)
        clear hB HQ7 HR7 HP7 HRO
        generalize w7.alloc (.cells #[.bool b0, .bool b1, .bool b2, .bool b3, .int .i64 x0, .int .i64 x1, .int .i64 x2, .int .i64 x3, .int .i64 (n4 % 2), .int .i64 (2 * (n5 % 2)), .int .i64 0, .int .i64 0, .int .i64 m0, .int .i64 m1] 43) = W8 at *
        generalize w7.heap.size = D at *
        have hkw : IntKind.i64.wrap ((k : Int)) = k := by rw [IntKind.wrap_i64]; omega
        have hkc : k ≤ pcap := by omega
        go_wp2_with (first
          | (refine list_app rfl _ _ rfl W8.heap.size _ [] rfl (own_empty (heap_alloc_new W8 _) (Nat.le_refl _)) (some ⟨pg, poff, none⟩) P.dropLast pcap (by rw [List.length_dropLast, HPK.out]; rfl) ((ints_last HP8.out).below ((Below.refl _ W8).alloc (Nat.le_refl _) _)) (by rw [List.length_dropLast, HPK.out]; simp; omega) (by simp) ?_; intro v1 w9 hT1; obtain ⟨bo, bcap, hv2, hI2, hc2, hc3⟩ := own_form hT1.own; subst hv2))
        have hB9 := hT1.below (own_empty (B := W8.heap.size) (heap_alloc_new W8 _) (Nat.le_refl _)) ((Below.refl _ W8).alloc (Nat.le_refl _) _) (Nat.le_refl _)
        have HD9 := Lib.hid (HD8.out.keep hB9)
        have HQ9 := Lib.hid (HQ8.out.step hB9)
        have HR9 := Lib.hid (HR8.out.keep hB9)
        have HRO9 := Lib.hid (HRO8.out.below hB9)
        have HI9 := Lib.hid hI2
        clear hB9 hT1 hI2 HD8 HQ8 HR8 HP8 HRO8
        refine (get_set_n _ _ (by simp) bo bcap w9 HI9.out hc2 hc3 (by rw [List.nil_append, List.length_dropLast, HPK.out]; omega) _ HCT.out).mono ?_
        rintro r w10 ⟨hB, rfl⟩
        have HD10 := Lib.hid (HD9.out.keep hB)
        have HQ10 := Lib.hid (HQ9.out.step hB)
        have HR10 := Lib.hid (HR9.out.keep hB)
        have HRO10 := Lib.hid (HRO9.out.below hB)
        clear hB HD9 HQ9 HR9 HRO9 HI9 hc2 hc3
        go_upto_region 14 with (refine wpList_store_row rfl 43 _ _ rfl w10.heap.size #[.bool false, .bool false, .bool false, .bool false, .int .i64 0, .int .i64 0, .int .i64 0, .int .i64 0, .int .i64 0, .int .i64 0, .int .i64 0, .int .i64 0, .int .i64 0, .int .i64 0] rfl rfl 43 #[.bool false, .bool false, .bool false, .bool false, .int .i64 0, .int .i64 0, .int .i64 0, .int .i64 0, .int .i64 0, .int .i64 0, .int .i64 0, .int .i64 0, .int .i64 0, .int .i64 0] (heap_alloc_last w10 _) (by kernel_rfl) rfl (by simp [Value.oneCell']) ?_; rw [World.setRow_alloc_new])
        have hB := (Below.refl w10.heap.size w10).alloc (Nat.le_refl _) (.cells #[.bool false, .bool false, .bool false, .bool false, .int .i64 0, .int .i64 0, .int .i64 0, .int .i64 0, .int .i64 0, .int .i64 0, .int .i64 0, .int .i64 0, .int .i64 0, .int .i64 0] 43)
        have hK0 : Kz w D K #[.bool b0, .bool b1, .bool b2, .bool b3, .int .i64 x0, .int .i64 x1, .int .i64 x2, .int .i64 x3, .int .i64 (n4 % 2), .int .i64 (2 * (n5 % 2)), .int .i64 0, .int .i64 0, .int .i64 m0, .int .i64 m1] ro mo M (w10.alloc (.cells #[.bool false, .bool false, .bool false, .bool false, .int .i64 0, .int .i64 0, .int .i64 0, .int .i64 0, .int .i64 0, .int .i64 0, .int .i64 0, .int .i64 0, .int .i64 0, .int .i64 0] 43)) := ⟨HD10.out.keep hB, HR10.out.keep hB, HRO10.out.below hB, HQ10.out.m.below hB, HQ10.out.low.trans (hB.mono HQ10.out.low.size)⟩
        clear hB HD10 HQ10 HR10 HRO10 hkw hkc
        generalize w10.alloc (.cells #[.bool false, .bool false, .bool false, .bool false, .int .i64 0, .int .i64 0, .int .i64 0, .int .i64 0, .int .i64 0, .int .i64 0, .int .i64 0, .int .i64 0, .int .i64 0, .int .i64 0] 43) = W11 at *
        go_cut [6] from 87 to 102 (fun p wd => p = .bool true ∧ Below w.heap.size w wd)
        case first =>
          as_aux_lemma =>
            have hKd := hK0.drew
            go_region_held3 (fun w' => w'.cell? ⟨D, 0, none⟩ = some (.bool b0) ∧ w'.cell? ⟨D, 1, none⟩ = some (.bool b1) ∧ w'.cell? ⟨D, 2, none⟩ = some (.bool b2) ∧ w'.cell? ⟨D, 3, none⟩ = some (.bool b3) ∧ w'.cell? ⟨D, 4, none⟩ = some (.int .i64 x0) ∧ w'.cell? ⟨D, 5, none⟩ = some (.int .i64 x1) ∧ w'.cell? ⟨D, 6, none⟩ = some (.int .i64 x2) ∧ w'.cell? ⟨D, 7, none⟩ = some (.int .i64 x3) ∧ w'.cell? ⟨D, 8, none⟩ = some (.int .i64 (n4 % 2)) ∧ w'.cell? ⟨D, 9, none⟩ = some (.int .i64 (2 * (n5 % 2))) ∧ w'.cell? ⟨D, 10, none⟩ = some (.int .i64 0) ∧ w'.cell? ⟨D, 11, none⟩ = some (.int .i64 0) ∧ w'.cell? ⟨D, 12, none⟩ = some (.int .i64 m0) ∧ w'.cell? ⟨D, 13, none⟩ = some (.int .i64 m1) ∧ w'.cell? ⟨K, 0, none⟩ = some (.bool b0) ∧ w'.cell? ⟨K, 1, none⟩ = some (.bool b1) ∧ w'.cell? ⟨K, 2, none⟩ = some (.bool b2) ∧ w'.cell? ⟨K, 3, none⟩ = some (.bool b3) ∧ w'.cell? ⟨K, 4, none⟩ = some (.int .i64 x0) ∧ w'.cell? ⟨K, 5, none⟩ = some (.int .i64 x1) ∧ w'.cell? ⟨K, 6, none⟩ = some (.int .i64 x2) ∧ w'.cell? ⟨K, 7, none⟩ = some (.int .i64 x3) ∧ w'.cell? ⟨K, 8, none⟩ = some (.int .i64 (n4 % 2)) ∧ w'.cell? ⟨K, 9, none⟩ = some (.int .i64 (2 * (n5 % 2))) ∧ w'.cell? ⟨K, 10, none⟩ = some (.int .i64 0) ∧ w'.cell? ⟨K, 11, none⟩ = some (.int .i64 0) ∧ w'.cell? ⟨K, 12, none⟩ = some (.int .i64 m0) ∧ w'.cell? ⟨K, 13, none⟩ = some (.int .i64 m1)) (first | exact Kz.cs (by assumption) | exact Kz.cs (Kz.drew (by assumption)) | exact Kz.cs (Kz.step (by assumption) ((Below.refl _ _).alloc (Nat.le_refl _) _)))
              (first
                | (go_at_call 13; refine (made_any b0 b1 b2 b3 x0 x1 x2 x3 (n4 % 2) (2 * (n5 % 2)) 0 0 m0 m1 _).mono ?_; rintro e w' ⟨rfl, hb⟩; have hK2 := Kz.step (by assumption) hb)
                | (go_at_call 10; refine (same_ints M ro mo rcap mcap _ (Kz.r (by assumption)) (Kz.m (by assumption)) (by omega)).mono ?_; rintro e w' ⟨rfl, hb⟩; have hK3 := Kz.step (by assumption) hb))
            all_goals
              go_wp2
              go_meet
              refine ⟨rfl, ?_⟩
              first | exact Kz.low (by assumption) | exact (Kz.low (by assumption)).drew
        case rest =>
          obtain ⟨rfl, hB⟩ := hcut
          have HB := Lib.hid hB
          clear hB hK0
          go_wp2
          go_ret
          exact ⟨rfl, HB.out⟩
end Go.Proofs.Ytedcgmagkkoggaa
