/-
  A bracket and an arm, as long as shorter rows are told. No condition but that.
-/
import Derived.Test.YtjogcdkebplcpaaGreatDoorIx
namespace Go.Proofs.YtjogcdkebplcpaaGreatDoor
open Go.RowKit Sch

abbrev RowR (B : Nat) (r : Row) (v : Value) (w' : World) : Prop := SlR w' (fun k => B ≤ k) 92 4 v r
def RowC (N : Nat) : Prop := ∀ (p : Nat) (t : List UInt8) (n : Nat) (w : World), Pa w p t n → t.length ≤ N → t.length ≤ 1000 → n ≤ 16 →
  Calls Tryz.prog 22 #[.pointer (some ⟨p, 0, none⟩)] w (PPost p w n (pG num5 (t.length + 1) true n [] t) (RowR w.heap.size))

theorem PPost.none {α : Type} {p : Nat} {w : World} {n : Nat} {x : Option (α × List UInt8)} {R : α → Value → World → Prop} {r : Ending} {w' : World} (hx : x = none) (hr : r = Bad 1) (hf : FrP p w w') : PPost p w n x R r w' := by
  subst hx; exact ⟨hf, hr⟩
theorem PPost.some {α : Type} {p : Nat} {w : World} {n : Nat} {x : Option (α × List UInt8)} {R : α → Value → World → Prop} {r : Ending} {w' : World} {a : α} {t' : List UInt8} {v : Value} (hx : x = some (a, t')) (hr : r = .returned v) (hR : R a v w') (hp : Pa w' p t' n) (hf : FrP p w w') : PPost p w n x R r w' := by
  subst hx; exact ⟨hf, v, hr, hR, hp⟩

theorem RowR.turn {B B' : Nat} {r : Row} {v : Value} {a b : World} {p : Nat} (h : RowR B' r v a) (hB : B ≤ B') (hp : p < B') (f : FrP p a b) : RowR B r v b :=
  h.kept (fun k hk => by have : B' ≤ k := hk; show B ≤ k; omega) fun k hk hl => f.block k hl (by have : B' ≤ k := hk; omega)

theorem SlR.slice {w : World} {A : Nat → Prop} {e sz : Nat} {v : Value} {r : Row} (h : SlR w A e sz v r) : ∃ o c, v = .slice o r.len c := by
  obtain ⟨zs, h1, _, _⟩ := h
  rcases h1.2 with ⟨e, e2⟩ | ⟨g, cap, cur, e, _⟩
  · exact ⟨none, 0, by rw [e, e2]⟩
  · exact ⟨_, _, e⟩

set_option maxHeartbeats 1000000 in
theorem bracket_of (N : Nat) (HR : RowC N) (p : Nat) (t : List UInt8) (n f : Nat) (w : World) (h : Pa w p t n) (hN : t.length ≤ N + 1) (ht : t.length ≤ 1000) (hn : n ≤ 16) (hf : t.length ≤ f) :
    Calls Tryz.prog 53 #[.pointer (some ⟨p, 0, none⟩)] w (PPost p w n (bk num5 f n t) (RowR w.heap.size)) := by
  go_enter Tryz.func53, Tryz.ntmps53
  go_wp2_with fail
  have hpl := h.lt
  cases t with
  | nil =>
    refine (want_no p 40 [] n w h (by simp) (by simp)).mono ?_
    rintro r w1 ⟨rfl, hF⟩
    have HF := Lib.hid hF
    clear hF
    go_wp2
    exact ⟨rfl, PPost.none rfl rfl HF.out⟩
  | cons d t2 =>
    by_cases hd : d = 40
    · subst hd
      refine (want_yes p 40 t2 n w h (by simp at ht; omega)).mono ?_
      rintro r w1 ⟨rfl, h1, hF1⟩
      have HF1 := Lib.hid hF1
      clear hF1
      go_wp2_with fail
      by_cases h16 : 16 ≤ n
      · refine (open_bad p t2 n w1 h1 h16 (by omega)).mono ?_
        rintro r w2 ⟨rfl, hF2⟩
        have HF2 := Lib.hid hF2
        clear hF2
        go_wp2
        exact ⟨rfl, PPost.none (by simp [bk, h16]) rfl (HF1.out.trans HF2.out)⟩
      · refine (open_ok p t2 n w1 h1 (by omega)).mono ?_
        rintro r w2 ⟨rfl, h2, hF2⟩
        have HF2 := Lib.hid hF2
        clear hF2
        go_wp2_with fail
        simp only [List.length_cons] at hN ht hf
        have hfu : pG num5 f true (n + 1) [] t2 = pG num5 (t2.length + 1) true (n + 1) [] t2 := pG_fuel num5_short _ _ _ _ _ _ (by omega) (by omega)
        have HFU := Lib.hid hfu
        clear hfu
        refine (HR p t2 (n + 1) w2 h2 (by omega) (by omega) (by omega)).mono ?_
        rintro r w3 ⟨hF3, h3⟩
        have HF3 := Lib.hid hF3
        clear hF3
        generalize hx : pG num5 (t2.length + 1) true (n + 1) [] t2 = x at h3
        have HX := Lib.hid hx
        clear hx
        cases x with
        | none =>
          simp only at h3
          subst h3
          go_wp2
          exact ⟨rfl, PPost.none (by simp [bk, h16, HFU.out, HX.out]) rfl ((HF1.out.trans HF2.out).trans HF3.out)⟩
        | some y =>
          obtain ⟨i, t3⟩ := y
          obtain ⟨v, rfl, hv, h4⟩ := h3
          have hl3 : t3.length ≤ t2.length := pG_le num5_short _ _ _ _ _ _ _ HX.out
          go_wp2_with fail
          by_cases hh : t3.head? = some 41
          · obtain ⟨t4, rfl⟩ : ∃ t4, t3 = 41 :: t4 := by
              cases t3 with
              | nil => simp at hh
              | cons a b => simp at hh; exact ⟨b, by rw [hh]⟩
            simp only [List.length_cons] at hl3
            refine (want_yes p 41 t4 (n + 1) w3 h4 (by omega)).mono ?_
            rintro r w4 ⟨rfl, h5, hF4⟩
            have HF4 := Lib.hid hF4
            clear hF4
            obtain ⟨c0, c1, f0, f1⟩ := h5.cells
            have H5 := Lib.hid h5
            have hsub : IntKind.i64.wrap (((n + 1 : Nat) : Int) - 1) = (n : Int) := by rw [IntWalk.i64_in _ (by omega)]; omega
            have HV := Lib.hid hv
            clear h h1 h2 h4 h5 hv hh
            go_wp2
            have hend : ∀ u, u = Value.int .i64 ((n : Nat) : Int) → PPost p w n (bk num5 f n (40 :: t2)) (RowR w.heap.size) (.returned v) (w4.setCell ⟨p, 1, none⟩ u) := by
              rintro u rfl
              refine PPost.some (a := i) (t' := t4) (by simp [bk, h16, HFU.out, HX.out]) rfl ?_ (H5.out.set1 n) ((((HF1.out.trans HF2.out).trans HF3.out).trans HF4.out).set 1 _)
              have hs1 := HF1.out.size
              have hs2 := HF2.out.size
              exact HV.out.turn (by omega) (by omega) (HF4.out.set 1 _)
            have HE := Lib.hid hend
            clear hend
            go_ret
            exact HE.out _ (by first | rfl | (congr 1; omega) | (rw [hsub]))
          · refine (want_no p 41 t3 (n + 1) w3 h4 (by omega) hh).mono ?_
            rintro r w4 ⟨rfl, hF4⟩
            have HF4 := Lib.hid hF4
            have HH := Lib.hid hh
            clear hF4 h h1 h2 h4 hh
            go_wp2
            refine ⟨rfl, PPost.none ?_ rfl (((HF1.out.trans HF2.out).trans HF3.out).trans HF4.out)⟩
            have hh := HH.out
            simp only [bk, HFU.out, HX.out]
            cases t3 with
            | nil => simp
            | cons a b => simp at hh; simp [hh, h16]
    · have hh : (d :: t2).head? ≠ some 40 := by simp [hd]
      refine (want_no p 40 (d :: t2) n w h (by omega) hh).mono ?_
      rintro r w1 ⟨rfl, hF⟩
      have HF := Lib.hid hF
      clear hF
      go_wp2
      exact ⟨rfl, PPost.none (by simp [bk, hd]) rfl HF.out⟩

/-- One K:F. -/
def ar (num : NumP) (f n : Nat) (t : List UInt8) : Option ((Int × Row) × List UInt8) :=
  match key num t with
  | none => none
  | some (k, t1) => (pG num f true n [] t1).map fun p => ((k, p.1), p.2)
abbrev ArmR (B : Nat) (q : Int × Row) (v : Value) (w' : World) : Prop := ∃ u, v = .agg #[.int .i64 q.1, u] ∧ RowR B q.2 u w'

def col (k : Int) : List UInt8 → Option (Int × List UInt8)
  | [] => none
  | d :: t2 => if d = 58 then some (k, t2) else none
theorem key_dash (t1 : List UInt8) : key num5 (45 :: t1) = col (-1) t1 := by
  simp only [key, if_true]; cases t1 <;> rfl
theorem key_none (t : List UInt8) (hm : t.head? ≠ some 45) (h : num5 t = none) : key num5 t = none := by
  cases t with
  | nil => rfl
  | cons c t1 =>
    have hc : c ≠ 45 := by simpa using hm
    simp [key, if_neg hc, h]
theorem key_some (t : List UInt8) (hm : t.head? ≠ some 45) (k : Nat) (t1 : List UInt8) (h : num5 t = some (k, t1)) : key num5 t = col k t1 := by
  cases t with
  | nil => simp [num5, digs] at h
  | cons c t2 =>
    have hc : c ≠ 45 := by simpa using hm
    simp only [key, if_neg hc, h]
    cases t1 <;> rfl

set_option maxHeartbeats 2000000 in
theorem arm_of (N : Nat) (HR : RowC N) (p : Nat) (t : List UInt8) (n f : Nat) (w : World) (h : Pa w p t n) (hN : t.length ≤ N + 2) (ht : t.length ≤ 1000) (hn : n ≤ 16) (hf : t.length ≤ f) :
    Calls Tryz.prog 77 #[.pointer (some ⟨p, 0, none⟩)] w (PPost p w n (ar num5 f n t) (ArmR w.heap.size)) := by
  have hpl := h.lt
  have hA : Pa (w.alloc (.cells #[.int .i64 0, nilS] 114 (0, 0))) p t n := (Below.heap_alloc _ _ _ hpl).trans h
  have hFA : FrP p w (w.alloc (.cells #[.int .i64 0, nilS] 114 (0, 0))) := (FrP.refl p w).alloc _
  have hBA := heap_alloc_new w (.cells #[.int .i64 0, nilS] 114 (0, 0))
  have hsA : (w.alloc (.cells #[.int .i64 0, nilS] 114 (0, 0))).heap.size = w.heap.size + 1 := by simp
  have HFA := Lib.hid hFA
  have HBA := Lib.hid hBA
  have HSA := Lib.hid hsA
  clear hFA hBA hsA
  go_enter Tryz.func77, Tryz.ntmps77
  go_wp2_with fail
  generalize w.alloc (.cells #[.int .i64 0, nilS] 114 (0, 0)) = wa at *
  by_cases hm : t.head? = some 45
  · obtain ⟨t1, rfl⟩ : ∃ t1, t = 45 :: t1 := by
      cases t with
      | nil => simp at hm
      | cons a b => simp at hm; exact ⟨b, by rw [hm]⟩
    refine (has_yes p 45 t1 n _ hA (by simp at ht; omega)).mono ?_
    rintro r w1 ⟨rfl, h1, hF1⟩
    have hBL := Lib.hid ((hF1.block _ (by have := HSA.out; omega) (by omega)).trans HBA.out)
    have hF1' := HFA.out.trans hF1
    have HF1 := Lib.hid hF1'
    have hs1' := hF1.size
    have hsA := HSA.out
    have hs1'' : w.heap.size < w1.heap.size := by omega
    clear hF1 hF1' hs1' hsA
    have hk := key_dash t1
    have HK := Lib.hid hk
    have hl : t1.length ≤ 1000 ∧ t1.length + 1 ≤ f ∧ t1.length ≤ N + 1 := by simp at hN ht hf; omega
    clear hk hA h hN ht hf hm
    go_wp2_with fail
    cases t1 with
    | nil =>
      refine (want_no p 58 [] n w1 h1 (by simp) (by simp)).mono ?_
      rintro r w2 ⟨rfl, hF2⟩
      have HF2 := Lib.hid hF2
      clear hF2
      go_wp2
      exact ⟨rfl, PPost.none (by simp only [ar]; rw [HK.out, col]) rfl (HF1.out.trans HF2.out)⟩
    | cons d t2 =>
      by_cases hd : d = 58
      · subst hd
        simp only [List.length_cons] at hl
        refine (want_yes p 58 t2 n w1 h1 (by omega)).mono ?_
        rintro r w2 ⟨rfl, h2, hF2⟩
        have HF2 := Lib.hid hF2
        have hs1 := HF1.out.size
        have hs2 := hF2.size
        clear hF2
        go_wp2_with fail
        refine (HR p t2 n w2 h2 (by omega) (by omega) (by omega)).mono ?_
        rintro r w3 ⟨hF3, h3⟩
        have HF3 := Lib.hid hF3
        have hs3 := hF3.size
        clear hF3
        have hfu : pG num5 f true n [] t2 = pG num5 (t2.length + 1) true n [] t2 := pG_fuel num5_short _ _ _ _ _ _ (by omega) (by omega)
        have HFU := Lib.hid hfu
        clear hfu
        generalize hx : pG num5 (t2.length + 1) true n [] t2 = x at h3
        have HX := Lib.hid hx
        clear hx
        cases x with
        | none =>
          simp only at h3
          subst h3
          go_wp2
          exact ⟨rfl, PPost.none (by simp only [ar]; rw [HK.out, col]; simp [HFU.out, HX.out]) rfl ((HF1.out.trans HF2.out).trans HF3.out)⟩
        | some y =>
          obtain ⟨i, t3⟩ := y
          obtain ⟨v, rfl, hv, h4⟩ := h3
          have hB : w3.heap[w.heap.size]? = some (.cells #[.int .i64 0, nilS] 114 (0, 0)) := (HF3.out.block _ (by omega) (by omega)).trans ((HF2.out.block _ (by omega) (by omega)).trans (hBL.out))
          have g0 := cell_of_row w3 w.heap.size 0 _ _ _ hB
          have g1 := cell_of_row w3 w.heap.size 1 _ _ _ hB
          have k0 := Lib.frozen_of_heap hB 0
          have k1 := Lib.frozen_of_heap hB 1
          have HBB := Lib.hid hB
          obtain ⟨so, sc, rfl⟩ := hv.slice
          have HV := Lib.hid hv
          have H4 := Lib.hid h4
          clear h1 h2 h4 hv hB
          go_wp2
          have hlast : ∀ kk : Value, (w3.setCell ⟨w.heap.size, 0, none⟩ kk).setCell ⟨w.heap.size, 1, none⟩ (.slice so i.len sc) = (w3.setCell ⟨w.heap.size, 0, none⟩ kk).setCell ⟨w.heap.size, 1, none⟩ (.slice so i.len sc) ∧ ((w3.setCell ⟨w.heap.size, 0, none⟩ kk).setCell ⟨w.heap.size, 1, none⟩ (.slice so i.len sc)).heap[w.heap.size]? = some (.cells #[kk, .slice so i.len sc] 114 (0, 0)) := by
            intro kk; refine ⟨rfl, ?_⟩
            have := HBB.out
            simp [World.setCell, Array.getElem?_modify, this]
          refine bodyPost_ret (results_cell_row rfl _ _ w.heap.size 114 _ (0, 0) _ rfl (hlast _).2 Tryz.underlying114 rfl (by kernel_rfl)) rfl ?_
          have hs4 : FrP w.heap.size w3 ((w3.setCell ⟨w.heap.size, 0, none⟩ (.int .i64 (-1))).setCell ⟨w.heap.size, 1, none⟩ (.slice so i.len sc)) := ((FrP.refl _ w3).set 0 _).set 1 _
          refine PPost.some (a := (-1, i)) (t' := t3) (by simp only [ar]; rw [HK.out, col]; simp [HFU.out, HX.out]) rfl ⟨_, rfl, ?_⟩ ((hs4.block p (by omega) (by omega)).trans H4.out) ?_
          · exact HV.out.turn (by omega) (by omega) hs4
          · have hq := ((HF1.out.trans HF2.out).trans HF3.out)
            exact ⟨hs4.os.trans hq.os, hs4.tape.trans hq.tape, hs4.output.trans hq.output, Nat.le_trans hq.size hs4.size, fun j hj hp => (hs4.block j (by omega) (by omega)).trans (hq.block j hj hp)⟩
      · have hh : (d :: t2).head? ≠ some 58 := by simp [hd]
        refine (want_no p 58 (d :: t2) n w1 h1 (by omega) hh).mono ?_
        rintro r w2 ⟨rfl, hF2⟩
        have HF2 := Lib.hid hF2
        clear hF2
        go_wp2
        exact ⟨rfl, PPost.none (by simp only [ar]; rw [HK.out, col]; simp [hd]) rfl (HF1.out.trans HF2.out)⟩
  · refine (has_no p 45 t n _ hA (by omega) hm).mono ?_
    rintro r w0 ⟨rfl, h0, hF0⟩
    have HF0 := Lib.hid hF0
    have hs0 := hF0.size
    clear hF0
    go_wp2_with fail
    refine (number_any p t n w0 h0 (by omega)).mono ?_
    rintro r w1 ⟨hF1, h1⟩
    have hsA := HSA.out
    have hs1' := hF1.size
    have hBL := Lib.hid ((hF1.block _ (by omega) (by omega)).trans ((HF0.out.block _ (by omega) (by omega)).trans HBA.out))
    have hF1' := (HFA.out.trans HF0.out).trans hF1
    have HF1 := Lib.hid hF1'
    have hs1'' : w.heap.size < w1.heap.size := by omega
    clear hF1 hF1' hs1' hsA hs0
    generalize hx0 : num5 t = x0 at h1
    have HX0 := Lib.hid hx0
    have HM := Lib.hid hm
    clear hA h hm hx0 h0
    cases x0 with
    | none =>
      simp only at h1
      subst h1
      go_wp2
      exact ⟨rfl, PPost.none (by simp only [ar]; rw [key_none t HM.out HX0.out]) rfl HF1.out⟩
    | some y =>
      obtain ⟨k, t1⟩ := y
      obtain ⟨v0, rfl, rfl, h1⟩ := h1
      have hl : t1.length ≤ 1000 ∧ t1.length + 1 ≤ f ∧ t1.length ≤ N + 1 := by have := num5_lt HX0.out; omega
      have HK := Lib.hid (key_some t HM.out k t1 HX0.out)
      clear hN ht hf
      go_wp2_with fail
      cases t1 with
      | nil =>
        refine (want_no p 58 [] n w1 h1 (by simp) (by simp)).mono ?_
        rintro r w2 ⟨rfl, hF2⟩
        have HF2 := Lib.hid hF2
        clear hF2
        go_wp2
        exact ⟨rfl, PPost.none (by simp only [ar]; rw [HK.out, col]) rfl (HF1.out.trans HF2.out)⟩
      | cons d t2 =>
        by_cases hd : d = 58
        · subst hd
          simp only [List.length_cons] at hl
          refine (want_yes p 58 t2 n w1 h1 (by omega)).mono ?_
          rintro r w2 ⟨rfl, h2, hF2⟩
          have HF2 := Lib.hid hF2
          have hs1 := HF1.out.size
          have hs2 := hF2.size
          clear hF2
          go_wp2_with fail
          refine (HR p t2 n w2 h2 (by omega) (by omega) (by omega)).mono ?_
          rintro r w3 ⟨hF3, h3⟩
          have HF3 := Lib.hid hF3
          have hs3 := hF3.size
          clear hF3
          have hfu : pG num5 f true n [] t2 = pG num5 (t2.length + 1) true n [] t2 := pG_fuel num5_short _ _ _ _ _ _ (by omega) (by omega)
          have HFU := Lib.hid hfu
          clear hfu
          generalize hx : pG num5 (t2.length + 1) true n [] t2 = x at h3
          have HX := Lib.hid hx
          clear hx
          cases x with
          | none =>
            simp only at h3
            subst h3
            go_wp2
            exact ⟨rfl, PPost.none (by simp only [ar]; rw [HK.out, col]; simp [HFU.out, HX.out]) rfl ((HF1.out.trans HF2.out).trans HF3.out)⟩
          | some y =>
            obtain ⟨i, t3⟩ := y
            obtain ⟨v, rfl, hv, h4⟩ := h3
            have hB : w3.heap[w.heap.size]? = some (.cells #[.int .i64 0, nilS] 114 (0, 0)) := (HF3.out.block _ (by omega) (by omega)).trans ((HF2.out.block _ (by omega) (by omega)).trans (hBL.out))
            have g0 := cell_of_row w3 w.heap.size 0 _ _ _ hB
            have g1 := cell_of_row w3 w.heap.size 1 _ _ _ hB
            have k0 := Lib.frozen_of_heap hB 0
            have k1 := Lib.frozen_of_heap hB 1
            have HBB := Lib.hid hB
            obtain ⟨so, sc, rfl⟩ := hv.slice
            have HV := Lib.hid hv
            have H4 := Lib.hid h4
            clear h1 h2 h4 hv hB
            go_wp2
            have hlast : ∀ kk : Value, (w3.setCell ⟨w.heap.size, 0, none⟩ kk).setCell ⟨w.heap.size, 1, none⟩ (.slice so i.len sc) = (w3.setCell ⟨w.heap.size, 0, none⟩ kk).setCell ⟨w.heap.size, 1, none⟩ (.slice so i.len sc) ∧ ((w3.setCell ⟨w.heap.size, 0, none⟩ kk).setCell ⟨w.heap.size, 1, none⟩ (.slice so i.len sc)).heap[w.heap.size]? = some (.cells #[kk, .slice so i.len sc] 114 (0, 0)) := by
              intro kk; refine ⟨rfl, ?_⟩
              have := HBB.out
              simp [World.setCell, Array.getElem?_modify, this]
            refine bodyPost_ret (results_cell_row rfl _ _ w.heap.size 114 _ (0, 0) _ rfl (hlast _).2 Tryz.underlying114 rfl (by kernel_rfl)) rfl ?_
            have hs4 : FrP w.heap.size w3 ((w3.setCell ⟨w.heap.size, 0, none⟩ (.int .i64 (k : Int))).setCell ⟨w.heap.size, 1, none⟩ (.slice so i.len sc)) := ((FrP.refl _ w3).set 0 _).set 1 _
            refine PPost.some (a := ((k : Int), i)) (t' := t3) (by simp only [ar]; rw [HK.out, col]; simp [HFU.out, HX.out]) rfl ⟨_, rfl, ?_⟩ ((hs4.block p (by omega) (by omega)).trans H4.out) ?_
            · exact HV.out.turn (by omega) (by omega) hs4
            · have hq := ((HF1.out.trans HF2.out).trans HF3.out)
              exact ⟨hs4.os.trans hq.os, hs4.tape.trans hq.tape, hs4.output.trans hq.output, Nat.le_trans hq.size hs4.size, fun j hj hp => (hs4.block j (by omega) (by omega)).trans (hq.block j hj hp)⟩
        · have hh : (d :: t2).head? ≠ some 58 := by simp [hd]
          refine (want_no p 58 (d :: t2) n w1 h1 (by omega) hh).mono ?_
          rintro r w2 ⟨rfl, hF2⟩
          have HF2 := Lib.hid hF2
          clear hF2
          go_wp2
          exact ⟨rfl, PPost.none (by simp only [ar]; rw [HK.out, col]; simp [hd]) rfl (HF1.out.trans HF2.out)⟩
end Go.Proofs.YtjogcdkebplcpaaGreatDoor
