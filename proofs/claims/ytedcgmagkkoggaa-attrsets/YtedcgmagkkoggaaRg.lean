/-
  The document's Get answers as set does. Its condition: the numbers lie in memory.
-/
import Derived.Test.YtedcgmagkkoggaaSv
namespace Go.Proofs.Ytedcgmagkkoggaa
open Go.RowKit
/-- What is still to be taken, behind what was taken. -/
def tl5 (b0 b1 b2 b3 : Bool) (x0 x1 x2 x3 h0 a0 a1 : Int) (L : List Int) : Option (Array Value × List Int) :=
  match moO L with
  | none => none
  | some (h1, m0, m1, q) => some (#[.bool b0, .bool b1, .bool b2, .bool b3, .int .i64 x0, .int .i64 x1, .int .i64 x2, .int .i64 x3, .int .i64 h0, .int .i64 h1, .int .i64 a0, .int .i64 a1, .int .i64 m0, .int .i64 m1], q)
def tl4 (b0 b1 b2 b3 : Bool) (x0 x1 x2 x3 : Int) (L : List Int) : Option (Array Value × List Int) :=
  match moO L with
  | none => none
  | some (h0, a0, a1, q) => tl5 b0 b1 b2 b3 x0 x1 x2 x3 h0 a0 a1 q
def tl3 (b0 b1 b2 : Bool) (x0 x1 x2 : Int) (L : List Int) : Option (Array Value × List Int) :=
  match peO L with
  | none => none
  | some (b3, x3, q) => tl4 b0 b1 b2 b3 x0 x1 x2 x3 q
def tl2 (b0 b1 : Bool) (x0 x1 : Int) (L : List Int) : Option (Array Value × List Int) :=
  match peO L with
  | none => none
  | some (b2, x2, q) => tl3 b0 b1 b2 x0 x1 x2 q
def tl1 (b0 : Bool) (x0 : Int) (L : List Int) : Option (Array Value × List Int) :=
  match peO L with
  | none => none
  | some (b1, x1, q) => tl2 b0 b1 x0 x1 q
def tl0 (L : List Int) : Option (Array Value × List Int) :=
  match peO L with
  | none => none
  | some (b0, x0, q) => tl1 b0 x0 q
theorem set_tl (L : List Int) : setO L = tl0 L := by
  unfold setO tl0
  cases peO L with
  | none => rfl
  | some y0 =>
    obtain ⟨b0, x0, L0⟩ := y0
    dsimp only
    unfold tl1
    cases peO L0 with
    | none => rfl
    | some y1 =>
      obtain ⟨b1, x1, L1⟩ := y1
      dsimp only
      unfold tl2
      cases peO L1 with
      | none => rfl
      | some y2 =>
        obtain ⟨b2, x2, L2⟩ := y2
        dsimp only
        unfold tl3
        cases peO L2 with
        | none => rfl
        | some y3 =>
          obtain ⟨b3, x3, L3⟩ := y3
          dsimp only
          unfold tl4
          cases moO L3 with
          | none => rfl
          | some y4 =>
            obtain ⟨h0, a0, a1, L4⟩ := y4
            dsimp only
            unfold tl5
            cases moO L4 <;> rfl
theorem drop_at (L : List Int) (n : Nat) (h : n < L.length) : L.drop n = L.getD n 0 :: L.drop (n + 1) := by
  rw [List.drop_eq_getElem_cons h]
  simp [List.getD_eq_getElem?_getD, List.getElem?_eq_getElem h]
theorem drop_end (L : List Int) (n : Nat) (h : ¬ n < L.length) : L.drop n = [] := List.drop_eq_nil_of_le (by omega)
/-- The document's Set in its block. -/
def GA (w : World) (B : Nat) (cs : Array Value) : Prop := w.heap[B]? = some (.cells cs 40 (0, 0))
theorem GA.put {w : World} {B : Nat} {cs : Array Value} (h : GA w B cs) (i : Nat) (u : Value) : GA (w.setCell ⟨B, i, none⟩ u) B (cs.setIfInBounds i u) := by
  unfold GA at h ⊢
  simp [World.setCell, Array.getElem?_modify, h]
/-- What the walk keeps. -/
structure GS (w0 : World) (R S : Nat) (ao : Option Addr) (L : List Int) (cs : Array Value) (w : World) : Prop where
  s : GA w S cs
  r : GA w R #[.bool false, .bool false, .bool false, .bool false, .int .i64 0, .int .i64 0, .int .i64 0, .int .i64 0, .int .i64 0, .int .i64 0, .int .i64 0, .int .i64 0, .int .i64 0, .int .i64 0]
  i : IntsB w w0.heap.size ao L
  low : Below w0.heap.size w0 w
  rs : R ≠ S
  hR : w0.heap.size ≤ R
  hS : w0.heap.size ≤ S
theorem GS.put {w0 w : World} {R S : Nat} {ao : Option Addr} {L : List Int} {cs : Array Value} (h : GS w0 R S ao L cs w) (i : Nat) (u : Value) : GS w0 R S ao L (cs.setIfInBounds i u) (w.setCell ⟨S, i, none⟩ u) := by
  have hF := Fq.set S w i u
  exact ⟨h.s.put i u, (hF.block R (Array.getElem?_eq_some_iff.1 h.r).1 h.rs).trans h.r, h.i.far hF h.hS h.low.size, hF.below h.low h.hS h.low.size, h.rs, h.hR, h.hS⟩
theorem GS.drewN {w0 w : World} {R S : Nat} {ao : Option Addr} {L : List Int} {cs : Array Value} (h : GS w0 R S ao L cs w) (n : Nat) : GS w0 R S ao L cs (w.drewN n) := ⟨h.s, h.r, h.i, below_drewN h.low n, h.rs, h.hR, h.hS⟩
theorem GS.cell {w0 w : World} {R S : Nat} {ao : Option Addr} {L : List Int} {cs : Array Value} (h : GS w0 R S ao L cs w) (i : Nat) {u : Value} (hu : cs[i]? = some u) : w.cell? ⟨S, i, none⟩ = some u ∧ w.frozen? ⟨S, i, none⟩ = false :=
  ⟨by rw [cell_of_row w S i _ _ _ h.s]; exact hu, Lib.frozen_of_heap h.s i⟩
theorem GS.num {w0 w : World} {R S : Nat} {ao : Option Addr} {L : List Int} {cs : Array Value} (h : GS w0 R S ao L cs w) (n : Nat) (hn : n < L.length) : ∃ g off, ao = some ⟨g, off, none⟩ ∧ g ≠ S ∧ w.cell? ⟨g, off + n, none⟩ = some (.int .i64 (L.getD n 0)) := by
  obtain ⟨g, off, e1, e2, e3⟩ := h.i n hn
  have := h.hS
  exact ⟨g, off, e1, by omega, by rw [e3]; simp [List.getD_eq_getElem?_getD, List.getElem?_eq_getElem hn]⟩
theorem GS.start (w : World) (ao : Option Addr) (L : List Int) (hI : IntsAt w ao L) : GS w w.heap.size (w.heap.size + 1) ao L #[.bool false, .bool false, .bool false, .bool false, .int .i64 0, .int .i64 0, .int .i64 0, .int .i64 0, .int .i64 0, .int .i64 0, .int .i64 0, .int .i64 0, .int .i64 0, .int .i64 0] ((w.alloc (.cells #[.bool false, .bool false, .bool false, .bool false, .int .i64 0, .int .i64 0, .int .i64 0, .int .i64 0, .int .i64 0, .int .i64 0, .int .i64 0, .int .i64 0, .int .i64 0, .int .i64 0] 40)).alloc (.cells #[.bool false, .bool false, .bool false, .bool false, .int .i64 0, .int .i64 0, .int .i64 0, .int .i64 0, .int .i64 0, .int .i64 0, .int .i64 0, .int .i64 0, .int .i64 0, .int .i64 0] 40)) := by
  have h2 := heap_alloc_new (w.alloc (.cells #[.bool false, .bool false, .bool false, .bool false, .int .i64 0, .int .i64 0, .int .i64 0, .int .i64 0, .int .i64 0, .int .i64 0, .int .i64 0, .int .i64 0, .int .i64 0, .int .i64 0] 40)) (.cells #[.bool false, .bool false, .bool false, .bool false, .int .i64 0, .int .i64 0, .int .i64 0, .int .i64 0, .int .i64 0, .int .i64 0, .int .i64 0, .int .i64 0, .int .i64 0, .int .i64 0] 40)
  rw [show (w.alloc (.cells #[.bool false, .bool false, .bool false, .bool false, .int .i64 0, .int .i64 0, .int .i64 0, .int .i64 0, .int .i64 0, .int .i64 0, .int .i64 0, .int .i64 0, .int .i64 0, .int .i64 0] 40)).heap.size = w.heap.size + 1 from by simp] at h2
  have hB := ((Below.refl w.heap.size w).alloc (Nat.le_refl _) (.cells #[.bool false, .bool false, .bool false, .bool false, .int .i64 0, .int .i64 0, .int .i64 0, .int .i64 0, .int .i64 0, .int .i64 0, .int .i64 0, .int .i64 0, .int .i64 0, .int .i64 0] 40)).alloc (by simp) (.cells #[.bool false, .bool false, .bool false, .bool false, .int .i64 0, .int .i64 0, .int .i64 0, .int .i64 0, .int .i64 0, .int .i64 0, .int .i64 0, .int .i64 0, .int .i64 0, .int .i64 0] 40)
  refine ⟨h2, ((World.grownBy_alloc _ _ none).block w.heap.size (by simp) (by simp)).trans (heap_alloc_new w _), ?_, hB, by omega, Nat.le_refl _, by omega⟩
  intro i hi
  obtain ⟨g, off, e1, e2, e3⟩ := hI i hi
  exact ⟨g, off, e1, e2, (hB.cell (p := ⟨g, _, none⟩) e2).trans e3⟩
theorem results_c1 {P : Program} {fn : Func} {p u : Tmp} {ty : TypeId} (h : fn.results = #[.cell p ty, .tmp u]) (tmps : Array Value) (w : World) {a : Addr} (hp : tmps.getD p undef = .pointer (some a)) {x y : Value} (hL : (loadVar ty a).run P w = .ok x w)
    (hu : tmps.getD u undef = y) : (results fn tmps).run P w = .ok (.tuple #[x, y]) w := by
  subst hu
  have hp' : tmps[p]?.getD undef = .pointer (some a) := by simpa using hp
  simp [results, h, hp', asAddr, hL]
/-- What the document's Get answers. -/
def RgTo (w : World) (n : Nat) (x : Option (Array Value × List Int)) (r : Ending) (w' : World) : Prop :=
  Below w.heap.size w w' ∧ match x with
    | none => r = .returned (.tuple #[.agg #[.bool false, .bool false, .bool false, .bool false, .int .i64 0, .int .i64 0, .int .i64 0, .int .i64 0, .int .i64 0, .int .i64 0, .int .i64 0, .int .i64 0, .int .i64 0, .int .i64 0], .int .i64 (-1)])
    | some (cs, M) => ∃ k : Nat, r = .returned (.tuple #[.agg cs, .int .i64 k]) ∧ k + M.length = n
/-- No Set: what is left behind. -/
theorem GS.none {w0 w : World} {R S : Nat} {ao : Option Addr} {L : List Int} {cs : Array Value} (h : GS w0 R S ao L cs w) : Below w0.heap.size w0 (w.setRow R #[.bool false, .bool false, .bool false, .bool false, .int .i64 0, .int .i64 0, .int .i64 0, .int .i64 0, .int .i64 0, .int .i64 0, .int .i64 0, .int .i64 0, .int .i64 0, .int .i64 0]) ∧ (loadVar 40 ⟨R, 0, none⟩).run Try.prog (w.setRow R #[.bool false, .bool false, .bool false, .bool false, .int .i64 0, .int .i64 0, .int .i64 0, .int .i64 0, .int .i64 0, .int .i64 0, .int .i64 0, .int .i64 0, .int .i64 0, .int .i64 0]) = .ok (.agg #[.bool false, .bool false, .bool false, .bool false, .int .i64 0, .int .i64 0, .int .i64 0, .int .i64 0, .int .i64 0, .int .i64 0, .int .i64 0, .int .i64 0, .int .i64 0, .int .i64 0]) (w.setRow R #[.bool false, .bool false, .bool false, .bool false, .int .i64 0, .int .i64 0, .int .i64 0, .int .i64 0, .int .i64 0, .int .i64 0, .int .i64 0, .int .i64 0, .int .i64 0, .int .i64 0]) := by
  have hF := set_row_fq' w R #[.bool false, .bool false, .bool false, .bool false, .int .i64 0, .int .i64 0, .int .i64 0, .int .i64 0, .int .i64 0, .int .i64 0, .int .i64 0, .int .i64 0, .int .i64 0, .int .i64 0]
  refine ⟨hF.below h.low h.hR h.low.size, run_loadVar_row _ _ 40 40 _ (0, 0) _ ?_ Try.underlying40 rfl (by kernel_rfl)⟩
  have := h.r
  unfold GA at this
  simp [World.setRow, Array.getElem?_modify, this]
set_option maxRecDepth 100000 in
set_option maxHeartbeats 8000000 in
theorem refget_any (L : List Int) (ao : Option Addr) (cap : Nat) (w : World) (hI : IntsAt w ao L) (hl : L.length ≤ 140737488355328) : Calls Try.prog 16 #[.slice ao L.length cap] w (RgTo w L.length (setO L)) := by
  have HG0 := Lib.hid (GS.start w ao L hI)
  clear hI
  go_enter Try.func16, Try.ntmps16
  go_upto_region 2 with (fail)
  generalize (w.alloc (.cells #[.bool false, .bool false, .bool false, .bool false, .int .i64 0, .int .i64 0, .int .i64 0, .int .i64 0, .int .i64 0, .int .i64 0, .int .i64 0, .int .i64 0, .int .i64 0, .int .i64 0] 40)).alloc (.cells #[.bool false, .bool false, .bool false, .bool false, .int .i64 0, .int .i64 0, .int .i64 0, .int .i64 0, .int .i64 0, .int .i64 0, .int .i64 0, .int .i64 0, .int .i64 0, .int .i64 0] 40) = W at *
  generalize w.heap.size + 1 = S at *
  generalize hR : w.heap.size = R at *
  have HR := Lib.hid hR
  clear hR
  go_wp2_with fail
  go_loopw [5, 6] (fun a i wr => ∃ n : Nat, a = .int .i64 n ∧ n ≤ L.length ∧ (i = .int .i64 0 ∧ setO L = tl0 (L.drop n) ∧ GS w R S ao L #[.bool false, .bool false, .bool false, .bool false, .int .i64 0, .int .i64 0, .int .i64 0, .int .i64 0, .int .i64 0, .int .i64 0, .int .i64 0, .int .i64 0, .int .i64 0, .int .i64 0] wr ∨ i = .int .i64 1 ∧ (∃ (b0 : Bool) (x0 : Int), setO L = tl1 b0 x0 (L.drop n) ∧ GS w R S ao L #[.bool b0, .bool false, .bool false, .bool false, .int .i64 x0, .int .i64 0, .int .i64 0, .int .i64 0, .int .i64 0, .int .i64 0, .int .i64 0, .int .i64 0, .int .i64 0, .int .i64 0] wr) ∨ i = .int .i64 2 ∧ (∃ (b0 b1 : Bool) (x0 x1 : Int), setO L = tl2 b0 b1 x0 x1 (L.drop n) ∧ GS w R S ao L #[.bool b0, .bool b1, .bool false, .bool false, .int .i64 x0, .int .i64 x1, .int .i64 0, .int .i64 0, .int .i64 0, .int .i64 0, .int .i64 0, .int .i64 0, .int .i64 0, .int .i64 0] wr) ∨ i = .int .i64 3 ∧ (∃ (b0 b1 b2 : Bool) (x0 x1 x2 : Int), setO L = tl3 b0 b1 b2 x0 x1 x2 (L.drop n) ∧ GS w R S ao L #[.bool b0, .bool b1, .bool b2, .bool false, .int .i64 x0, .int .i64 x1, .int .i64 x2, .int .i64 0, .int .i64 0, .int .i64 0, .int .i64 0, .int .i64 0, .int .i64 0, .int .i64 0] wr) ∨ i = .int .i64 4 ∧ (∃ (b0 b1 b2 b3 : Bool) (x0 x1 x2 x3 : Int), setO L = tl4 b0 b1 b2 b3 x0 x1 x2 x3 (L.drop n) ∧ GS w R S ao L #[.bool b0, .bool b1, .bool b2, .bool b3, .int .i64 x0, .int .i64 x1, .int .i64 x2, .int .i64 x3, .int .i64 0, .int .i64 0, .int .i64 0, .int .i64 0, .int .i64 0, .int .i64 0] wr))) (fun _ i _ => 4 - (intOf i).toNat)
  case atStart => exact ⟨0, rfl, Nat.zero_le _, .inl ⟨rfl, set_tl L, HG0.out⟩⟩
  case round =>
    clear HG0
    obtain ⟨n, rfl, hn, hrel⟩ := hrel
    rcases hrel with ⟨rfl, hr⟩ | ⟨rfl, hr⟩ | ⟨rfl, hr⟩ | ⟨rfl, hr⟩ | ⟨rfl, hr⟩
    · obtain ⟨hs, hg⟩ := hr
      have HS := Lib.hid hs
      have HG := Lib.hid hg
      obtain ⟨d0, e0⟩ := hg.cell 0 (u := .bool false) rfl
      obtain ⟨d1, e1⟩ := hg.cell 4 (u := .int .i64 0) rfl
      clear hs
      by_cases hlt : n < L.length
      · obtain ⟨g, off, hao, hgS, hc⟩ := hg.num n hlt
        have hdr := drop_at L n hlt
        have hd : decide ((L.length : Int) ≤ (n : Int)) = false := decide_eq_false (by omega)
        generalize hxx : L.getD n 0 = x at *
        clear hxx
        subst hao
        have HDR := Lib.hid hdr
        clear hg hdr
        by_cases hx0 : x < 0
        · have dx0 : decide (x < 0) = true := decide_eq_true hx0
          have hk : ¬ (0 ≤ x ∧ x ≤ 1) := by omega
          have hX : setO L = none := by
            rw [HS.out]
            unfold tl0
            rw [HDR.out]
            simp only [peO, upO, if_neg hk]
          rw [hX]
          clear hX
          clear hx0 hk
          go_wp2_with (refine wpList_store_row rfl 40 _ _ rfl R #[.bool false, .bool false, .bool false, .bool false, .int .i64 0, .int .i64 0, .int .i64 0, .int .i64 0, .int .i64 0, .int .i64 0, .int .i64 0, .int .i64 0, .int .i64 0, .int .i64 0] rfl rfl 40 _ HG.out.r (by kernel_rfl) rfl (by simp [Value.oneCell']) ?_)
          have HN := Lib.hid HG.out.none
          generalize wr.setRow R #[.bool false, .bool false, .bool false, .bool false, .int .i64 0, .int .i64 0, .int .i64 0, .int .i64 0, .int .i64 0, .int .i64 0, .int .i64 0, .int .i64 0, .int .i64 0, .int .i64 0] = wz at *
          refine bodyPost_ret (results_c1 (by rfl) _ _ (by rfl) HN.out.2 (by rfl)) rfl ⟨HN.out.1, ?_⟩
          rfl
        · have dx0 : decide (x < 0) = false := decide_eq_false hx0
          by_cases hx1 : 1 < x
          · have dx1 : decide (1 < x) = true := decide_eq_true hx1
            have hk : ¬ (0 ≤ x ∧ x ≤ 1) := by omega
            have hX : setO L = none := by
              rw [HS.out]
              unfold tl0
              rw [HDR.out]
              simp only [peO, upO, if_neg hk]
            rw [hX]
            clear hX
            clear hx0 hx1 hk
            go_wp2_with (refine wpList_store_row rfl 40 _ _ rfl R #[.bool false, .bool false, .bool false, .bool false, .int .i64 0, .int .i64 0, .int .i64 0, .int .i64 0, .int .i64 0, .int .i64 0, .int .i64 0, .int .i64 0, .int .i64 0, .int .i64 0] rfl rfl 40 _ HG.out.r (by kernel_rfl) rfl (by simp [Value.oneCell']) ?_)
            have HN := Lib.hid HG.out.none
            generalize wr.setRow R #[.bool false, .bool false, .bool false, .bool false, .int .i64 0, .int .i64 0, .int .i64 0, .int .i64 0, .int .i64 0, .int .i64 0, .int .i64 0, .int .i64 0, .int .i64 0, .int .i64 0] = wz at *
            refine bodyPost_ret (results_c1 (by rfl) _ _ (by rfl) HN.out.2 (by rfl)) rfl ⟨HN.out.1, ?_⟩
            rfl
          · have dx1 : decide (1 < x) = false := decide_eq_false hx1
            obtain rfl | rfl : x = 0 ∨ x = 1 := by omega
            · have hnx : setO L = tl1 false 0 (L.drop (n + 1)) := by
                rw [HS.out, HDR.out]
                rfl
              have HX := Lib.hid hnx
              have HP := Lib.hid (HG.out.put 0 (.bool false))
              clear hnx hx0 hx1
              go_wp2
              exact ⟨⟨n + 1, by go_num, by omega, .inr (.inl ⟨rfl, ⟨false, 0, HX.out, HP.out⟩⟩)⟩, by simp [intOf]⟩
            · by_cases hlt2 : n + 1 < L.length
              · obtain ⟨g2, off2, hao2, _, hc2⟩ := HG.out.num (n + 1) hlt2
                injection hao2 with hao2
                injection hao2 with e2 e3 _
                subst e2 e3
                have hdr2 := drop_at L (n + 1) hlt2
                generalize hyy : L.getD (n + 1) 0 = y at *
                clear hyy
                have hnx : setO L = tl1 true y (L.drop (n + 1 + 1)) := by
                  rw [HS.out, HDR.out, hdr2]
                  rfl
                have HX := Lib.hid hnx
                have hd2 : decide ((L.length : Int) ≤ (n : Int) + 1) = false := decide_eq_false (by omega)
                have HP := Lib.hid ((HG.out.put 0 (.bool true)).put 4 (.int .i64 y))
                have hw1 : IntKind.i64.wrap ((n : Int) + 1) = (n : Int) + 1 := by rw [IntKind.wrap_i64]; omega
                clear hnx hx0 hx1 hdr2
                go_wp2
                exact ⟨⟨n + 1 + 1, by go_num, by omega, .inr (.inl ⟨rfl, ⟨true, y, HX.out, HP.out⟩⟩)⟩, by simp [intOf]⟩
              · have hdr2 := drop_end L (n + 1) hlt2
                have hd2 : decide ((L.length : Int) ≤ (n : Int) + 1) = true := decide_eq_true (by omega)
                have HP := Lib.hid (HG.out.put 0 (.bool true))
                have hw1 : IntKind.i64.wrap ((n : Int) + 1) = (n : Int) + 1 := by rw [IntKind.wrap_i64]; omega
                have hX : setO L = none := by
                  rw [HS.out]
                  unfold tl0
                  rw [HDR.out, hdr2]
                  rfl
                rw [hX]
                clear hX
                clear hx0 hx1 hdr2
                go_wp2_with (refine wpList_store_row rfl 40 _ _ rfl R #[.bool false, .bool false, .bool false, .bool false, .int .i64 0, .int .i64 0, .int .i64 0, .int .i64 0, .int .i64 0, .int .i64 0, .int .i64 0, .int .i64 0, .int .i64 0, .int .i64 0] rfl rfl 40 _ HP.out.r (by kernel_rfl) rfl (by simp [Value.oneCell']) ?_)
                have HN := Lib.hid HP.out.none
                generalize (wr.setCell ⟨S, 0, none⟩ (.bool true)).setRow R #[.bool false, .bool false, .bool false, .bool false, .int .i64 0, .int .i64 0, .int .i64 0, .int .i64 0, .int .i64 0, .int .i64 0, .int .i64 0, .int .i64 0, .int .i64 0, .int .i64 0] = wz at *
                refine bodyPost_ret (results_c1 (by rfl) _ _ (by rfl) HN.out.2 (by rfl)) rfl ⟨HN.out.1, ?_⟩
                rfl
      · have hd : decide ((L.length : Int) ≤ (n : Int)) = true := decide_eq_true (by omega)
        have hdr := drop_end L n hlt
        have hX : setO L = none := by
          rw [HS.out]
          unfold tl0
          rw [hdr]
          rfl
        rw [hX]
        clear hX
        clear hg hdr
        go_wp2_with (refine wpList_store_row rfl 40 _ _ rfl R #[.bool false, .bool false, .bool false, .bool false, .int .i64 0, .int .i64 0, .int .i64 0, .int .i64 0, .int .i64 0, .int .i64 0, .int .i64 0, .int .i64 0, .int .i64 0, .int .i64 0] rfl rfl 40 _ HG.out.r (by kernel_rfl) rfl (by simp [Value.oneCell']) ?_)
        have HN := Lib.hid HG.out.none
        generalize wr.setRow R #[.bool false, .bool false, .bool false, .bool false, .int .i64 0, .int .i64 0, .int .i64 0, .int .i64 0, .int .i64 0, .int .i64 0, .int .i64 0, .int .i64 0, .int .i64 0, .int .i64 0] = wz at *
        refine bodyPost_ret (results_c1 (by rfl) _ _ (by rfl) HN.out.2 (by rfl)) rfl ⟨HN.out.1, ?_⟩
        rfl
    · obtain ⟨b0, x0, hs, hg⟩ := hr
      have HS := Lib.hid hs
      have HG := Lib.hid hg
      obtain ⟨d0, e0⟩ := hg.cell 1 (u := .bool false) rfl
      obtain ⟨d1, e1⟩ := hg.cell 5 (u := .int .i64 0) rfl
      clear hs
      by_cases hlt : n < L.length
      · obtain ⟨g, off, hao, hgS, hc⟩ := hg.num n hlt
        have hdr := drop_at L n hlt
        have hd : decide ((L.length : Int) ≤ (n : Int)) = false := decide_eq_false (by omega)
        generalize hxx : L.getD n 0 = x at *
        clear hxx
        subst hao
        have HDR := Lib.hid hdr
        clear hg hdr
        by_cases hx0 : x < 0
        · have dx0 : decide (x < 0) = true := decide_eq_true hx0
          have hk : ¬ (0 ≤ x ∧ x ≤ 1) := by omega
          have hX : setO L = none := by
            rw [HS.out]
            unfold tl1
            rw [HDR.out]
            simp only [peO, upO, if_neg hk]
          rw [hX]
          clear hX
          clear hx0 hk
          go_wp2_with (refine wpList_store_row rfl 40 _ _ rfl R #[.bool false, .bool false, .bool false, .bool false, .int .i64 0, .int .i64 0, .int .i64 0, .int .i64 0, .int .i64 0, .int .i64 0, .int .i64 0, .int .i64 0, .int .i64 0, .int .i64 0] rfl rfl 40 _ HG.out.r (by kernel_rfl) rfl (by simp [Value.oneCell']) ?_)
          have HN := Lib.hid HG.out.none
          generalize wr.setRow R #[.bool false, .bool false, .bool false, .bool false, .int .i64 0, .int .i64 0, .int .i64 0, .int .i64 0, .int .i64 0, .int .i64 0, .int .i64 0, .int .i64 0, .int .i64 0, .int .i64 0] = wz at *
          refine bodyPost_ret (results_c1 (by rfl) _ _ (by rfl) HN.out.2 (by rfl)) rfl ⟨HN.out.1, ?_⟩
          rfl
        · have dx0 : decide (x < 0) = false := decide_eq_false hx0
          by_cases hx1 : 1 < x
          · have dx1 : decide (1 < x) = true := decide_eq_true hx1
            have hk : ¬ (0 ≤ x ∧ x ≤ 1) := by omega
            have hX : setO L = none := by
              rw [HS.out]
              unfold tl1
              rw [HDR.out]
              simp only [peO, upO, if_neg hk]
            rw [hX]
            clear hX
            clear hx0 hx1 hk
            go_wp2_with (refine wpList_store_row rfl 40 _ _ rfl R #[.bool false, .bool false, .bool false, .bool false, .int .i64 0, .int .i64 0, .int .i64 0, .int .i64 0, .int .i64 0, .int .i64 0, .int .i64 0, .int .i64 0, .int .i64 0, .int .i64 0] rfl rfl 40 _ HG.out.r (by kernel_rfl) rfl (by simp [Value.oneCell']) ?_)
            have HN := Lib.hid HG.out.none
            generalize wr.setRow R #[.bool false, .bool false, .bool false, .bool false, .int .i64 0, .int .i64 0, .int .i64 0, .int .i64 0, .int .i64 0, .int .i64 0, .int .i64 0, .int .i64 0, .int .i64 0, .int .i64 0] = wz at *
            refine bodyPost_ret (results_c1 (by rfl) _ _ (by rfl) HN.out.2 (by rfl)) rfl ⟨HN.out.1, ?_⟩
            rfl
          · have dx1 : decide (1 < x) = false := decide_eq_false hx1
            obtain rfl | rfl : x = 0 ∨ x = 1 := by omega
            · have hnx : setO L = tl2 b0 false x0 0 (L.drop (n + 1)) := by
                rw [HS.out, HDR.out]
                rfl
              have HX := Lib.hid hnx
              have HP := Lib.hid (HG.out.put 1 (.bool false))
              clear hnx hx0 hx1
              go_wp2
              exact ⟨⟨n + 1, by go_num, by omega, .inr (.inr (.inl ⟨rfl, ⟨b0, false, x0, 0, HX.out, HP.out⟩⟩))⟩, by simp [intOf]⟩
            · by_cases hlt2 : n + 1 < L.length
              · obtain ⟨g2, off2, hao2, _, hc2⟩ := HG.out.num (n + 1) hlt2
                injection hao2 with hao2
                injection hao2 with e2 e3 _
                subst e2 e3
                have hdr2 := drop_at L (n + 1) hlt2
                generalize hyy : L.getD (n + 1) 0 = y at *
                clear hyy
                have hnx : setO L = tl2 b0 true x0 y (L.drop (n + 1 + 1)) := by
                  rw [HS.out, HDR.out, hdr2]
                  rfl
                have HX := Lib.hid hnx
                have hd2 : decide ((L.length : Int) ≤ (n : Int) + 1) = false := decide_eq_false (by omega)
                have HP := Lib.hid ((HG.out.put 1 (.bool true)).put 5 (.int .i64 y))
                have hw1 : IntKind.i64.wrap ((n : Int) + 1) = (n : Int) + 1 := by rw [IntKind.wrap_i64]; omega
                clear hnx hx0 hx1 hdr2
                go_wp2
                exact ⟨⟨n + 1 + 1, by go_num, by omega, .inr (.inr (.inl ⟨rfl, ⟨b0, true, x0, y, HX.out, HP.out⟩⟩))⟩, by simp [intOf]⟩
              · have hdr2 := drop_end L (n + 1) hlt2
                have hd2 : decide ((L.length : Int) ≤ (n : Int) + 1) = true := decide_eq_true (by omega)
                have HP := Lib.hid (HG.out.put 1 (.bool true))
                have hw1 : IntKind.i64.wrap ((n : Int) + 1) = (n : Int) + 1 := by rw [IntKind.wrap_i64]; omega
                have hX : setO L = none := by
                  rw [HS.out]
                  unfold tl1
                  rw [HDR.out, hdr2]
                  rfl
                rw [hX]
                clear hX
                clear hx0 hx1 hdr2
                go_wp2_with (refine wpList_store_row rfl 40 _ _ rfl R #[.bool false, .bool false, .bool false, .bool false, .int .i64 0, .int .i64 0, .int .i64 0, .int .i64 0, .int .i64 0, .int .i64 0, .int .i64 0, .int .i64 0, .int .i64 0, .int .i64 0] rfl rfl 40 _ HP.out.r (by kernel_rfl) rfl (by simp [Value.oneCell']) ?_)
                have HN := Lib.hid HP.out.none
                generalize (wr.setCell ⟨S, 1, none⟩ (.bool true)).setRow R #[.bool false, .bool false, .bool false, .bool false, .int .i64 0, .int .i64 0, .int .i64 0, .int .i64 0, .int .i64 0, .int .i64 0, .int .i64 0, .int .i64 0, .int .i64 0, .int .i64 0] = wz at *
                refine bodyPost_ret (results_c1 (by rfl) _ _ (by rfl) HN.out.2 (by rfl)) rfl ⟨HN.out.1, ?_⟩
                rfl
      · have hd : decide ((L.length : Int) ≤ (n : Int)) = true := decide_eq_true (by omega)
        have hdr := drop_end L n hlt
        have hX : setO L = none := by
          rw [HS.out]
          unfold tl1
          rw [hdr]
          rfl
        rw [hX]
        clear hX
        clear hg hdr
        go_wp2_with (refine wpList_store_row rfl 40 _ _ rfl R #[.bool false, .bool false, .bool false, .bool false, .int .i64 0, .int .i64 0, .int .i64 0, .int .i64 0, .int .i64 0, .int .i64 0, .int .i64 0, .int .i64 0, .int .i64 0, .int .i64 0] rfl rfl 40 _ HG.out.r (by kernel_rfl) rfl (by simp [Value.oneCell']) ?_)
        have HN := Lib.hid HG.out.none
        generalize wr.setRow R #[.bool false, .bool false, .bool false, .bool false, .int .i64 0, .int .i64 0, .int .i64 0, .int .i64 0, .int .i64 0, .int .i64 0, .int .i64 0, .int .i64 0, .int .i64 0, .int .i64 0] = wz at *
        refine bodyPost_ret (results_c1 (by rfl) _ _ (by rfl) HN.out.2 (by rfl)) rfl ⟨HN.out.1, ?_⟩
        rfl
    · obtain ⟨b0, b1, x0, x1, hs, hg⟩ := hr
      have HS := Lib.hid hs
      have HG := Lib.hid hg
      obtain ⟨d0, e0⟩ := hg.cell 2 (u := .bool false) rfl
      obtain ⟨d1, e1⟩ := hg.cell 6 (u := .int .i64 0) rfl
      clear hs
      by_cases hlt : n < L.length
      · obtain ⟨g, off, hao, hgS, hc⟩ := hg.num n hlt
        have hdr := drop_at L n hlt
        have hd : decide ((L.length : Int) ≤ (n : Int)) = false := decide_eq_false (by omega)
        generalize hxx : L.getD n 0 = x at *
        clear hxx
        subst hao
        have HDR := Lib.hid hdr
        clear hg hdr
        by_cases hx0 : x < 0
        · have dx0 : decide (x < 0) = true := decide_eq_true hx0
          have hk : ¬ (0 ≤ x ∧ x ≤ 1) := by omega
          have hX : setO L = none := by
            rw [HS.out]
            unfold tl2
            rw [HDR.out]
            simp only [peO, upO, if_neg hk]
          rw [hX]
          clear hX
          clear hx0 hk
          go_wp2_with (refine wpList_store_row rfl 40 _ _ rfl R #[.bool false, .bool false, .bool false, .bool false, .int .i64 0, .int .i64 0, .int .i64 0, .int .i64 0, .int .i64 0, .int .i64 0, .int .i64 0, .int .i64 0, .int .i64 0, .int .i64 0] rfl rfl 40 _ HG.out.r (by kernel_rfl) rfl (by simp [Value.oneCell']) ?_)
          have HN := Lib.hid HG.out.none
          generalize wr.setRow R #[.bool false, .bool false, .bool false, .bool false, .int .i64 0, .int .i64 0, .int .i64 0, .int .i64 0, .int .i64 0, .int .i64 0, .int .i64 0, .int .i64 0, .int .i64 0, .int .i64 0] = wz at *
          refine bodyPost_ret (results_c1 (by rfl) _ _ (by rfl) HN.out.2 (by rfl)) rfl ⟨HN.out.1, ?_⟩
          rfl
        · have dx0 : decide (x < 0) = false := decide_eq_false hx0
          by_cases hx1 : 1 < x
          · have dx1 : decide (1 < x) = true := decide_eq_true hx1
            have hk : ¬ (0 ≤ x ∧ x ≤ 1) := by omega
            have hX : setO L = none := by
              rw [HS.out]
              unfold tl2
              rw [HDR.out]
              simp only [peO, upO, if_neg hk]
            rw [hX]
            clear hX
            clear hx0 hx1 hk
            go_wp2_with (refine wpList_store_row rfl 40 _ _ rfl R #[.bool false, .bool false, .bool false, .bool false, .int .i64 0, .int .i64 0, .int .i64 0, .int .i64 0, .int .i64 0, .int .i64 0, .int .i64 0, .int .i64 0, .int .i64 0, .int .i64 0] rfl rfl 40 _ HG.out.r (by kernel_rfl) rfl (by simp [Value.oneCell']) ?_)
            have HN := Lib.hid HG.out.none
            generalize wr.setRow R #[.bool false, .bool false, .bool false, .bool false, .int .i64 0, .int .i64 0, .int .i64 0, .int .i64 0, .int .i64 0, .int .i64 0, .int .i64 0, .int .i64 0, .int .i64 0, .int .i64 0] = wz at *
            refine bodyPost_ret (results_c1 (by rfl) _ _ (by rfl) HN.out.2 (by rfl)) rfl ⟨HN.out.1, ?_⟩
            rfl
          · have dx1 : decide (1 < x) = false := decide_eq_false hx1
            obtain rfl | rfl : x = 0 ∨ x = 1 := by omega
            · have hnx : setO L = tl3 b0 b1 false x0 x1 0 (L.drop (n + 1)) := by
                rw [HS.out, HDR.out]
                rfl
              have HX := Lib.hid hnx
              have HP := Lib.hid (HG.out.put 2 (.bool false))
              clear hnx hx0 hx1
              go_wp2
              exact ⟨⟨n + 1, by go_num, by omega, .inr (.inr (.inr (.inl ⟨rfl, ⟨b0, b1, false, x0, x1, 0, HX.out, HP.out⟩⟩)))⟩, by simp [intOf]⟩
            · by_cases hlt2 : n + 1 < L.length
              · obtain ⟨g2, off2, hao2, _, hc2⟩ := HG.out.num (n + 1) hlt2
                injection hao2 with hao2
                injection hao2 with e2 e3 _
                subst e2 e3
                have hdr2 := drop_at L (n + 1) hlt2
                generalize hyy : L.getD (n + 1) 0 = y at *
                clear hyy
                have hnx : setO L = tl3 b0 b1 true x0 x1 y (L.drop (n + 1 + 1)) := by
                  rw [HS.out, HDR.out, hdr2]
                  rfl
                have HX := Lib.hid hnx
                have hd2 : decide ((L.length : Int) ≤ (n : Int) + 1) = false := decide_eq_false (by omega)
                have HP := Lib.hid ((HG.out.put 2 (.bool true)).put 6 (.int .i64 y))
                have hw1 : IntKind.i64.wrap ((n : Int) + 1) = (n : Int) + 1 := by rw [IntKind.wrap_i64]; omega
                clear hnx hx0 hx1 hdr2
                go_wp2
                exact ⟨⟨n + 1 + 1, by go_num, by omega, .inr (.inr (.inr (.inl ⟨rfl, ⟨b0, b1, true, x0, x1, y, HX.out, HP.out⟩⟩)))⟩, by simp [intOf]⟩
              · have hdr2 := drop_end L (n + 1) hlt2
                have hd2 : decide ((L.length : Int) ≤ (n : Int) + 1) = true := decide_eq_true (by omega)
                have HP := Lib.hid (HG.out.put 2 (.bool true))
                have hw1 : IntKind.i64.wrap ((n : Int) + 1) = (n : Int) + 1 := by rw [IntKind.wrap_i64]; omega
                have hX : setO L = none := by
                  rw [HS.out]
                  unfold tl2
                  rw [HDR.out, hdr2]
                  rfl
                rw [hX]
                clear hX
                clear hx0 hx1 hdr2
                go_wp2_with (refine wpList_store_row rfl 40 _ _ rfl R #[.bool false, .bool false, .bool false, .bool false, .int .i64 0, .int .i64 0, .int .i64 0, .int .i64 0, .int .i64 0, .int .i64 0, .int .i64 0, .int .i64 0, .int .i64 0, .int .i64 0] rfl rfl 40 _ HP.out.r (by kernel_rfl) rfl (by simp [Value.oneCell']) ?_)
                have HN := Lib.hid HP.out.none
                generalize (wr.setCell ⟨S, 2, none⟩ (.bool true)).setRow R #[.bool false, .bool false, .bool false, .bool false, .int .i64 0, .int .i64 0, .int .i64 0, .int .i64 0, .int .i64 0, .int .i64 0, .int .i64 0, .int .i64 0, .int .i64 0, .int .i64 0] = wz at *
                refine bodyPost_ret (results_c1 (by rfl) _ _ (by rfl) HN.out.2 (by rfl)) rfl ⟨HN.out.1, ?_⟩
                rfl
      · have hd : decide ((L.length : Int) ≤ (n : Int)) = true := decide_eq_true (by omega)
        have hdr := drop_end L n hlt
        have hX : setO L = none := by
          rw [HS.out]
          unfold tl2
          rw [hdr]
          rfl
        rw [hX]
        clear hX
        clear hg hdr
        go_wp2_with (refine wpList_store_row rfl 40 _ _ rfl R #[.bool false, .bool false, .bool false, .bool false, .int .i64 0, .int .i64 0, .int .i64 0, .int .i64 0, .int .i64 0, .int .i64 0, .int .i64 0, .int .i64 0, .int .i64 0, .int .i64 0] rfl rfl 40 _ HG.out.r (by kernel_rfl) rfl (by simp [Value.oneCell']) ?_)
        have HN := Lib.hid HG.out.none
        generalize wr.setRow R #[.bool false, .bool false, .bool false, .bool false, .int .i64 0, .int .i64 0, .int .i64 0, .int .i64 0, .int .i64 0, .int .i64 0, .int .i64 0, .int .i64 0, .int .i64 0, .int .i64 0] = wz at *
        refine bodyPost_ret (results_c1 (by rfl) _ _ (by rfl) HN.out.2 (by rfl)) rfl ⟨HN.out.1, ?_⟩
        rfl
    · obtain ⟨b0, b1, b2, x0, x1, x2, hs, hg⟩ := hr
      have HS := Lib.hid hs
      have HG := Lib.hid hg
      obtain ⟨d0, e0⟩ := hg.cell 3 (u := .bool false) rfl
      obtain ⟨d1, e1⟩ := hg.cell 7 (u := .int .i64 0) rfl
      clear hs
      by_cases hlt : n < L.length
      · obtain ⟨g, off, hao, hgS, hc⟩ := hg.num n hlt
        have hdr := drop_at L n hlt
        have hd : decide ((L.length : Int) ≤ (n : Int)) = false := decide_eq_false (by omega)
        generalize hxx : L.getD n 0 = x at *
        clear hxx
        subst hao
        have HDR := Lib.hid hdr
        clear hg hdr
        by_cases hx0 : x < 0
        · have dx0 : decide (x < 0) = true := decide_eq_true hx0
          have hk : ¬ (0 ≤ x ∧ x ≤ 1) := by omega
          have hX : setO L = none := by
            rw [HS.out]
            unfold tl3
            rw [HDR.out]
            simp only [peO, upO, if_neg hk]
          rw [hX]
          clear hX
          clear hx0 hk
          go_wp2_with (refine wpList_store_row rfl 40 _ _ rfl R #[.bool false, .bool false, .bool false, .bool false, .int .i64 0, .int .i64 0, .int .i64 0, .int .i64 0, .int .i64 0, .int .i64 0, .int .i64 0, .int .i64 0, .int .i64 0, .int .i64 0] rfl rfl 40 _ HG.out.r (by kernel_rfl) rfl (by simp [Value.oneCell']) ?_)
          have HN := Lib.hid HG.out.none
          generalize wr.setRow R #[.bool false, .bool false, .bool false, .bool false, .int .i64 0, .int .i64 0, .int .i64 0, .int .i64 0, .int .i64 0, .int .i64 0, .int .i64 0, .int .i64 0, .int .i64 0, .int .i64 0] = wz at *
          refine bodyPost_ret (results_c1 (by rfl) _ _ (by rfl) HN.out.2 (by rfl)) rfl ⟨HN.out.1, ?_⟩
          rfl
        · have dx0 : decide (x < 0) = false := decide_eq_false hx0
          by_cases hx1 : 1 < x
          · have dx1 : decide (1 < x) = true := decide_eq_true hx1
            have hk : ¬ (0 ≤ x ∧ x ≤ 1) := by omega
            have hX : setO L = none := by
              rw [HS.out]
              unfold tl3
              rw [HDR.out]
              simp only [peO, upO, if_neg hk]
            rw [hX]
            clear hX
            clear hx0 hx1 hk
            go_wp2_with (refine wpList_store_row rfl 40 _ _ rfl R #[.bool false, .bool false, .bool false, .bool false, .int .i64 0, .int .i64 0, .int .i64 0, .int .i64 0, .int .i64 0, .int .i64 0, .int .i64 0, .int .i64 0, .int .i64 0, .int .i64 0] rfl rfl 40 _ HG.out.r (by kernel_rfl) rfl (by simp [Value.oneCell']) ?_)
            have HN := Lib.hid HG.out.none
            generalize wr.setRow R #[.bool false, .bool false, .bool false, .bool false, .int .i64 0, .int .i64 0, .int .i64 0, .int .i64 0, .int .i64 0, .int .i64 0, .int .i64 0, .int .i64 0, .int .i64 0, .int .i64 0] = wz at *
            refine bodyPost_ret (results_c1 (by rfl) _ _ (by rfl) HN.out.2 (by rfl)) rfl ⟨HN.out.1, ?_⟩
            rfl
          · have dx1 : decide (1 < x) = false := decide_eq_false hx1
            obtain rfl | rfl : x = 0 ∨ x = 1 := by omega
            · have hnx : setO L = tl4 b0 b1 b2 false x0 x1 x2 0 (L.drop (n + 1)) := by
                rw [HS.out, HDR.out]
                rfl
              have HX := Lib.hid hnx
              have HP := Lib.hid (HG.out.put 3 (.bool false))
              clear hnx hx0 hx1
              go_wp2
              exact ⟨⟨n + 1, by go_num, by omega, .inr (.inr (.inr (.inr (⟨rfl, ⟨b0, b1, b2, false, x0, x1, x2, 0, HX.out, HP.out⟩⟩))))⟩, by simp [intOf]⟩
            · by_cases hlt2 : n + 1 < L.length
              · obtain ⟨g2, off2, hao2, _, hc2⟩ := HG.out.num (n + 1) hlt2
                injection hao2 with hao2
                injection hao2 with e2 e3 _
                subst e2 e3
                have hdr2 := drop_at L (n + 1) hlt2
                generalize hyy : L.getD (n + 1) 0 = y at *
                clear hyy
                have hnx : setO L = tl4 b0 b1 b2 true x0 x1 x2 y (L.drop (n + 1 + 1)) := by
                  rw [HS.out, HDR.out, hdr2]
                  rfl
                have HX := Lib.hid hnx
                have hd2 : decide ((L.length : Int) ≤ (n : Int) + 1) = false := decide_eq_false (by omega)
                have HP := Lib.hid ((HG.out.put 3 (.bool true)).put 7 (.int .i64 y))
                have hw1 : IntKind.i64.wrap ((n : Int) + 1) = (n : Int) + 1 := by rw [IntKind.wrap_i64]; omega
                clear hnx hx0 hx1 hdr2
                go_wp2
                exact ⟨⟨n + 1 + 1, by go_num, by omega, .inr (.inr (.inr (.inr (⟨rfl, ⟨b0, b1, b2, true, x0, x1, x2, y, HX.out, HP.out⟩⟩))))⟩, by simp [intOf]⟩
              · have hdr2 := drop_end L (n + 1) hlt2
                have hd2 : decide ((L.length : Int) ≤ (n : Int) + 1) = true := decide_eq_true (by omega)
                have HP := Lib.hid (HG.out.put 3 (.bool true))
                have hw1 : IntKind.i64.wrap ((n : Int) + 1) = (n : Int) + 1 := by rw [IntKind.wrap_i64]; omega
                have hX : setO L = none := by
                  rw [HS.out]
                  unfold tl3
                  rw [HDR.out, hdr2]
                  rfl
                rw [hX]
                clear hX
                clear hx0 hx1 hdr2
                go_wp2_with (refine wpList_store_row rfl 40 _ _ rfl R #[.bool false, .bool false, .bool false, .bool false, .int .i64 0, .int .i64 0, .int .i64 0, .int .i64 0, .int .i64 0, .int .i64 0, .int .i64 0, .int .i64 0, .int .i64 0, .int .i64 0] rfl rfl 40 _ HP.out.r (by kernel_rfl) rfl (by simp [Value.oneCell']) ?_)
                have HN := Lib.hid HP.out.none
                generalize (wr.setCell ⟨S, 3, none⟩ (.bool true)).setRow R #[.bool false, .bool false, .bool false, .bool false, .int .i64 0, .int .i64 0, .int .i64 0, .int .i64 0, .int .i64 0, .int .i64 0, .int .i64 0, .int .i64 0, .int .i64 0, .int .i64 0] = wz at *
                refine bodyPost_ret (results_c1 (by rfl) _ _ (by rfl) HN.out.2 (by rfl)) rfl ⟨HN.out.1, ?_⟩
                rfl
      · have hd : decide ((L.length : Int) ≤ (n : Int)) = true := decide_eq_true (by omega)
        have hdr := drop_end L n hlt
        have hX : setO L = none := by
          rw [HS.out]
          unfold tl3
          rw [hdr]
          rfl
        rw [hX]
        clear hX
        clear hg hdr
        go_wp2_with (refine wpList_store_row rfl 40 _ _ rfl R #[.bool false, .bool false, .bool false, .bool false, .int .i64 0, .int .i64 0, .int .i64 0, .int .i64 0, .int .i64 0, .int .i64 0, .int .i64 0, .int .i64 0, .int .i64 0, .int .i64 0] rfl rfl 40 _ HG.out.r (by kernel_rfl) rfl (by simp [Value.oneCell']) ?_)
        have HN := Lib.hid HG.out.none
        generalize wr.setRow R #[.bool false, .bool false, .bool false, .bool false, .int .i64 0, .int .i64 0, .int .i64 0, .int .i64 0, .int .i64 0, .int .i64 0, .int .i64 0, .int .i64 0, .int .i64 0, .int .i64 0] = wz at *
        refine bodyPost_ret (results_c1 (by rfl) _ _ (by rfl) HN.out.2 (by rfl)) rfl ⟨HN.out.1, ?_⟩
        rfl
    · obtain ⟨b0, b1, b2, b3, x0, x1, x2, x3, hs, hg⟩ := hr
      have HS := Lib.hid hs
      have HG := Lib.hid hg
      clear hs hg
      go_wp2_with fail
      go_loopw [5, 7] (fun a i wr => ∃ n : Nat, a = .int .i64 n ∧ n ≤ L.length ∧ (i = .int .i64 0 ∧ (∃ (b0 b1 b2 b3 : Bool) (x0 x1 x2 x3 : Int), setO L = tl4 b0 b1 b2 b3 x0 x1 x2 x3 (L.drop n) ∧ GS w R S ao L #[.bool b0, .bool b1, .bool b2, .bool b3, .int .i64 x0, .int .i64 x1, .int .i64 x2, .int .i64 x3, .int .i64 0, .int .i64 0, .int .i64 0, .int .i64 0, .int .i64 0, .int .i64 0] wr) ∨ i = .int .i64 1 ∧ (∃ (b0 b1 b2 b3 : Bool) (x0 x1 x2 x3 h0 a0 a1 : Int), setO L = tl5 b0 b1 b2 b3 x0 x1 x2 x3 h0 a0 a1 (L.drop n) ∧ GS w R S ao L #[.bool b0, .bool b1, .bool b2, .bool b3, .int .i64 x0, .int .i64 x1, .int .i64 x2, .int .i64 x3, .int .i64 h0, .int .i64 0, .int .i64 a0, .int .i64 a1, .int .i64 0, .int .i64 0] wr) ∨ i = .int .i64 2 ∧ (∃ (b0 b1 b2 b3 : Bool) (x0 x1 x2 x3 h0 a0 a1 h1 m0 m1 : Int), setO L = some (#[.bool b0, .bool b1, .bool b2, .bool b3, .int .i64 x0, .int .i64 x1, .int .i64 x2, .int .i64 x3, .int .i64 h0, .int .i64 h1, .int .i64 a0, .int .i64 a1, .int .i64 m0, .int .i64 m1], L.drop n) ∧ GS w R S ao L #[.bool b0, .bool b1, .bool b2, .bool b3, .int .i64 x0, .int .i64 x1, .int .i64 x2, .int .i64 x3, .int .i64 h0, .int .i64 h1, .int .i64 a0, .int .i64 a1, .int .i64 m0, .int .i64 m1] wr))) (fun _ i _ => 2 - (intOf i).toNat)
      case atStart => exact ⟨n, rfl, hn, .inl ⟨rfl, b0, b1, b2, b3, x0, x1, x2, x3, HS.out, HG.out⟩⟩
      case round =>
        clear HS HG hn
        obtain ⟨n, rfl, hn, hrel⟩ := hrel
        rcases hrel with ⟨rfl, hr⟩ | ⟨rfl, hr⟩ | ⟨rfl, hr⟩
        · obtain ⟨b0, b1, b2, b3, x0, x1, x2, x3, hs, hg⟩ := hr
          have HS := Lib.hid hs
          have HG := Lib.hid hg
          obtain ⟨d0, e0⟩ := hg.cell 8 (u := .int .i64 0) rfl
          clear hs
          by_cases hlt : n < L.length
          · obtain ⟨g, off, hao, hgS, hc⟩ := hg.num n hlt
            have hdr := drop_at L n hlt
            have hd : decide ((L.length : Int) ≤ (n : Int)) = false := decide_eq_false (by omega)
            generalize hxx : L.getD n 0 = x at *
            clear hxx
            subst hao
            have HDR := Lib.hid hdr
            clear hg hdr
            by_cases hx0 : x < 0
            · have dx0 : decide (x < 0) = true := decide_eq_true hx0
              have hk : ¬ (0 ≤ x ∧ x ≤ 2) := by omega
              have hX : setO L = none := by
                rw [HS.out]
                unfold tl4
                rw [HDR.out]
                simp only [moO, upO, if_neg hk]
              rw [hX]
              clear hX
              clear hx0 hk
              go_wp2_with (refine wpList_store_row rfl 40 _ _ rfl R #[.bool false, .bool false, .bool false, .bool false, .int .i64 0, .int .i64 0, .int .i64 0, .int .i64 0, .int .i64 0, .int .i64 0, .int .i64 0, .int .i64 0, .int .i64 0, .int .i64 0] rfl rfl 40 _ HG.out.r (by kernel_rfl) rfl (by simp [Value.oneCell']) ?_)
              have HN := Lib.hid HG.out.none
              generalize wr.setRow R #[.bool false, .bool false, .bool false, .bool false, .int .i64 0, .int .i64 0, .int .i64 0, .int .i64 0, .int .i64 0, .int .i64 0, .int .i64 0, .int .i64 0, .int .i64 0, .int .i64 0] = wz at *
              refine bodyPost_ret (results_c1 (by rfl) _ _ (by rfl) HN.out.2 (by rfl)) rfl ⟨HN.out.1, ?_⟩
              rfl
            · have dx0 : decide (x < 0) = false := decide_eq_false hx0
              by_cases hx1 : 2 < x
              · have dx1 : decide (2 < x) = true := decide_eq_true hx1
                have hk : ¬ (0 ≤ x ∧ x ≤ 2) := by omega
                have hX : setO L = none := by
                  rw [HS.out]
                  unfold tl4
                  rw [HDR.out]
                  simp only [moO, upO, if_neg hk]
                rw [hX]
                clear hX
                clear hx0 hx1 hk
                go_wp2_with (refine wpList_store_row rfl 40 _ _ rfl R #[.bool false, .bool false, .bool false, .bool false, .int .i64 0, .int .i64 0, .int .i64 0, .int .i64 0, .int .i64 0, .int .i64 0, .int .i64 0, .int .i64 0, .int .i64 0, .int .i64 0] rfl rfl 40 _ HG.out.r (by kernel_rfl) rfl (by simp [Value.oneCell']) ?_)
                have HN := Lib.hid HG.out.none
                generalize wr.setRow R #[.bool false, .bool false, .bool false, .bool false, .int .i64 0, .int .i64 0, .int .i64 0, .int .i64 0, .int .i64 0, .int .i64 0, .int .i64 0, .int .i64 0, .int .i64 0, .int .i64 0] = wz at *
                refine bodyPost_ret (results_c1 (by rfl) _ _ (by rfl) HN.out.2 (by rfl)) rfl ⟨HN.out.1, ?_⟩
                rfl
              · have dx1 : decide (2 < x) = false := decide_eq_false hx1
                have hw1 : IntKind.i64.wrap ((n : Int) + 1) = (n : Int) + 1 := by rw [IntKind.wrap_i64]; omega
                by_cases hx2 : x = 2
                · subst hx2
                  have HP := Lib.hid (HG.out.put 8 (.int .i64 2))
                  clear hx0 hx1
                  by_cases hlt2 : n + 2 < L.length
                  · have hd2 : decide ((L.length : Int) - ((n : Int) + 1) < 2) = false := decide_eq_false (by omega)
                    have hw3 : IntKind.i64.wrap ((L.length : Int) - ((n : Int) + 1)) = (L.length : Int) - ((n : Int) + 1) := by rw [IntKind.wrap_i64]; omega
                    go_upto_region 25 with (fail)
                    have hdr2 := drop_at L (n + 1) (by omega)
                    have hdr3 := drop_at L (n + 1 + 1) (by omega)
                    obtain ⟨g2, off2, hao2, _, hc2⟩ := HP.out.num (n + 1) (by omega)
                    injection hao2 with hao2
                    injection hao2 with e2 e3 _
                    subst e2 e3
                    obtain ⟨g2, off2, hao2, _, hc3⟩ := HP.out.num (n + 1 + 1) (by omega)
                    injection hao2 with hao2
                    injection hao2 with e2 e3 _
                    subst e2 e3
                    generalize hyy : L.getD (n + 1) 0 = y at *
                    generalize hzz : L.getD (n + 1 + 1) 0 = z at *
                    clear hyy hzz
                    have hnx : setO L = tl5 b0 b1 b2 b3 x0 x1 x2 x3 2 y z (L.drop (n + 1 + 1 + 1)) := by
                      rw [HS.out, HDR.out, hdr2, hdr3]
                      rfl
                    have HX := Lib.hid hnx
                    obtain ⟨d2, e2⟩ := HP.out.cell 10 (u := .int .i64 0) rfl
                    obtain ⟨d3, e3⟩ := HP.out.cell 11 (u := .int .i64 0) rfl
                    have HPP := Lib.hid ((HP.out.put 10 (.int .i64 y)).put 11 (.int .i64 z))
                    have HPD := Lib.hid (((HP.out.drewN 1).put 10 (.int .i64 y)).put 11 (.int .i64 z))
                    have hw4 : IntKind.i64.wrap ((n : Int) + 1 + 1) = (n : Int) + 1 + 1 := by rw [IntKind.wrap_i64]; omega
                    have hw5 : IntKind.i64.wrap ((n : Int) + 1 + 2) = (n : Int) + 1 + 2 := by rw [IntKind.wrap_i64]; omega
                    have q1 : (n : Int) + 1 < (L.length : Int) := by omega
                    have q2 : (n : Int) + 1 + 1 < (L.length : Int) := by omega
                    have ht2 : ((n : Int) + 1 + 1).toNat = n + 1 + 1 := by omega
                    have q0 : (0 : Int) ≤ (n : Int) + 1 := by omega
                    have q00 : (0 : Int) ≤ (n : Int) + 1 + 1 := by omega
                    clear hnx hdr2 hdr3 hc d0 e0
                    generalize wr.setCell ⟨S, 8, none⟩ (.int .i64 2) = wu at *
                    have hF := (Fq.set S wu 10 (.int .i64 y)).trans (Fq.set S _ 11 (.int .i64 z))
                    have hq2 := (World.cell?_of_block (a := ⟨g, off + (n + 1), none⟩) (hF.block g (World.block_lt_of_cell? _ _ hc2) hgS)).trans hc2
                    have hq3 := (World.cell?_of_block (a := ⟨g, off + (n + 1 + 1), none⟩) (hF.block g (World.block_lt_of_cell? _ _ hc3) hgS)).trans hc3
                    have HQQ := Lib.hid (And.intro hq2 hq3)
                    clear hF hq2 hq3
                    go_cut [5] from 59 to 116 (fun a wd => a = .int .i64 ((n : Int) + 1) ∧ GS w R S (some ⟨g, off, none⟩) L #[.bool b0, .bool b1, .bool b2, .bool b3, .int .i64 x0, .int .i64 x1, .int .i64 x2, .int .i64 x3, .int .i64 (2), .int .i64 0, .int .i64 (y), .int .i64 (z), .int .i64 0, .int .i64 0] wd)
                    case first =>
                      as_aux_lemma =>
                        go_region_held3 (fun w' => w'.cell? ⟨g, off + (n + 1), none⟩ = some (.int .i64 y) ∧ w'.cell? ⟨g, off + (n + 1 + 1), none⟩ = some (.int .i64 z)) (first | exact ⟨HQQ.out.1, HQQ.out.2⟩ | go_keep) (first | fail)
                        all_goals
                          go_wp2
                          go_meet
                          first | exact ⟨rfl, HPP.out⟩ | exact ⟨rfl, HPP.out.drewN 1⟩ | exact ⟨rfl, HPD.out⟩
                    case rest =>
                      obtain ⟨rfl, hg3⟩ := hcut
                      have HG3 := Lib.hid hg3
                      clear hg3
                      go_wp2
                      exact ⟨⟨n + 3, by go_num, by omega, .inr (.inl ⟨rfl, ⟨b0, b1, b2, b3, x0, x1, x2, x3, 2, y, z, HX.out, HG3.out⟩⟩)⟩, by simp [intOf]⟩
                  · have hd2 : decide ((L.length : Int) - ((n : Int) + 1) < 2) = true := decide_eq_true (by omega)
                    have hw3 : IntKind.i64.wrap ((L.length : Int) - ((n : Int) + 1)) = (L.length : Int) - ((n : Int) + 1) := by rw [IntKind.wrap_i64]; omega
                    have hX : setO L = none := by
                      rw [HS.out]
                      unfold tl4
                      rw [HDR.out]
                      by_cases hl3 : n + 1 < L.length
                      · rw [drop_at L (n + 1) hl3, drop_end L (n + 1 + 1) (by omega)]
                        rfl
                      · rw [drop_end L (n + 1) hl3]
                        rfl
                    rw [hX]
                    clear hX
                    go_wp2_with (refine wpList_store_row rfl 40 _ _ rfl R #[.bool false, .bool false, .bool false, .bool false, .int .i64 0, .int .i64 0, .int .i64 0, .int .i64 0, .int .i64 0, .int .i64 0, .int .i64 0, .int .i64 0, .int .i64 0, .int .i64 0] rfl rfl 40 _ HP.out.r (by kernel_rfl) rfl (by simp [Value.oneCell']) ?_)
                    have HN := Lib.hid HP.out.none
                    generalize (wr.setCell ⟨S, 8, none⟩ (.int .i64 2)).setRow R #[.bool false, .bool false, .bool false, .bool false, .int .i64 0, .int .i64 0, .int .i64 0, .int .i64 0, .int .i64 0, .int .i64 0, .int .i64 0, .int .i64 0, .int .i64 0, .int .i64 0] = wz at *
                    refine bodyPost_ret (results_c1 (by rfl) _ _ (by rfl) HN.out.2 (by rfl)) rfl ⟨HN.out.1, ?_⟩
                    rfl
                · have hb2 : (x == 2) = false := by simpa using hx2
                  have hk : 0 ≤ x ∧ x ≤ 2 := by omega
                  have hnx : setO L = tl5 b0 b1 b2 b3 x0 x1 x2 x3 x 0 0 (L.drop (n + 1)) := by
                    rw [HS.out, HDR.out]
                    unfold tl4 moO upO
                    dsimp only
                    rw [if_pos hk]
                    dsimp only
                    rw [if_neg hx2]
                  have HX := Lib.hid hnx
                  have HP := Lib.hid (HG.out.put 8 (.int .i64 x))
                  clear hnx hx0 hx1 hk hx2
                  go_wp2
                  exact ⟨⟨n + 1, by go_num, by omega, .inr (.inl ⟨rfl, ⟨b0, b1, b2, b3, x0, x1, x2, x3, x, 0, 0, HX.out, HP.out⟩⟩)⟩, by simp [intOf]⟩
          · have hd : decide ((L.length : Int) ≤ (n : Int)) = true := decide_eq_true (by omega)
            have hdr := drop_end L n hlt
            have hX : setO L = none := by
              rw [HS.out]
              unfold tl4
              rw [hdr]
              rfl
            rw [hX]
            clear hX
            clear hg hdr
            go_wp2_with (refine wpList_store_row rfl 40 _ _ rfl R #[.bool false, .bool false, .bool false, .bool false, .int .i64 0, .int .i64 0, .int .i64 0, .int .i64 0, .int .i64 0, .int .i64 0, .int .i64 0, .int .i64 0, .int .i64 0, .int .i64 0] rfl rfl 40 _ HG.out.r (by kernel_rfl) rfl (by simp [Value.oneCell']) ?_)
            have HN := Lib.hid HG.out.none
            generalize wr.setRow R #[.bool false, .bool false, .bool false, .bool false, .int .i64 0, .int .i64 0, .int .i64 0, .int .i64 0, .int .i64 0, .int .i64 0, .int .i64 0, .int .i64 0, .int .i64 0, .int .i64 0] = wz at *
            refine bodyPost_ret (results_c1 (by rfl) _ _ (by rfl) HN.out.2 (by rfl)) rfl ⟨HN.out.1, ?_⟩
            rfl
        · obtain ⟨b0, b1, b2, b3, x0, x1, x2, x3, h0, a0, a1, hs, hg⟩ := hr
          have HS := Lib.hid hs
          have HG := Lib.hid hg
          obtain ⟨d0, e0⟩ := hg.cell 9 (u := .int .i64 0) rfl
          clear hs
          by_cases hlt : n < L.length
          · obtain ⟨g, off, hao, hgS, hc⟩ := hg.num n hlt
            have hdr := drop_at L n hlt
            have hd : decide ((L.length : Int) ≤ (n : Int)) = false := decide_eq_false (by omega)
            generalize hxx : L.getD n 0 = x at *
            clear hxx
            subst hao
            have HDR := Lib.hid hdr
            clear hg hdr
            by_cases hx0 : x < 0
            · have dx0 : decide (x < 0) = true := decide_eq_true hx0
              have hk : ¬ (0 ≤ x ∧ x ≤ 2) := by omega
              have hX : setO L = none := by
                rw [HS.out]
                unfold tl5
                rw [HDR.out]
                simp only [moO, upO, if_neg hk]
              rw [hX]
              clear hX
              clear hx0 hk
              go_wp2_with (refine wpList_store_row rfl 40 _ _ rfl R #[.bool false, .bool false, .bool false, .bool false, .int .i64 0, .int .i64 0, .int .i64 0, .int .i64 0, .int .i64 0, .int .i64 0, .int .i64 0, .int .i64 0, .int .i64 0, .int .i64 0] rfl rfl 40 _ HG.out.r (by kernel_rfl) rfl (by simp [Value.oneCell']) ?_)
              have HN := Lib.hid HG.out.none
              generalize wr.setRow R #[.bool false, .bool false, .bool false, .bool false, .int .i64 0, .int .i64 0, .int .i64 0, .int .i64 0, .int .i64 0, .int .i64 0, .int .i64 0, .int .i64 0, .int .i64 0, .int .i64 0] = wz at *
              refine bodyPost_ret (results_c1 (by rfl) _ _ (by rfl) HN.out.2 (by rfl)) rfl ⟨HN.out.1, ?_⟩
              rfl
            · have dx0 : decide (x < 0) = false := decide_eq_false hx0
              by_cases hx1 : 2 < x
              · have dx1 : decide (2 < x) = true := decide_eq_true hx1
                have hk : ¬ (0 ≤ x ∧ x ≤ 2) := by omega
                have hX : setO L = none := by
                  rw [HS.out]
                  unfold tl5
                  rw [HDR.out]
                  simp only [moO, upO, if_neg hk]
                rw [hX]
                clear hX
                clear hx0 hx1 hk
                go_wp2_with (refine wpList_store_row rfl 40 _ _ rfl R #[.bool false, .bool false, .bool false, .bool false, .int .i64 0, .int .i64 0, .int .i64 0, .int .i64 0, .int .i64 0, .int .i64 0, .int .i64 0, .int .i64 0, .int .i64 0, .int .i64 0] rfl rfl 40 _ HG.out.r (by kernel_rfl) rfl (by simp [Value.oneCell']) ?_)
                have HN := Lib.hid HG.out.none
                generalize wr.setRow R #[.bool false, .bool false, .bool false, .bool false, .int .i64 0, .int .i64 0, .int .i64 0, .int .i64 0, .int .i64 0, .int .i64 0, .int .i64 0, .int .i64 0, .int .i64 0, .int .i64 0] = wz at *
                refine bodyPost_ret (results_c1 (by rfl) _ _ (by rfl) HN.out.2 (by rfl)) rfl ⟨HN.out.1, ?_⟩
                rfl
              · have dx1 : decide (2 < x) = false := decide_eq_false hx1
                have hw1 : IntKind.i64.wrap ((n : Int) + 1) = (n : Int) + 1 := by rw [IntKind.wrap_i64]; omega
                by_cases hx2 : x = 2
                · subst hx2
                  have HP := Lib.hid (HG.out.put 9 (.int .i64 2))
                  clear hx0 hx1
                  by_cases hlt2 : n + 2 < L.length
                  · have hd2 : decide ((L.length : Int) - ((n : Int) + 1) < 2) = false := decide_eq_false (by omega)
                    have hw3 : IntKind.i64.wrap ((L.length : Int) - ((n : Int) + 1)) = (L.length : Int) - ((n : Int) + 1) := by rw [IntKind.wrap_i64]; omega
                    go_upto_region 25 with (fail)
                    have hdr2 := drop_at L (n + 1) (by omega)
                    have hdr3 := drop_at L (n + 1 + 1) (by omega)
                    obtain ⟨g2, off2, hao2, _, hc2⟩ := HP.out.num (n + 1) (by omega)
                    injection hao2 with hao2
                    injection hao2 with e2 e3 _
                    subst e2 e3
                    obtain ⟨g2, off2, hao2, _, hc3⟩ := HP.out.num (n + 1 + 1) (by omega)
                    injection hao2 with hao2
                    injection hao2 with e2 e3 _
                    subst e2 e3
                    generalize hyy : L.getD (n + 1) 0 = y at *
                    generalize hzz : L.getD (n + 1 + 1) 0 = z at *
                    clear hyy hzz
                    have hnx : setO L = some (#[.bool b0, .bool b1, .bool b2, .bool b3, .int .i64 x0, .int .i64 x1, .int .i64 x2, .int .i64 x3, .int .i64 h0, .int .i64 (2), .int .i64 a0, .int .i64 a1, .int .i64 (y), .int .i64 (z)], L.drop (n + 1 + 1 + 1)) := by
                      rw [HS.out, HDR.out, hdr2, hdr3]
                      rfl
                    have HX := Lib.hid hnx
                    obtain ⟨d2, e2⟩ := HP.out.cell 12 (u := .int .i64 0) rfl
                    obtain ⟨d3, e3⟩ := HP.out.cell 13 (u := .int .i64 0) rfl
                    have HPP := Lib.hid ((HP.out.put 12 (.int .i64 y)).put 13 (.int .i64 z))
                    have HPD := Lib.hid (((HP.out.drewN 1).put 12 (.int .i64 y)).put 13 (.int .i64 z))
                    have hw4 : IntKind.i64.wrap ((n : Int) + 1 + 1) = (n : Int) + 1 + 1 := by rw [IntKind.wrap_i64]; omega
                    have hw5 : IntKind.i64.wrap ((n : Int) + 1 + 2) = (n : Int) + 1 + 2 := by rw [IntKind.wrap_i64]; omega
                    have q1 : (n : Int) + 1 < (L.length : Int) := by omega
                    have q2 : (n : Int) + 1 + 1 < (L.length : Int) := by omega
                    have ht2 : ((n : Int) + 1 + 1).toNat = n + 1 + 1 := by omega
                    have q0 : (0 : Int) ≤ (n : Int) + 1 := by omega
                    have q00 : (0 : Int) ≤ (n : Int) + 1 + 1 := by omega
                    clear hnx hdr2 hdr3 hc d0 e0
                    generalize wr.setCell ⟨S, 9, none⟩ (.int .i64 2) = wu at *
                    have hF := (Fq.set S wu 12 (.int .i64 y)).trans (Fq.set S _ 13 (.int .i64 z))
                    have hq2 := (World.cell?_of_block (a := ⟨g, off + (n + 1), none⟩) (hF.block g (World.block_lt_of_cell? _ _ hc2) hgS)).trans hc2
                    have hq3 := (World.cell?_of_block (a := ⟨g, off + (n + 1 + 1), none⟩) (hF.block g (World.block_lt_of_cell? _ _ hc3) hgS)).trans hc3
                    have HQQ := Lib.hid (And.intro hq2 hq3)
                    clear hF hq2 hq3
                    go_cut [5] from 59 to 116 (fun a wd => a = .int .i64 ((n : Int) + 1) ∧ GS w R S (some ⟨g, off, none⟩) L #[.bool b0, .bool b1, .bool b2, .bool b3, .int .i64 x0, .int .i64 x1, .int .i64 x2, .int .i64 x3, .int .i64 h0, .int .i64 (2), .int .i64 a0, .int .i64 a1, .int .i64 (y), .int .i64 (z)] wd)
                    case first =>
                      as_aux_lemma =>
                        go_region_held3 (fun w' => w'.cell? ⟨g, off + (n + 1), none⟩ = some (.int .i64 y) ∧ w'.cell? ⟨g, off + (n + 1 + 1), none⟩ = some (.int .i64 z)) (first | exact ⟨HQQ.out.1, HQQ.out.2⟩ | go_keep) (first | fail)
                        all_goals
                          go_wp2
                          go_meet
                          first | exact ⟨rfl, HPP.out⟩ | exact ⟨rfl, HPP.out.drewN 1⟩ | exact ⟨rfl, HPD.out⟩
                    case rest =>
                      obtain ⟨rfl, hg3⟩ := hcut
                      have HG3 := Lib.hid hg3
                      clear hg3
                      go_wp2
                      exact ⟨⟨n + 3, by go_num, by omega, .inr (.inr (⟨rfl, ⟨b0, b1, b2, b3, x0, x1, x2, x3, h0, a0, a1, 2, y, z, HX.out, HG3.out⟩⟩))⟩, by simp [intOf]⟩
                  · have hd2 : decide ((L.length : Int) - ((n : Int) + 1) < 2) = true := decide_eq_true (by omega)
                    have hw3 : IntKind.i64.wrap ((L.length : Int) - ((n : Int) + 1)) = (L.length : Int) - ((n : Int) + 1) := by rw [IntKind.wrap_i64]; omega
                    have hX : setO L = none := by
                      rw [HS.out]
                      unfold tl5
                      rw [HDR.out]
                      by_cases hl3 : n + 1 < L.length
                      · rw [drop_at L (n + 1) hl3, drop_end L (n + 1 + 1) (by omega)]
                        rfl
                      · rw [drop_end L (n + 1) hl3]
                        rfl
                    rw [hX]
                    clear hX
                    go_wp2_with (refine wpList_store_row rfl 40 _ _ rfl R #[.bool false, .bool false, .bool false, .bool false, .int .i64 0, .int .i64 0, .int .i64 0, .int .i64 0, .int .i64 0, .int .i64 0, .int .i64 0, .int .i64 0, .int .i64 0, .int .i64 0] rfl rfl 40 _ HP.out.r (by kernel_rfl) rfl (by simp [Value.oneCell']) ?_)
                    have HN := Lib.hid HP.out.none
                    generalize (wr.setCell ⟨S, 9, none⟩ (.int .i64 2)).setRow R #[.bool false, .bool false, .bool false, .bool false, .int .i64 0, .int .i64 0, .int .i64 0, .int .i64 0, .int .i64 0, .int .i64 0, .int .i64 0, .int .i64 0, .int .i64 0, .int .i64 0] = wz at *
                    refine bodyPost_ret (results_c1 (by rfl) _ _ (by rfl) HN.out.2 (by rfl)) rfl ⟨HN.out.1, ?_⟩
                    rfl
                · have hb2 : (x == 2) = false := by simpa using hx2
                  have hk : 0 ≤ x ∧ x ≤ 2 := by omega
                  have hnx : setO L = some (#[.bool b0, .bool b1, .bool b2, .bool b3, .int .i64 x0, .int .i64 x1, .int .i64 x2, .int .i64 x3, .int .i64 h0, .int .i64 (x), .int .i64 a0, .int .i64 a1, .int .i64 (0), .int .i64 (0)], L.drop (n + 1)) := by
                    rw [HS.out, HDR.out]
                    unfold tl5 moO upO
                    dsimp only
                    rw [if_pos hk]
                    dsimp only
                    rw [if_neg hx2]
                  have HX := Lib.hid hnx
                  have HP := Lib.hid (HG.out.put 9 (.int .i64 x))
                  clear hnx hx0 hx1 hk hx2
                  go_wp2
                  exact ⟨⟨n + 1, by go_num, by omega, .inr (.inr (⟨rfl, ⟨b0, b1, b2, b3, x0, x1, x2, x3, h0, a0, a1, x, 0, 0, HX.out, HP.out⟩⟩))⟩, by simp [intOf]⟩
          · have hd : decide ((L.length : Int) ≤ (n : Int)) = true := decide_eq_true (by omega)
            have hdr := drop_end L n hlt
            have hX : setO L = none := by
              rw [HS.out]
              unfold tl5
              rw [hdr]
              rfl
            rw [hX]
            clear hX
            clear hg hdr
            go_wp2_with (refine wpList_store_row rfl 40 _ _ rfl R #[.bool false, .bool false, .bool false, .bool false, .int .i64 0, .int .i64 0, .int .i64 0, .int .i64 0, .int .i64 0, .int .i64 0, .int .i64 0, .int .i64 0, .int .i64 0, .int .i64 0] rfl rfl 40 _ HG.out.r (by kernel_rfl) rfl (by simp [Value.oneCell']) ?_)
            have HN := Lib.hid HG.out.none
            generalize wr.setRow R #[.bool false, .bool false, .bool false, .bool false, .int .i64 0, .int .i64 0, .int .i64 0, .int .i64 0, .int .i64 0, .int .i64 0, .int .i64 0, .int .i64 0, .int .i64 0, .int .i64 0] = wz at *
            refine bodyPost_ret (results_c1 (by rfl) _ _ (by rfl) HN.out.2 (by rfl)) rfl ⟨HN.out.1, ?_⟩
            rfl
        · obtain ⟨b0, b1, b2, b3, x0, x1, x2, x3, h0, a0, a1, h1, m0, m1, hs, hg⟩ := hr
          have HS2 := Lib.hid hs
          have HG := Lib.hid hg
          have hM : n + (L.drop n).length = L.length := by rw [List.length_drop]; omega
          have HM := Lib.hid hM
          clear hs hg hM
          go_wp2_with (first | (refine wpList_load_row rfl 40 _ rfl S rfl 40 _ (0, 0) _ HG.out.s Try.underlying40 rfl (by kernel_rfl) ?_) | (refine wpList_store_row rfl 40 _ _ rfl R #[.bool b0, .bool b1, .bool b2, .bool b3, .int .i64 x0, .int .i64 x1, .int .i64 x2, .int .i64 x3, .int .i64 h0, .int .i64 h1, .int .i64 a0, .int .i64 a1, .int .i64 m0, .int .i64 m1] rfl rfl 40 _ HG.out.r (by kernel_rfl) rfl (by simp [Value.oneCell']) ?_))
          have hF := set_row_fq' wr R #[.bool b0, .bool b1, .bool b2, .bool b3, .int .i64 x0, .int .i64 x1, .int .i64 x2, .int .i64 x3, .int .i64 h0, .int .i64 h1, .int .i64 a0, .int .i64 a1, .int .i64 m0, .int .i64 m1]
          have HB := Lib.hid (hF.below HG.out.low HG.out.hR HG.out.low.size)
          have hrow : (wr.setRow R #[.bool b0, .bool b1, .bool b2, .bool b3, .int .i64 x0, .int .i64 x1, .int .i64 x2, .int .i64 x3, .int .i64 h0, .int .i64 h1, .int .i64 a0, .int .i64 a1, .int .i64 m0, .int .i64 m1]).heap[R]? = some (.cells #[.bool b0, .bool b1, .bool b2, .bool b3, .int .i64 x0, .int .i64 x1, .int .i64 x2, .int .i64 x3, .int .i64 h0, .int .i64 h1, .int .i64 a0, .int .i64 a1, .int .i64 m0, .int .i64 m1] 40 (0, 0)) := by
            have := HG.out.r
            unfold GA at this
            simp [World.setRow, Array.getElem?_modify, this]
          have hL := run_loadVar_row (P := Try.prog) _ R 40 40 _ (0, 0) _ hrow Try.underlying40 rfl (by kernel_rfl)
          clear hF hrow
          generalize wr.setRow R #[.bool b0, .bool b1, .bool b2, .bool b3, .int .i64 x0, .int .i64 x1, .int .i64 x2, .int .i64 x3, .int .i64 h0, .int .i64 h1, .int .i64 a0, .int .i64 a1, .int .i64 m0, .int .i64 m1] = wz at *
          refine bodyPost_ret (results_c1 (by rfl) _ _ (by rfl) hL (by rfl)) rfl ⟨HB.out, ?_⟩
          rw [HS2.out]
          exact ⟨n, rfl, HM.out⟩
end Go.Proofs.Ytedcgmagkkoggaa
