/-
  takeReply: the reply that bytes may be. Its condition: a reader of at most 65536 bytes.
-/
import Derived.Test.YtkbjimbnbocfpaaTk
import Derived.Deep.DeepCutAuto
namespace Go.Proofs.Ytkbjimbnbocfpaa
open Go.RowKit

/-- A number, where it is asked for. -/
def ifR (b : Bool) (l : List UInt8) (e : Int) : Int × List UInt8 × Int := if b then numR 4 l e else (0, l, e)
/-- The verdict. -/
def tvR (l : List UInt8) (e : Int) : Int × List UInt8 × Int :=
  if (numR 4 l e).1 = 1 then
    (if (numR 4 (numR 4 l e).2.1 (numR 4 l e).2.2).1 = 1 then 7 else 6, (numR 4 (numR 4 l e).2.1 (numR 4 l e).2.2).2)
  else numR 4 (opqR 0 (numR 4 (numR 4 l e).2.1 (numR 4 l e).2.2).2.1 (numR 4 (numR 4 l e).2.1 (numR 4 l e).2.2).2.2).2.1 (opqR 0 (numR 4 (numR 4 l e).2.1 (numR 4 l e).2.2).2.1 (numR 4 (numR 4 l e).2.1 (numR 4 l e).2.2).2.2).2.2
/-- What stands behind the verdict. -/
def trR (xid v : Int) (l : List UInt8) (e : Int) : Rp :=
  ⟨xid, v, (ifR (loB v) l e).1, (ifR (hiB v) (ifR (loB v) l e).2.1 (ifR (loB v) l e).2.2).1,
    if boB v then (fixR (ifR (hiB v) (ifR (loB v) l e).2.1 (ifR (loB v) l e).2.2).2.1.length (ifR (hiB v) (ifR (loB v) l e).2.1 (ifR (loB v) l e).2.2).2.1 (ifR (hiB v) (ifR (loB v) l e).2.1 (ifR (loB v) l e).2.2).2.2).1 else ⟨#[]⟩⟩
def takeR (l : List UInt8) : Rp :=
  trR (numR 4 l 0).1 (tvR (numR 4 (numR 4 l 0).2.1 (numR 4 l 0).2.2).2.1 (numR 4 (numR 4 l 0).2.1 (numR 4 l 0).2.2).2.2).1
    (tvR (numR 4 (numR 4 l 0).2.1 (numR 4 l 0).2.2).2.1 (numR 4 (numR 4 l 0).2.1 (numR 4 l 0).2.2).2.2).2.1 (tvR (numR 4 (numR 4 l 0).2.1 (numR 4 l 0).2.2).2.1 (numR 4 (numR 4 l 0).2.1 (numR 4 l 0).2.2).2.2).2.2
abbrev Rp.cells (R : Rp) : Array Value := #[.int .i64 R.xid, .int .i64 R.v, .int .i64 R.low, .int .i64 R.high, .string R.body]
def RpAt (w : World) (x : Nat) (R : Rp) : Prop := w.heap[x]? = some (.cells R.cells 49 (0, 0))
theorem RpAt.all {w : World} {x : Nat} {R : Rp} (h : RpAt w x R) : w.cell? ⟨x, 0, none⟩ = some (.int .i64 R.xid) ∧ w.cell? ⟨x, 1, none⟩ = some (.int .i64 R.v) ∧ w.cell? ⟨x, 2, none⟩ = some (.int .i64 R.low) ∧ w.cell? ⟨x, 3, none⟩ = some (.int .i64 R.high) ∧ w.cell? ⟨x, 4, none⟩ = some (.string R.body) := by
  have hh : w.heap[x]? = _ := h
  refine ⟨?_, ?_, ?_, ?_, ?_⟩ <;> (rw [cell_of_row w x _ _ _ _ hh]; rfl)
theorem RpAt.free {w : World} {x : Nat} {R : Rp} (h : RpAt w x R) (o : Nat) : w.frozen? ⟨x, o, none⟩ = false := Lib.frozen_of_heap h _
theorem Rd.set49 {w : World} {p q o : Nat} {l : List UInt8} {e : Int} {cs : Array Value} (h : Rd w p l e) (hq : w.heap[q]? = some (.cells cs 49 (0, 0))) (x : Value) : Rd (w.setCell ⟨q, o, none⟩ x) p l e := by
  refine h.keep fun k cs' t fr hk ht => Below.heap_setCell _ _ _ _ ?_
  intro e
  subst e
  rw [hq] at hk
  simp only [Option.some.injEq, Obj.cells.injEq] at hk
  rcases ht with rfl | rfl <;> simp at hk

theorem RpAt.s {w : World} {x : Nat} {R R' : Rp} (h : RpAt w x R) (o : Nat) (u : Value) (hR : R.cells.setIfInBounds o u = R'.cells) : RpAt (w.setCell ⟨x, o, none⟩ u) x R' := by
  have hh := heap_set (o := o) u h
  rw [hR] at hh
  exact hh
/-- A reply is laid into its block, field by field. -/
theorem lay5 {w : World} {a : Nat} {Z : Rp} (h : RpAt w a Z) (R : Rp) (W : World)
    (hW : W = (((((w.setCell ⟨a, 0, none⟩ (.int .i64 R.xid)).setCell ⟨a, 1, none⟩ (.int .i64 R.v)).setCell ⟨a, 2, none⟩ (.int .i64 R.low)).setCell ⟨a, 3, none⟩ (.int .i64 R.high)).setCell ⟨a, 4, none⟩ (.string R.body))) : RpAt W a R ∧ Only a w W := by
  subst hW
  refine ⟨?_, (((((Only.refl a w).set 0 _).set 1 _).set 2 _).set 3 _).set 4 _⟩
  exact ((((h.s (R' := ⟨R.xid, Z.v, Z.low, Z.high, Z.body⟩) 0 _ rfl).s (R' := ⟨R.xid, R.v, Z.low, Z.high, Z.body⟩) 1 _ rfl).s (R' := ⟨R.xid, R.v, R.low, Z.high, Z.body⟩) 2 _ rfl).s (R' := ⟨R.xid, R.v, R.low, R.high, Z.body⟩) 3 _ rfl).s (R' := R) 4 _ rfl

theorem results_row_tmp {P : Program} {fn : Func} {p q : Tmp} {ty : TypeId} (h : fn.results = #[.cell p ty, .tmp q]) (tmps : Array Value) (w : World) (g : Nat) (t : TypeId) (cs : Array Value) (fr : Nat × Nat) (d : TypeDesc)
    (hp : tmps.getD p undef = .pointer (some ⟨g, 0, none⟩)) (hg : w.heap[g]? = some (.cells cs t fr))
    (hu : P.underlying ty = some d) (hd : (match d with | .struct _ | .array _ _ => true | _ => false) = true) (hi : (P.info? ty).map (·.size) = some cs.size) :
    (results fn tmps).run P w = .ok (.tuple #[.agg cs, tmps.getD q undef]) w := by
  have hp' : tmps[p]?.getD undef = .pointer (some ⟨g, 0, none⟩) := by simpa using hp
  simp [results, h, hp', asAddr, run_loadVar_row w g t ty cs fr d hg hu hd hi]

/-- In the middle of takeReply. -/
structure Tr (w : World) (p x : Nat) (l : List UInt8) (e : Int) (R : Rp) (wc : World) : Prop where
  rd : Rd wc p l e
  x : RpAt wc x R
  a : RpAt wc w.heap.size ⟨0, 0, 0, 0, ⟨#[]⟩⟩
  f : Fq p w wc
theorem Tr.only {w wc w' : World} {p x : Nat} {l l' : List UInt8} {e e' : Int} {R : Rp} (h : Tr w p x l e R wc) (hp : p < w.heap.size) (hx : w.heap.size < x) (ho : Only p wc w') (hR : Rd w' p l' e') : Tr w p x l' e' R w' :=
  ⟨hR, (ho.block _ (by omega)).trans h.x, (ho.block _ (by omega)).trans h.a, h.f.trans (Fq.ofOnly ho)⟩
theorem Tr.set {w wc : World} {p x : Nat} {l : List UInt8} {e : Int} {R R' : Rp} (h : Tr w p x l e R wc) (hx : w.heap.size < x) (o : Nat) (u : Value) (hR : R.cells.setIfInBounds o u = R'.cells) : Tr w p x l e R' (wc.setCell ⟨x, o, none⟩ u) := by
  have hh := heap_set (o := o) u h.x
  rw [hR] at hh
  exact ⟨h.rd.set49 h.x u, hh, (Below.heap_setCell _ _ _ _ (Nat.ne_of_lt hx)).trans h.a, h.f.only ((Only.refl x wc).set o u) (by omega)⟩
theorem tvR_len (l : List UInt8) (e : Int) : (tvR l e).2.1.length ≤ l.length := by
  have h1 := (numR_le 4 l e).2
  unfold tvR
  generalize numR 4 l e = A at *
  have h2 := (numR_le 4 A.2.1 A.2.2).2
  generalize numR 4 A.2.1 A.2.2 = B at *
  split
  · dsimp only; omega
  · have h3 := @opqR_len 0 B.2.1 B.2.2 (opqR 0 B.2.1 B.2.2).1 (opqR 0 B.2.1 B.2.2).2.1 (opqR 0 B.2.1 B.2.2).2.2 rfl
    have h4 := (numR_le 4 (opqR 0 B.2.1 B.2.2).2.1 (opqR 0 B.2.1 B.2.2).2.2).2
    omega
theorem ifR_len (b : Bool) (l : List UInt8) (e : Int) : (ifR b l e).2.1.length ≤ l.length := by
  unfold ifR
  split
  · exact (numR_le 4 l e).2
  · exact Nat.le_refl _

set_option maxRecDepth 100000 in
set_option maxHeartbeats 2000000 in
theorem takeReply_any (p : Nat) (l : List UInt8) (w : World) (hR : Rd w p l 0) (hl : l.length ≤ 65536) :
    Calls Try.prog 43 #[.pointer (some ⟨p, 0, none⟩)] w fun r w' => r = .returned (.agg (takeR l).cells) ∧ Fq p w w' := by
  have hp := hR.lt
  unfold takeR
  generalize h1 : numR 4 l 0 = A
  obtain ⟨xid, l1, e1⟩ := A
  dsimp only
  generalize h2 : numR 4 l1 e1 = A
  obtain ⟨n2, l2, e2⟩ := A
  dsimp only
  have hl1 := numR_len h1
  have hl2 := numR_len h2
  generalize h3 : tvR l2 e2 = A
  have hl3 := tvR_len l2 e2
  rw [h3] at hl3
  obtain ⟨v, l3, e3⟩ := A
  dsimp only at hl3 ⊢
  unfold trR
  generalize h4 : ifR (loB v) l3 e3 = A
  have hl4 := ifR_len (loB v) l3 e3
  rw [h4] at hl4
  obtain ⟨lo, l4, e4⟩ := A
  dsimp only at hl4 ⊢
  generalize h5 : ifR (hiB v) l4 e4 = A
  have hl5 := ifR_len (hiB v) l4 e4
  rw [h5] at hl5
  obtain ⟨hi, l5, e5⟩ := A
  dsimp only at hl5 ⊢
  generalize h6 : (if boB v then (fixR (l5.length : Int) l5 e5).1 else ⟨#[]⟩) = body
  have H1 := Lib.hid h1
  have H2 := Lib.hid h2
  have H3 := Lib.hid h3
  have H4 := Lib.hid h4
  have H5 := Lib.hid h5
  have H6 := Lib.hid h6
  have HR := Lib.hid hR
  clear h1 h2 h3 h4 h5 h6 hR
  obtain ⟨bl, hbl⟩ : ∃ u, loB v = u := ⟨_, rfl⟩
  obtain ⟨bh, hbh⟩ : ∃ u, hiB v = u := ⟨_, rfl⟩
  obtain ⟨bo, hbo⟩ : ∃ u, boB v = u := ⟨_, rfl⟩
  have HL := Lib.hid hbl
  have HH := Lib.hid hbh
  have HO := Lib.hid hbo
  clear hbl hbh hbo
  go_enter Try.func43, Try.ntmps43
  go_wp2_with fail
  refine (ruint_n p l 0 _ (HR.out.alloc _) (by omega) xid l1 e1 H1.out).mono ?_
  rintro r w1 ⟨rfl, hR1, hO1⟩
  have hT : Tr w p (w1.heap.size) l1 e1 ⟨xid, 0, 0, 0, ⟨#[]⟩⟩ (w1.alloc (.cells #[.int .i64 xid, .int .i64 0, .int .i64 0, .int .i64 0, .string ⟨#[]⟩] 49)) := by
    refine ⟨hR1.alloc _, heap_alloc_new w1 _, ?_, (((Fq.refl p w).alloc _).trans (Fq.ofOnly hO1)).alloc _⟩
    have hs := hO1.size
    exact ((World.grownBy_alloc w1 _ none).block w.heap.size (by rw [hs]; simp) (by simp)).trans ((hO1.block _ (by omega)).trans (heap_alloc_new w _))
  have hx : w.heap.size < w1.heap.size := by have := hO1.size; simp at this; omega
  obtain ⟨X, hX⟩ : ∃ X, w1.heap.size = X := ⟨_, rfl⟩
  rw [hX] at hT hx
  have HX := Lib.hid hX
  have HT := Lib.hid hT
  clear hR1 hO1 hT hX HR
  go_wp2_with fail
  rw [HX.out]
  generalize (w1.alloc (.cells #[.int .i64 xid, .int .i64 0, .int .i64 0, .int .i64 0, .string ⟨#[]⟩] 49)) = W1 at *
  refine (ruint_n p l1 e1 W1 HT.out.rd (by omega) n2 l2 e2 H2.out).mono ?_
  rintro r w2 ⟨rfl, hR2, hO2⟩
  have HT2 := Lib.hid (HT.out.only hp hx hO2 hR2)
  clear hR2 hO2 HT
  have h3 := H3.out
  unfold tvR at h3
  generalize g1 : numR 4 l2 e2 = A at h3
  obtain ⟨c, m1, f1⟩ := A
  dsimp only at h3
  have hm1 := numR_len g1
  generalize g2 : numR 4 m1 f1 = A at h3
  obtain ⟨d, m2, f2⟩ := A
  dsimp only at h3
  have hm2 := numR_len g2
  have G1 := Lib.hid g1
  have G2 := Lib.hid g2
  have H3' := Lib.hid h3
  clear g1 g2 h3 H3
  go_wp2_with fail
  refine (ruint_n p l2 e2 w2 HT2.out.rd (by omega) c m1 f1 G1.out).mono ?_
  rintro r w3 ⟨rfl, hR3, hO3⟩
  have HT3 := Lib.hid (HT2.out.only hp hx hO3 hR3)
  clear hR3 hO3 HT2
  go_upto_if 11 with (fail)
  go_cut [] (fun wc => Tr w p X l3 e3 ⟨xid, v, 0, 0, ⟨#[]⟩⟩ wc)
  case first =>
    by_cases hc : c = 1
    · have h3 := H3'.out
      rw [if_pos hc] at h3
      simp only [Prod.mk.injEq] at h3
      obtain ⟨hv, rfl, rfl⟩ := h3
      have HV := Lib.hid hv
      clear hv
      subst hc
      have k1 := HT3.out.x.free 1
      obtain ⟨_, x1, _⟩ := HT3.out.x.all
      go_wp2_with fail
      have HT4 := Lib.hid (HT3.out.set (R' := ⟨xid, 6, 0, 0, ⟨#[]⟩⟩) hx 1 (.int .i64 6) rfl)
      refine (ruint_n p m1 f1 _ HT4.out.rd (by omega) d m2 f2 G2.out).mono ?_
      rintro r w4 ⟨rfl, hR4, hO4⟩
      have HT5 := Lib.hid (HT4.out.only hp hx hO4 hR4)
      clear hR4 hO4 HT4 HT3
      have k1 := HT5.out.x.free 1
      obtain ⟨_, x1, _⟩ := HT5.out.x.all
      by_cases hd : d = 1
      · go_wp2
        go_meet
        have hv := HV.out
        rw [if_pos hd] at hv
        subst hv
        exact HT5.out.set hx 1 (.int .i64 7) rfl
      · have hb : (d == 1) = false := by simpa using hd
        go_wp2
        go_meet
        have hv := HV.out
        rw [if_neg hd] at hv
        subst hv
        exact HT5.out
    · have hb : (c == 1) = false := by simpa using hc
      have h3 := H3'.out
      rw [if_neg hc] at h3
      generalize g3 : opqR 0 m2 f2 = A at h3
      obtain ⟨s, m3, f3⟩ := A
      dsimp only at h3
      have hm3 := opqR_len g3
      have G3 := Lib.hid g3
      have H3'' := Lib.hid h3
      clear g3 h3 hc
      go_wp2_with fail
      refine (ruint_n p m1 f1 w3 HT3.out.rd (by omega) d m2 f2 G2.out).mono ?_
      rintro r w4 ⟨rfl, hR4, hO4⟩
      have HT4 := Lib.hid (HT3.out.only hp hx hO4 hR4)
      clear hR4 hO4 HT3
      go_wp2_with fail
      refine (ropaque_n p m2 f2 0 w4 HT4.out.rd (by omega) s m3 f3 G3.out).mono ?_
      rintro r w5 ⟨rfl, hR5, hO5⟩
      have HT5 := Lib.hid (HT4.out.only hp hx hO5 hR5)
      clear hR5 hO5 HT4
      go_wp2_with fail
      refine (ruint_n p m3 f3 w5 HT5.out.rd (by omega) v l3 e3 H3''.out).mono ?_
      rintro r w6 ⟨rfl, hR6, hO6⟩
      have HT6 := Lib.hid (HT5.out.only hp hx hO6 hR6)
      clear hR6 hO6 HT5
      have k1 := HT6.out.x.free 1
      obtain ⟨_, x1, _⟩ := HT6.out.x.all
      go_wp2
      go_meet
      exact HT6.out.set hx 1 (.int .i64 v) rfl
  case rest =>
    have HT4 := Lib.hid hcut
    clear hcut HT3 H3' G1 G2
    obtain ⟨_, x1, _⟩ := HT4.out.x.all
    go_wp2_with fail
    refine (hasLow_any v wc bl HL.out).mono ?_
    rintro e w5 ⟨rfl, rfl⟩
    go_upto_if 26 with (fail)
    go_cut [] (fun wd => Tr w p X l4 e4 ⟨xid, v, lo, 0, ⟨#[]⟩⟩ wd)
    case first =>
      have h4 := H4.out
      rw [HL.out] at h4
      unfold ifR at h4
      cases bl
      · simp only [Bool.false_eq_true, if_false, Prod.mk.injEq] at h4
        obtain ⟨rfl, rfl, rfl⟩ := h4
        go_wp2
        go_meet
        exact HT4.out
      · simp only [if_true] at h4
        have H4' := Lib.hid h4
        clear h4
        go_wp2_with fail
        refine (ruint_n p l3 e3 wc HT4.out.rd (by omega) lo l4 e4 H4'.out).mono ?_
        rintro r w6 ⟨rfl, hR6, hO6⟩
        have HT6 := Lib.hid (HT4.out.only hp hx hO6 hR6)
        clear hR6 hO6
        have k2 := HT6.out.x.free 2
        obtain ⟨_, _, x2, _⟩ := HT6.out.x.all
        go_wp2
        go_meet
        exact HT6.out.set hx 2 (.int .i64 lo) rfl
    case rest =>
      have HT5 := Lib.hid hcut
      clear hcut HT4 x1
      obtain ⟨_, x1, _⟩ := HT5.out.x.all
      go_wp2_with fail
      refine (hasHigh_any v wc bh HH.out).mono ?_
      rintro e w6 ⟨rfl, rfl⟩
      go_upto_if 32 with (fail)
      go_cut [] (fun wd => Tr w p X l5 e5 ⟨xid, v, lo, hi, ⟨#[]⟩⟩ wd)
      case first =>
        have h5 := H5.out
        rw [HH.out] at h5
        unfold ifR at h5
        cases bh
        · simp only [Bool.false_eq_true, if_false, Prod.mk.injEq] at h5
          obtain ⟨rfl, rfl, rfl⟩ := h5
          go_wp2
          go_meet
          exact HT5.out
        · simp only [if_true] at h5
          have H5' := Lib.hid h5
          clear h5
          go_wp2_with fail
          refine (ruint_n p l4 e4 wc HT5.out.rd (by omega) hi l5 e5 H5'.out).mono ?_
          rintro r w7 ⟨rfl, hR7, hO7⟩
          have HT7 := Lib.hid (HT5.out.only hp hx hO7 hR7)
          clear hR7 hO7
          have k3 := HT7.out.x.free 3
          obtain ⟨_, _, _, x3, _⟩ := HT7.out.x.all
          go_wp2
          go_meet
          exact HT7.out.set hx 3 (.int .i64 hi) rfl
      case rest =>
        have HT6 := Lib.hid hcut
        clear hcut HT5 x1
        obtain ⟨_, x1, _⟩ := HT6.out.x.all
        go_wp2_with fail
        refine (hasBody_any v wc bo HO.out).mono ?_
        rintro e w7 ⟨rfl, rfl⟩
        go_upto_if 38 with (fail)
        go_cut [] (fun wd => ∃ l e, Tr w p X l e ⟨xid, v, lo, hi, body⟩ wd)
        case first =>
          have h6 := H6.out
          rw [HO.out] at h6
          cases bo
          · simp only [Bool.false_eq_true, if_false] at h6
            subst h6
            go_wp2
            go_meet
            exact ⟨_, _, HT6.out⟩
          · simp only [if_true] at h6
            generalize g6 : fixR (l5.length : Int) l5 e5 = A at h6
            obtain ⟨s6, l6, e6⟩ := A
            dsimp only at h6
            subst h6
            have G6 := Lib.hid g6
            clear g6
            go_wp2_with fail
            refine (left_same' p l5 e5 wc HT6.out.rd).mono ?_
            rintro r w8 ⟨rfl, rfl⟩
            go_wp2_with fail
            refine (rfixed_n p l5 e5 (l5.length : Int) wc HT6.out.rd (by omega) (by omega) s6 l6 e6 G6.out).mono ?_
            rintro r w9 ⟨rfl, hR9, hO9⟩
            have HT9 := Lib.hid (HT6.out.only hp hx hO9 hR9)
            clear hR9 hO9
            have k4 := HT9.out.x.free 4
            obtain ⟨_, _, _, _, x4⟩ := HT9.out.x.all
            go_wp2
            go_meet
            exact ⟨_, _, HT9.out.set hx 4 (.string s6) rfl⟩
        case rest =>
          obtain ⟨lz, ez, hT⟩ := hcut
          obtain ⟨x0, x1, x2, x3, x4⟩ := hT.x.all
          obtain ⟨y0, y1, y2, y3, y4⟩ := hT.a.all
          have k0 := hT.a.free 0
          have k1 := hT.a.free 1
          have k2 := hT.a.free 2
          have k3 := hT.a.free 3
          have k4 := hT.a.free 4
          have HT7 := Lib.hid hT
          clear hT HT6
          go_wp2
          obtain ⟨q1, q2⟩ := lay5 HT7.out.a ⟨xid, v, lo, hi, body⟩ _ rfl
          refine bodyPost_ret (results_cell_row rfl _ _ w.heap.size 49 _ (0, 0) _ rfl q1 Try.underlying49 rfl (by kernel_rfl)) rfl ?_
          exact ⟨rfl, HT7.out.f.only q2 (Nat.le_refl _)⟩

/-- What GetReply makes of bytes. -/
def getR (s : ByteArray) : Rp × Int :=
  if 65536 < s.size then (⟨0, 0, 0, 0, ⟨#[]⟩⟩, 2)
  else if (takeR s.data.toList).ok = true ∧ restC (takeR s.data.toList).head (takeR s.data.toList).body = 0 ∧ restS (takeR s.data.toList).head (takeR s.data.toList).body = s then (takeR s.data.toList, 0)
  else (⟨0, 0, 0, 0, ⟨#[]⟩⟩, 4)
theorem fixR_whole_size (l : List UInt8) (e : Int) : (fixR (l.length : Int) l e).1.size ≤ l.length := by
  rw [fixR_nat]
  split
  · exact Nat.zero_le _
  · split
    · show (l.take l.length).toArray.size ≤ _
      simp
    · exact Nat.zero_le _
theorem takeR_size (l : List UInt8) : (takeR l).body.size ≤ l.length := by
  unfold takeR
  have a := (numR_le 4 l 0).2
  generalize numR 4 l 0 = A at *
  have b := (numR_le 4 A.2.1 A.2.2).2
  generalize numR 4 A.2.1 A.2.2 = B at *
  have c := tvR_len B.2.1 B.2.2
  generalize tvR B.2.1 B.2.2 = C at *
  unfold trR
  have d := ifR_len (loB C.1) C.2.1 C.2.2
  generalize ifR (loB C.1) C.2.1 C.2.2 = D at *
  have e := ifR_len (hiB C.1) D.2.1 D.2.2
  generalize ifR (hiB C.1) D.2.1 D.2.2 = E at *
  dsimp only
  split
  · exact Nat.le_trans (fixR_whole_size _ _) (by omega)
  · exact Nat.zero_le _
set_option maxRecDepth 100000 in
set_option maxHeartbeats 2000000 in
theorem getReply_any (s : ByteArray) (w : World) :
    Calls Try.prog 18 #[.string s] w fun r w' => r = .returned (.tuple #[.agg (getR s).1.cells, .int .i64 (getR s).2]) ∧ Below w.heap.size w w' := by
  by_cases hs : 65536 < s.size
  · have hg : getR s = (⟨0, 0, 0, 0, ⟨#[]⟩⟩, 2) := if_pos hs
    rw [hg]
    have hd : decide ((65536 : Int) < (s.size : Int)) = true := decide_eq_true (by omega)
    go_enter Try.func18, Try.ntmps18
    go_wp2
    refine bodyPost_ret (results_row_tmp rfl _ _ w.heap.size 49 _ (0, 0) _ rfl (heap_alloc_new w _) Try.underlying49 rfl (by kernel_rfl)) rfl ?_
    exact ⟨rfl, (Below.refl _ w).alloc (Nat.le_refl _) _⟩
  · have hd : decide ((65536 : Int) < (s.size : Int)) = false := decide_eq_false (by omega)
    have hs' : s.size ≤ 65536 := by omega
    have hsl : s.data.toList.length ≤ 65536 := by rw [Array.length_toList]; exact hs'
    have hbs := takeR_size s.data.toList
    have hg : getR s = if (takeR s.data.toList).ok = true ∧ restC (takeR s.data.toList).head (takeR s.data.toList).body = 0 ∧ restS (takeR s.data.toList).head (takeR s.data.toList).body = s then (takeR s.data.toList, 0) else (⟨0, 0, 0, 0, ⟨#[]⟩⟩, 4) := if_neg hs
    rw [hg]
    have hpr := fun wz => putReply_any (takeR s.data.toList) wz (by omega)
    have htk := fun p wz h => takeReply_any p s.data.toList wz h hsl
    generalize takeR s.data.toList = R at *
    generalize h1 : (if R.ok then restS R.head R.body else ⟨#[]⟩) = S1 at hpr
    generalize h2 : (if R.ok then restC R.head R.body else 4) = S2 at hpr
    have he : (R.ok = true ∧ restC R.head R.body = 0 ∧ restS R.head R.body = s) ↔ (S2 = 0 ∧ S1 = s) := by
      subst h1 h2
      cases R.ok <;> simp
    simp only [he]
    generalize hG : (if S2 = 0 ∧ S1 = s then (R, (0 : Int)) else (⟨0, 0, 0, 0, ⟨#[]⟩⟩, 4)) = G
    have HG := Lib.hid hG
    clear hG
    have HPR := Lib.hid hpr
    have HTK := Lib.hid htk
    clear hpr htk h1 h2 he hg hs hbs
    obtain ⟨x, v, lo, hi, b⟩ := R
    go_enter Try.func18, Try.ntmps18
    go_wp2_with fail
    refine (open_any s _ (by unfold maxLen; omega)).mono ?_
    rintro r w1 ⟨rfl, hR1, hB1, n1⟩
    have hA1 : RpAt w1 w.heap.size ⟨0, 0, 0, 0, ⟨#[]⟩⟩ := (hB1.block _ (by simp)).trans (heap_alloc_new w _)
    have hbb : Below w.heap.size w w1 := ((Below.refl _ w).alloc (Nat.le_refl _) _).trans (hB1.mono (by simp))
    have n1' : w1.heap.size = w.heap.size + 3 := by rw [n1]; simp
    have e1 : (w.alloc (.cells #[.int .i64 0, .int .i64 0, .int .i64 0, .int .i64 0, .string ⟨#[]⟩] 49)).heap.size + 1 = w.heap.size + 2 := by simp
    rw [e1] at hR1
    have HA1 := Lib.hid hA1
    have HB1 := Lib.hid hbb
    have HR1 := Lib.hid hR1
    clear hR1 hB1 n1 e1 hA1 hbb
    go_wp2_with fail
    refine (HTK.out (w.heap.size + 2) w1 (by simpa using HR1.out)).mono ?_
    rintro r w2 ⟨rfl, hF2⟩
    have hA2 : RpAt w2 w.heap.size ⟨0, 0, 0, 0, ⟨#[]⟩⟩ := (hF2.block _ (by omega) (by omega)).trans HA1.out
    have hB2 : Below w.heap.size w w2 := HB1.out.trans ⟨hF2.os, hF2.tape, hF2.output, hF2.size, fun k hk => hF2.block k (by omega) (by omega)⟩
    have n2 : w.heap.size + 3 ≤ w2.heap.size := by have := hF2.size; omega
    have HA2 := Lib.hid hA2
    have HB2 := Lib.hid hB2
    clear hF2 hA2 hB2 HA1 HB1 HR1
    go_wp2_with fail
    refine (HPR.out _).mono ?_
    rintro r w3 ⟨rfl, hB3⟩
    have hA3 : RpAt w3 w.heap.size ⟨0, 0, 0, 0, ⟨#[]⟩⟩ := (hB3.block _ (by simp; omega)).trans (((World.grownBy_alloc w2 _ none).block w.heap.size (by omega) (by simp)).trans HA2.out)
    have hX3 : RpAt w3 w2.heap.size ⟨x, v, lo, hi, b⟩ := (hB3.block _ (by simp)).trans (heap_alloc_new w2 _)
    have HB3 := Lib.hid ((HB2.out.alloc (by omega) (.cells #[.int .i64 x, .int .i64 v, .int .i64 lo, .int .i64 hi, .string b] 49)).trans (hB3.mono (by simp; omega)))
    obtain ⟨x0, x1, x2, x3, x4⟩ := hX3.all
    obtain ⟨y0, y1, y2, y3, y4⟩ := hA3.all
    have k0 := hA3.free 0
    have k1 := hA3.free 1
    have k2 := hA3.free 2
    have k3 := hA3.free 3
    have k4 := hA3.free 4
    have HA3 := Lib.hid hA3
    clear hB3 hA3 hX3 HA2 HB2 HPR HTK
    have hne : w2.heap.size ≠ w.heap.size := by omega
    by_cases c2 : S2 = 0
    · subst c2
      by_cases c1 : S1 = s
      · subst c1
        have hG := HG.out
        rw [if_pos ⟨rfl, rfl⟩] at hG
        subst hG
        go_wp2
        obtain ⟨q1, q2⟩ := lay5 HA3.out ⟨x, v, lo, hi, b⟩ _ rfl
        refine bodyPost_ret (results_row_tmp rfl _ _ w.heap.size 49 _ (0, 0) _ rfl q1 Try.underlying49 rfl (by kernel_rfl)) rfl ?_
        exact ⟨rfl, HB3.out.trans (q2.below (Nat.le_refl _))⟩
      · have hG := HG.out
        rw [if_neg (fun h => c1 h.2)] at hG
        subst hG
        have c1' := Lib.hid c1
        have hb1 : (S1.toList == s.toList) = false := by
          cases hq : (S1.toList == s.toList) with
          | false => rfl
          | true => exact absurd (ByteArray.ext (Array.ext' (by simpa [ByteArray.toList_eq] using beq_iff_eq.1 hq))) c1
        clear c1
        go_wp2
        all_goals first
          | (obtain ⟨q1, q2⟩ := lay5 HA3.out ⟨0, 0, 0, 0, ⟨#[]⟩⟩ _ rfl
             refine bodyPost_ret (results_row_tmp rfl _ _ w.heap.size 49 _ (0, 0) _ rfl q1 Try.underlying49 rfl (by kernel_rfl)) rfl ?_
             exact ⟨rfl, HB3.out.trans (q2.below (Nat.le_refl _))⟩)
          | (exfalso; simp_all)
    · have hG := HG.out
      rw [if_neg (fun h => c2 h.1)] at hG
      subst hG
      have hb2 : (S2 != 0) = true := by simpa using c2
      go_wp2
      obtain ⟨q1, q2⟩ := lay5 HA3.out ⟨0, 0, 0, 0, ⟨#[]⟩⟩ _ rfl
      refine bodyPost_ret (results_row_tmp rfl _ _ w.heap.size 49 _ (0, 0) _ rfl q1 Try.underlying49 rfl (by kernel_rfl)) rfl ?_
      exact ⟨rfl, HB3.out.trans (q2.below (Nat.le_refl _))⟩
end Go.Proofs.Ytkbjimbnbocfpaa
