/-
  The document's GetReply answers as the program's does. No condition.
-/
import Derived.Test.YtkbjimbnbocfpaaCd
import Derived.Test.YtkbjimbnbocfpaaRpr
import Derived.WalkSmall
namespace Go.Proofs.Ytkbjimbnbocfpaa
open Go.RowKit
theorem ruint4_n (q : Nat) (s : ByteArray) (l : List UInt8) (e : Int) (w : World) (h : RL w q s l e) (n : Int) (l' : List UInt8) (e' : Int) (hn : numR 4 l e = (n, l', e')) :
    Calls Try.prog 36 #[.pointer (some ⟨q, 0, none⟩)] w fun r w' => r = .returned (.int .i64 n) ∧ RL w' q s l' e' ∧ Only q w w' := by
  have hN := rnumber_any q s l e 4 w h (by omega) (by omega)
  rw [hn] at hN
  have HN := Lib.hid hN
  clear hN hn h
  go_enter Try.func36, Try.ntmps36
  go_wp2_with fail
  refine HN.out.mono ?_
  rintro r w1 ⟨rfl, hR, hO⟩
  have HR := Lib.hid hR
  have HO := Lib.hid hO
  clear hR hO
  go_wp2
  go_ret
  exact ⟨rfl, HR.out, HO.out⟩
def RqAt (w : World) (x : Nat) (R : Rp) : Prop := w.heap[x]? = some (.cells R.cells 51 (0, 0))
theorem RqAt.all {w : World} {x : Nat} {R : Rp} (h : RqAt w x R) : w.cell? ⟨x, 0, none⟩ = some (.int .i64 R.xid) ∧ w.cell? ⟨x, 1, none⟩ = some (.int .i64 R.v) ∧ w.cell? ⟨x, 2, none⟩ = some (.int .i64 R.low) ∧ w.cell? ⟨x, 3, none⟩ = some (.int .i64 R.high) ∧ w.cell? ⟨x, 4, none⟩ = some (.string R.body) := by
  have hh : w.heap[x]? = _ := h
  refine ⟨?_, ?_, ?_, ?_, ?_⟩ <;> (rw [cell_of_row w x _ _ _ _ hh]; rfl)
theorem RqAt.free {w : World} {x : Nat} {R : Rp} (h : RqAt w x R) (o : Nat) : w.frozen? ⟨x, o, none⟩ = false := Lib.frozen_of_heap h _
theorem RqAt.s {w : World} {x : Nat} {R R' : Rp} (h : RqAt w x R) (o : Nat) (u : Value) (hR : R.cells.setIfInBounds o u = R'.cells) : RqAt (w.setCell ⟨x, o, none⟩ u) x R' := by
  have hh := heap_set (o := o) u h
  rw [hR] at hh
  exact hh
theorem lay5q {w : World} {a : Nat} {Z : Rp} (h : RqAt w a Z) (R : Rp) (W : World)
    (hW : W = (((((w.setCell ⟨a, 0, none⟩ (.int .i64 R.xid)).setCell ⟨a, 1, none⟩ (.int .i64 R.v)).setCell ⟨a, 2, none⟩ (.int .i64 R.low)).setCell ⟨a, 3, none⟩ (.int .i64 R.high)).setCell ⟨a, 4, none⟩ (.string R.body))) : RqAt W a R ∧ Only a w W := by
  subst hW
  refine ⟨?_, (((((Only.refl a w).set 0 _).set 1 _).set 2 _).set 3 _).set 4 _⟩
  exact ((((h.s (R' := ⟨R.xid, Z.v, Z.low, Z.high, Z.body⟩) 0 _ rfl).s (R' := ⟨R.xid, R.v, Z.low, Z.high, Z.body⟩) 1 _ rfl).s (R' := ⟨R.xid, R.v, R.low, Z.high, Z.body⟩) 2 _ rfl).s (R' := ⟨R.xid, R.v, R.low, R.high, Z.body⟩) 3 _ rfl).s (R' := R) 4 _ rfl
abbrev zeroR : Rp := ⟨0, 0, 0, 0, ⟨#[]⟩⟩
/-- At the head of a round. -/
structure G0 (w wr : World) : Prop where
  a : RqAt wr w.heap.size zeroR
  low : Below w.heap.size w wr
/-- In a round: the reader in q, the reply in x. -/
structure Gs (w : World) (q x : Nat) (s : ByteArray) (l : List UInt8) (X : Rp) (wc : World) : Prop where
  rd : ∃ e, RL wc q s l e
  x : RqAt wc x X
  g : G0 w wc
theorem G0.lt {w wr : World} (h : G0 w wr) : w.heap.size < wr.heap.size := (Array.getElem?_eq_some_iff.1 h.a).1
theorem G0.below {w wr w' : World} (h : G0 w wr) (hb : Below wr.heap.size wr w') : G0 w w' := ⟨(hb.block _ h.lt).trans h.a, h.low.trans (hb.mono h.low.size)⟩
theorem G0.only {w wr w' : World} {q : Nat} (h : G0 w wr) (hq : w.heap.size < q) (ho : Only q wr w') : G0 w w' := ⟨(ho.block _ (by omega)).trans h.a, h.low.trans (ho.below (by omega))⟩
theorem G0.set {w wr : World} {q o : Nat} {u : Value} (h : G0 w wr) (hq : w.heap.size < q) : G0 w (wr.setCell ⟨q, o, none⟩ u) := h.only hq ((Only.refl q wr).set o u)
theorem RL.only {w w' : World} {q x : Nat} {s : ByteArray} {l : List UInt8} {e : Int} (h : RL w q s l e) (hx : q ≠ x) (ho : Only x w w') : RL w' q s l e := by
  obtain ⟨a, h, hl⟩ := h
  exact ⟨a, ⟨(ho.block _ hx).trans h.blk, h.le, h.big, h.bad⟩, hl⟩
theorem RL.below {w w' : World} {q : Nat} {s : ByteArray} {l : List UInt8} {e : Int} (h : RL w q s l e) (hb : Below w.heap.size w w') : RL w' q s l e := by
  obtain ⟨a, h, hl⟩ := h
  exact ⟨a, ⟨(hb.block _ (Array.getElem?_eq_some_iff.1 h.blk).1).trans h.blk, h.le, h.big, h.bad⟩, hl⟩
theorem RL.new (w : World) (s : ByteArray) (hs : s.size ≤ 65536) : RL (w.alloc (.cells #[.string s, .int .i64 0, .int .i64 0] 83)) w.heap.size s s.data.toList 0 :=
  ⟨0, ⟨heap_alloc_new w _, by omega, by omega, fun h => absurd rfl h⟩, rfl⟩
/-- The reader is set to a place. -/
theorem RL.seek {w : World} {q : Nat} {s : ByteArray} {l : List UInt8} (h : RL w q s l 0) (a : Nat) (ha : a ≤ s.size) : RL (w.setCell ⟨q, 1, none⟩ (.int .i64 a)) q s (s.data.toList.drop a) 0 := by
  obtain ⟨b, h, _⟩ := h
  refine ⟨a, ⟨?_, ha, h.big, fun h => absurd rfl h⟩, rfl⟩
  rw [heap_set _ h.blk]; rfl
theorem RL.frees {w : World} {q : Nat} {s : ByteArray} {l : List UInt8} {e : Int} (h : RL w q s l e) : (∃ a : Nat, w.cell? ⟨q, 1, none⟩ = some (.int .i64 a)) ∧ w.frozen? ⟨q, 1, none⟩ = false := by
  obtain ⟨a, h, _⟩ := h
  exact ⟨⟨a, h.cells.2.1⟩, h.cells.2.2.2.1⟩

theorem next_inv {s : ByteArray} {k : Nat} (hinv : ∀ R, Good R s → (k : Int) ≤ R.v) (hc : ¬ Good (candR s k) s) : ∀ R, Good R s → ((k + 1 : Nat) : Int) ≤ R.v := by
  intro R hR
  have h1 := hinv R hR
  by_cases h : R.v = k
  · have h2 := (good_cand hR).1
    rw [h] at h2
    rw [h2] at hc
    exact absurd hR hc
  · omega
theorem short_inv {s : ByteArray} {k : Nat} (hinv : ∀ R, Good R s → (k : Int) ≤ R.v) (hc : s.size < atR k ∨ 65536 < s.size) : ∀ R, Good R s → ((k + 1 : Nat) : Int) ≤ R.v := by
  refine next_inv hinv fun hg => ?_
  have h1 := (good_cand hg).2.1
  have h2 := good_size hg
  have h3 : (candR s k).v = k := rfl
  rw [h3] at h1
  omega
/-- The reply is new, and the reader is set to its place. -/
theorem Gs.new {w w1 : World} {s : ByteArray} {l : List UInt8} {X : Rp} {q A : Nat} (hG : G0 w w1) (hq : w.heap.size < q) (hR : RL w1 q s l 0) (hA : A ≤ s.size) (W : World)
    (hW : W = (w1.setCell ⟨q, 1, none⟩ (.int .i64 A)).alloc (.cells X.cells 51)) : RL W q s (s.data.toList.drop A) 0 ∧ RqAt W w1.heap.size X ∧ G0 w W ∧ W.heap.size = w1.heap.size + 1 := by
  subst hW
  generalize hw2 : w1.setCell ⟨q, 1, none⟩ (.int .i64 A) = w2
  have hn : w2.heap.size = w1.heap.size := by rw [← hw2]; simp [World.setCell]
  have hR2 : RL w2 q s (s.data.toList.drop A) 0 := by rw [← hw2]; exact hR.seek A hA
  have hG2 : G0 w w2 := by rw [← hw2]; exact hG.set hq
  have hb : Below w2.heap.size w2 (w2.alloc (.cells X.cells 51)) := (Below.refl _ _).alloc (Nat.le_refl _) _
  refine ⟨hR2.below hb, ?_, hG2.below hb, by simp [hn]⟩
  rw [← hn]
  exact heap_alloc_new w2 _
theorem good_of {R : Rp} {s S : ByteArray} {E : Int} (hS : (if R.ok then restS R.head R.body else ⟨#[]⟩) = S) (hE : (if R.ok then restC R.head R.body else 4) = E) (h1 : E = 0) (h2 : S = s) : Good R s := by
  subst h1 h2
  cases ho : R.ok with
  | false => rw [ho] at hE; simp at hE
  | true => rw [ho] at hS hE; exact ⟨ho, hE, hS⟩
theorem of_good {R : Rp} {s S : ByteArray} {E : Int} (hS : (if R.ok then restS R.head R.body else ⟨#[]⟩) = S) (hE : (if R.ok then restC R.head R.body else 4) = E) (h : Good R s) : E = 0 ∧ S = s := by
  obtain ⟨h1, h2, h3⟩ := h
  rw [h1] at hS hE
  exact ⟨hE.symm.trans h2, hS.symm.trans h3⟩
theorem ext_size24 (s : ByteArray) : (s.extract 24 s.size).size = s.size - 24 := by simp
theorem eq_bytes0 {a b : ByteArray} (h : (a.toList == b.toList) = true) : a = b := ByteArray.ext (Array.ext' (by simpa [ByteArray.toList_eq] using beq_iff_eq.1 h))
theorem numR_full {l : List UInt8} (h : 4 ≤ l.length) : ∃ n l', numR 4 l 0 = (n, l', 0) := by
  unfold numR
  rw [if_neg (by omega)]
  exact ⟨_, _, rfl⟩

set_option maxRecDepth 100000 in
set_option maxHeartbeats 16000000 in
theorem refGetReply_any (s : ByteArray) (w : World) (hs : s.size ≤ 140737488355328) :
    Calls Try.prog 19 #[.string s] w fun r w' => r = .returned (.tuple #[.agg (getR s).1.cells, .bool ((getR s).2 == 0)]) ∧ Below w.heap.size w w' := by
  go_enter Try.func19, Try.ntmps19
  have hG0 : G0 w (w.alloc (.cells zeroR.cells 51)) := ⟨heap_alloc_new w _, (Below.refl _ w).alloc (Nat.le_refl _) _⟩
  go_wp2_with fail
  go_loopw [4] (fun i wr => ∃ k : Nat, k ≤ 8 ∧ i = .int .i64 k ∧ (∀ R, Good R s → (k : Int) ≤ R.v) ∧ G0 w wr) (fun i _ => 8 - (intOf i).toNat)
  case atStart => exact ⟨0, by omega, rfl, fun R hR => (good_cand hR).2.2.1, hG0⟩
  case round =>
    obtain ⟨k, hk, rfl, hinv, hG⟩ := hrel
    have HINV := Lib.hid hinv
    have HG := Lib.hid hG
    clear hinv hG hG0
    by_cases hk8 : k < 8
    ·
      by_cases c0 : k = 0
      · have g5 : decide ((5 : Int) < (k : Int)) = false := by simp; omega
        have e2 : ((k : Int) == 2) = false := by simp; omega
        have e6 : ((k : Int) == 6) = false := by simp; omega
        have e7 : ((k : Int) == 7) = false := by simp; omega
        have e0 : ((k : Int) == 0) = true := by simp; omega
        have hat : atR k = 24 := by unfold atR; rw [if_neg (by omega)]
        have hlb : loB (k : Int) = false := by simp only [loB, hiB, e2, e6, e7]; rfl
        have hhb : hiB (k : Int) = false := by simp only [hiB, e2, e6]; rfl
        have C0 := Lib.hid c0
        clear c0
        by_cases hlen : s.size < 24 ∨ 65536 < s.size
        · have HI := Lib.hid (short_inv HINV.out (by rw [hat]; exact hlen))
          by_cases hl1 : s.size < 24
          · have hd : decide ((s.size : Int) < 24) = true := decide_eq_true (by omega)
            go_wp2
            refine ⟨⟨k + 1, by omega, by go_num, HI.out, HG.out⟩, by simp [intOf]; omega⟩
          · have hd : decide ((s.size : Int) < 24) = false := decide_eq_false (by omega)
            have hd2 : decide ((65536 : Int) < (s.size : Int)) = true := decide_eq_true (by omega)
            go_wp2
            refine ⟨⟨k + 1, by omega, by go_num, HI.out, HG.out⟩, by simp [intOf]; omega⟩
        · have hd : decide ((s.size : Int) < 24) = false := decide_eq_false (by omega)
          have hd2 : decide ((65536 : Int) < (s.size : Int)) = false := decide_eq_false (by omega)
          have hA : 24 ≤ s.size := by omega
          obtain ⟨xid, l1, h1⟩ := numR_full (l := s.data.toList) (by rw [Array.length_toList]; show 4 ≤ s.size; omega)
          have H1 := Lib.hid h1
          have hcand : candR s k = ⟨xid, k, 0, 0, s.extract 24 s.size⟩ := by
            unfold candR
            rw [h1, hat, hlb, hhb, if_pos (by have := C0.out; omega)]
            simp only [ifR]
            rfl
          obtain ⟨S1, hS1⟩ : ∃ S1, (if (Rp.mk xid k 0 0 (s.extract 24 s.size)).ok then restS (Rp.mk xid k 0 0 (s.extract 24 s.size)).head (s.extract 24 s.size) else ⟨#[]⟩) = S1 := ⟨_, rfl⟩
          obtain ⟨E1, hE1⟩ : ∃ E1, (if (Rp.mk xid k 0 0 (s.extract 24 s.size)).ok then restC (Rp.mk xid k 0 0 (s.extract 24 s.size)).head (s.extract 24 s.size) else 4) = E1 := ⟨_, rfl⟩
          have HS1 := Lib.hid hS1
          have HE1 := Lib.hid hE1
          have HC := Lib.hid hcand
          have HAT := Lib.hid hat
          clear h1 hcand hS1 hE1 hlb hhb hat
          have hlt := HG.out.lt
          go_wp2_with fail
          have hR0 := RL.new wr s (by omega)
          refine (ruint4_n wr.heap.size s s.data.toList 0 _ hR0 xid l1 0 H1.out).mono ?_
          rintro r w1 ⟨rfl, hR1, hO1⟩
          have n1 : w1.heap.size = wr.heap.size + 1 := by rw [hO1.size]; simp
          have hG1 : G0 w w1 := (HG.out.below ((Below.refl _ _).alloc (Nat.le_refl _) _)).only hlt hO1
          have lq : wr.heap.size < w1.heap.size := by omega
          obtain ⟨⟨pa, f1⟩, f2⟩ := hR1.frees
          have HR1 := Lib.hid hR1
          have HG1 := Lib.hid hG1
          clear hR0 hR1 hG1 hO1
          go_wp2_with fail
          generalize hW2 : ((w1.setCell ⟨wr.heap.size, 1, none⟩ (.int .i64 24)).alloc (.cells #[.int .i64 xid, .int .i64 k, .int .i64 0, .int .i64 0, .string (s.extract 24 s.size)] 51)) = W2
          obtain ⟨hR2, hX2, hG2, n2⟩ := Gs.new (A := 24) (X := ⟨xid, k, 0, 0, s.extract 24 s.size⟩) HG1.out hlt HR1.out hA W2 hW2.symm
          rw [n1] at hX2
          have lx : wr.heap.size + 1 < W2.heap.size := by omega
          clear hW2 f1 f2 HR1 HG1
          have HX7 := Lib.hid hX2
          have HG7 := Lib.hid hG2
          clear hX2 hG2 hR2
          refine (refPutReply_any ⟨xid, k, 0, 0, s.extract 24 s.size⟩ W2 (by rw [ext_size24]; omega) S1 E1 HS1.out HE1.out).mono ?_
          rintro r w8 ⟨rfl, hB8⟩
          have hX8 : RqAt w8 (wr.heap.size + 1) ⟨xid, k, 0, 0, s.extract 24 s.size⟩ := (hB8.block _ (by omega)).trans HX7.out
          have hG8 := HG7.out.below hB8
          have HG8 := Lib.hid hG8
          clear HX7 HG7 hB8
          obtain ⟨d0, d1, d2, d3, d4⟩ := hX8.all
          dsimp only at d0 d1 d2 d3 d4
          obtain ⟨y0, y1, y2, y3, y4⟩ := hG8.a.all
          have k0 := hG8.a.free 0
          have k1 := hG8.a.free 1
          have k2 := hG8.a.free 2
          have k3 := hG8.a.free 3
          have k4 := hG8.a.free 4
          clear hX8 hG8
          have hne : wr.heap.size + 1 ≠ w.heap.size := by omega
          by_cases hg : E1 = 0 ∧ S1 = s
          · have hgood := good_of HS1.out HE1.out hg.1 hg.2
            have HGET := Lib.hid (good_get hgood)
            clear hgood
            obtain ⟨rfl, hg2⟩ := hg
            have hb1 : (S1.toList == s.toList) = true := by rw [hg2]; exact beq_self_eq_true _
            have HG2x := Lib.hid hg2
            clear hg2
            go_wp2
            obtain ⟨q1, q2⟩ := lay5q HG8.out.a ⟨xid, k, 0, 0, s.extract 24 s.size⟩ _ rfl
            refine bodyPost_ret (results_row_tmp rfl _ _ w.heap.size 51 _ (0, 0) _ rfl q1 Try.underlying51 rfl (by kernel_rfl)) rfl ?_
            rw [HGET.out]
            exact ⟨rfl, HG8.out.low.trans (q2.below (Nat.le_refl _))⟩
          · have HI := Lib.hid (next_inv HINV.out (by rw [HC.out]; exact fun h => hg (of_good HS1.out HE1.out h)))
            by_cases hE : E1 = 0
            · subst hE
              have hb1 : (S1.toList == s.toList) = false := by
                cases hq : (S1.toList == s.toList) with
                | false => rfl
                | true => exact absurd ⟨rfl, eq_bytes0 hq⟩ hg
              clear hg
              go_wp2
              refine ⟨⟨k + 1, by omega, by go_num, HI.out, HG8.out⟩, by simp [intOf]; omega⟩
            · have hb0 : (E1 == 0) = false := by simpa using hE
              clear hg
              go_wp2
              refine ⟨⟨k + 1, by omega, by go_num, HI.out, HG8.out⟩, by simp [intOf]; omega⟩
      ·
        by_cases c1 : k = 2
        · have g5 : decide ((5 : Int) < (k : Int)) = false := by simp; omega
          have e2 : ((k : Int) == 2) = true := by simp; omega
          have e6 : ((k : Int) == 6) = false := by simp; omega
          have e7 : ((k : Int) == 7) = false := by simp; omega
          have e0 : ((k : Int) == 0) = false := by simp; omega
          have hat : atR k = 24 := by unfold atR; rw [if_neg (by omega)]
          have hlb : loB (k : Int) = true := by simp only [loB, hiB, e2, e6, e7]; rfl
          have hhb : hiB (k : Int) = true := by simp only [hiB, e2, e6]; rfl
          have C0 := Lib.hid c0
          clear c0
          have C1 := Lib.hid c1
          clear c1
          by_cases hlen : s.size < 24 ∨ 65536 < s.size
          · have HI := Lib.hid (short_inv HINV.out (by rw [hat]; exact hlen))
            by_cases hl1 : s.size < 24
            · have hd : decide ((s.size : Int) < 24) = true := decide_eq_true (by omega)
              go_wp2
              refine ⟨⟨k + 1, by omega, by go_num, HI.out, HG.out⟩, by simp [intOf]; omega⟩
            · have hd : decide ((s.size : Int) < 24) = false := decide_eq_false (by omega)
              have hd2 : decide ((65536 : Int) < (s.size : Int)) = true := decide_eq_true (by omega)
              go_wp2
              refine ⟨⟨k + 1, by omega, by go_num, HI.out, HG.out⟩, by simp [intOf]; omega⟩
          · have hd : decide ((s.size : Int) < 24) = false := decide_eq_false (by omega)
            have hd2 : decide ((65536 : Int) < (s.size : Int)) = false := decide_eq_false (by omega)
            have hA : 24 ≤ s.size := by omega
            obtain ⟨xid, l1, h1⟩ := numR_full (l := s.data.toList) (by rw [Array.length_toList]; show 4 ≤ s.size; omega)
            have H1 := Lib.hid h1
            obtain ⟨A2, ha2⟩ : ∃ A2, numR 4 (s.data.toList.drop 24) 0 = A2 := ⟨_, rfl⟩
            obtain ⟨lo, l2, e2'⟩ := A2
            have H2 := Lib.hid ha2
            obtain ⟨A3, ha3⟩ : ∃ A3, numR 4 l2 e2' = A3 := ⟨_, rfl⟩
            obtain ⟨hi, l3, e3'⟩ := A3
            have H3 := Lib.hid ha3
            have hcand : candR s k = ⟨xid, k, lo, hi, ⟨#[]⟩⟩ := by
              unfold candR
              rw [h1, hat, hlb, hhb, if_neg (by have := C0.out; omega)]
              simp only [ifR, if_true, ha2, ha3]
            obtain ⟨S1, hS1⟩ : ∃ S1, (if (Rp.mk xid k lo hi (⟨#[]⟩)).ok then restS (Rp.mk xid k lo hi (⟨#[]⟩)).head (⟨#[]⟩) else ⟨#[]⟩) = S1 := ⟨_, rfl⟩
            obtain ⟨E1, hE1⟩ : ∃ E1, (if (Rp.mk xid k lo hi (⟨#[]⟩)).ok then restC (Rp.mk xid k lo hi (⟨#[]⟩)).head (⟨#[]⟩) else 4) = E1 := ⟨_, rfl⟩
            have HS1 := Lib.hid hS1
            have HE1 := Lib.hid hE1
            have HC := Lib.hid hcand
            have HAT := Lib.hid hat
            clear h1 hcand hS1 hE1 hlb hhb hat ha2 ha3
            have hlt := HG.out.lt
            go_wp2_with fail
            have hR0 := RL.new wr s (by omega)
            refine (ruint4_n wr.heap.size s s.data.toList 0 _ hR0 xid l1 0 H1.out).mono ?_
            rintro r w1 ⟨rfl, hR1, hO1⟩
            have n1 : w1.heap.size = wr.heap.size + 1 := by rw [hO1.size]; simp
            have hG1 : G0 w w1 := (HG.out.below ((Below.refl _ _).alloc (Nat.le_refl _) _)).only hlt hO1
            have lq : wr.heap.size < w1.heap.size := by omega
            obtain ⟨⟨pa, f1⟩, f2⟩ := hR1.frees
            have HR1 := Lib.hid hR1
            have HG1 := Lib.hid hG1
            clear hR0 hR1 hG1 hO1
            go_wp2_with fail
            generalize hW2 : ((w1.setCell ⟨wr.heap.size, 1, none⟩ (.int .i64 24)).alloc (.cells #[.int .i64 xid, .int .i64 k, .int .i64 0, .int .i64 0, .string ⟨#[]⟩] 51)) = W2
            obtain ⟨hR2, hX2, hG2, n2⟩ := Gs.new (A := 24) (X := ⟨xid, k, 0, 0, ⟨#[]⟩⟩) HG1.out hlt HR1.out hA W2 hW2.symm
            rw [n1] at hX2
            have lx : wr.heap.size + 1 < W2.heap.size := by omega
            clear hW2 f1 f2 HR1 HG1
            have HX2 := Lib.hid hX2
            have HG2 := Lib.hid hG2
            clear hX2 hG2
            refine (ruint4_n wr.heap.size s _ 0 W2 hR2 lo l2 e2' H2.out).mono ?_
            rintro r w3 ⟨rfl, hR3, hO3⟩
            have hX3 : RqAt w3 (wr.heap.size + 1) ⟨xid, k, 0, 0, ⟨#[]⟩⟩ := (hO3.block _ (by omega)).trans HX2.out
            have hG3 := HG2.out.only hlt hO3
            have n3 : w3.heap.size = W2.heap.size := hO3.size
            have f2 := hX3.free 2
            have c2' := hX3.all.2.2.1
            have HX3 := Lib.hid hX3
            have HG3 := Lib.hid hG3
            have HR3 := Lib.hid hR3
            clear hX3 hG3 hR3 hO3 HX2 HG2 hR2
            obtain ⟨d0, d1, d2, d3, d4⟩ := HX3.out.all
            dsimp only at d0 d1 d2 d3 d4 c2'
            go_wp2_with fail
            have hX4 : RqAt (w3.setCell ⟨wr.heap.size + 1, 2, none⟩ (.int .i64 lo)) (wr.heap.size + 1) ⟨xid, k, lo, 0, ⟨#[]⟩⟩ := HX3.out.s 2 _ rfl
            have hG4 : G0 w (w3.setCell ⟨wr.heap.size + 1, 2, none⟩ (.int .i64 lo)) := HG3.out.set (by omega)
            have hR4 : RL (w3.setCell ⟨wr.heap.size + 1, 2, none⟩ (.int .i64 lo)) wr.heap.size s l2 e2' := HR3.out.only (by omega) ((Only.refl _ _).set 2 _)
            have n4 : (w3.setCell ⟨wr.heap.size + 1, 2, none⟩ (.int .i64 lo)).heap.size = w3.heap.size := by simp [World.setCell]
            generalize (w3.setCell ⟨wr.heap.size + 1, 2, none⟩ (.int .i64 lo)) = W4 at *
            clear d0 d1 d2 d3 d4 c2' f2 HX3 HG3 HR3
            have HX4 := Lib.hid hX4
            have HG4 := Lib.hid hG4
            clear hX4 hG4
            refine (ruint4_n wr.heap.size s _ _ W4 hR4 hi l3 e3' H3.out).mono ?_
            rintro r w5 ⟨rfl, hR5, hO5⟩
            have hX5 : RqAt w5 (wr.heap.size + 1) ⟨xid, k, lo, 0, ⟨#[]⟩⟩ := (hO5.block _ (by omega)).trans HX4.out
            have hG5 := HG4.out.only hlt hO5
            have n5 : w5.heap.size = W4.heap.size := hO5.size
            have f3 := hX5.free 3
            have HX5 := Lib.hid hX5
            have HG5 := Lib.hid hG5
            clear hX5 hG5 hR5 hO5 HX4 HG4 hR4
            obtain ⟨d0, d1, d2, d3, d4⟩ := HX5.out.all
            dsimp only at d0 d1 d2 d3 d4
            go_wp2_with fail
            have hX6 : RqAt (w5.setCell ⟨wr.heap.size + 1, 3, none⟩ (.int .i64 hi)) (wr.heap.size + 1) ⟨xid, k, lo, hi, ⟨#[]⟩⟩ := HX5.out.s 3 _ rfl
            have hG6 : G0 w (w5.setCell ⟨wr.heap.size + 1, 3, none⟩ (.int .i64 hi)) := HG5.out.set (by omega)
            have n6 : (w5.setCell ⟨wr.heap.size + 1, 3, none⟩ (.int .i64 hi)).heap.size = w5.heap.size := by simp [World.setCell]
            generalize (w5.setCell ⟨wr.heap.size + 1, 3, none⟩ (.int .i64 hi)) = W6 at *
            clear d0 d1 d2 d3 d4 f3 HX5 HG5
            have HX7 := Lib.hid hX6
            have HG7 := Lib.hid hG6
            clear hX6 hG6
            refine (refPutReply_any ⟨xid, k, lo, hi, ⟨#[]⟩⟩ W6 (by show 0 ≤ _; omega) S1 E1 HS1.out HE1.out).mono ?_
            rintro r w8 ⟨rfl, hB8⟩
            have hX8 : RqAt w8 (wr.heap.size + 1) ⟨xid, k, lo, hi, ⟨#[]⟩⟩ := (hB8.block _ (by omega)).trans HX7.out
            have hG8 := HG7.out.below hB8
            have HG8 := Lib.hid hG8
            clear HX7 HG7 hB8
            obtain ⟨d0, d1, d2, d3, d4⟩ := hX8.all
            dsimp only at d0 d1 d2 d3 d4
            obtain ⟨y0, y1, y2, y3, y4⟩ := hG8.a.all
            have k0 := hG8.a.free 0
            have k1 := hG8.a.free 1
            have k2 := hG8.a.free 2
            have k3 := hG8.a.free 3
            have k4 := hG8.a.free 4
            clear hX8 hG8
            have hne : wr.heap.size + 1 ≠ w.heap.size := by omega
            by_cases hg : E1 = 0 ∧ S1 = s
            · have hgood := good_of HS1.out HE1.out hg.1 hg.2
              have HGET := Lib.hid (good_get hgood)
              clear hgood
              obtain ⟨rfl, hg2⟩ := hg
              have hb1 : (S1.toList == s.toList) = true := by rw [hg2]; exact beq_self_eq_true _
              have HG2x := Lib.hid hg2
              clear hg2
              go_wp2
              obtain ⟨q1, q2⟩ := lay5q HG8.out.a ⟨xid, k, lo, hi, ⟨#[]⟩⟩ _ rfl
              refine bodyPost_ret (results_row_tmp rfl _ _ w.heap.size 51 _ (0, 0) _ rfl q1 Try.underlying51 rfl (by kernel_rfl)) rfl ?_
              rw [HGET.out]
              exact ⟨rfl, HG8.out.low.trans (q2.below (Nat.le_refl _))⟩
            · have HI := Lib.hid (next_inv HINV.out (by rw [HC.out]; exact fun h => hg (of_good HS1.out HE1.out h)))
              by_cases hE : E1 = 0
              · subst hE
                have hb1 : (S1.toList == s.toList) = false := by
                  cases hq : (S1.toList == s.toList) with
                  | false => rfl
                  | true => exact absurd ⟨rfl, eq_bytes0 hq⟩ hg
                clear hg
                go_wp2
                refine ⟨⟨k + 1, by omega, by go_num, HI.out, HG8.out⟩, by simp [intOf]; omega⟩
              · have hb0 : (E1 == 0) = false := by simpa using hE
                clear hg
                go_wp2
                refine ⟨⟨k + 1, by omega, by go_num, HI.out, HG8.out⟩, by simp [intOf]; omega⟩
        ·
          by_cases c2 : k = 6
          · have g5 : decide ((5 : Int) < (k : Int)) = true := by simp; omega
            have e2 : ((k : Int) == 2) = false := by simp; omega
            have e6 : ((k : Int) == 6) = true := by simp; omega
            have e7 : ((k : Int) == 7) = false := by simp; omega
            have e0 : ((k : Int) == 0) = false := by simp; omega
            have hat : atR k = 16 := by unfold atR; rw [if_pos (by omega)]
            have hlb : loB (k : Int) = true := by simp only [loB, hiB, e2, e6, e7]; rfl
            have hhb : hiB (k : Int) = true := by simp only [hiB, e2, e6]; rfl
            have C0 := Lib.hid c0
            clear c0
            have C1 := Lib.hid c1
            clear c1
            have C2 := Lib.hid c2
            clear c2
            by_cases hlen : s.size < 16 ∨ 65536 < s.size
            · have HI := Lib.hid (short_inv HINV.out (by rw [hat]; exact hlen))
              by_cases hl1 : s.size < 16
              · have hd : decide ((s.size : Int) < 16) = true := decide_eq_true (by omega)
                go_wp2
                refine ⟨⟨k + 1, by omega, by go_num, HI.out, HG.out⟩, by simp [intOf]; omega⟩
              · have hd : decide ((s.size : Int) < 16) = false := decide_eq_false (by omega)
                have hd2 : decide ((65536 : Int) < (s.size : Int)) = true := decide_eq_true (by omega)
                go_wp2
                refine ⟨⟨k + 1, by omega, by go_num, HI.out, HG.out⟩, by simp [intOf]; omega⟩
            · have hd : decide ((s.size : Int) < 16) = false := decide_eq_false (by omega)
              have hd2 : decide ((65536 : Int) < (s.size : Int)) = false := decide_eq_false (by omega)
              have hA : 16 ≤ s.size := by omega
              obtain ⟨xid, l1, h1⟩ := numR_full (l := s.data.toList) (by rw [Array.length_toList]; show 4 ≤ s.size; omega)
              have H1 := Lib.hid h1
              obtain ⟨A2, ha2⟩ : ∃ A2, numR 4 (s.data.toList.drop 16) 0 = A2 := ⟨_, rfl⟩
              obtain ⟨lo, l2, e2'⟩ := A2
              have H2 := Lib.hid ha2
              obtain ⟨A3, ha3⟩ : ∃ A3, numR 4 l2 e2' = A3 := ⟨_, rfl⟩
              obtain ⟨hi, l3, e3'⟩ := A3
              have H3 := Lib.hid ha3
              have hcand : candR s k = ⟨xid, k, lo, hi, ⟨#[]⟩⟩ := by
                unfold candR
                rw [h1, hat, hlb, hhb, if_neg (by have := C0.out; omega)]
                simp only [ifR, if_true, ha2, ha3]
              obtain ⟨S1, hS1⟩ : ∃ S1, (if (Rp.mk xid k lo hi (⟨#[]⟩)).ok then restS (Rp.mk xid k lo hi (⟨#[]⟩)).head (⟨#[]⟩) else ⟨#[]⟩) = S1 := ⟨_, rfl⟩
              obtain ⟨E1, hE1⟩ : ∃ E1, (if (Rp.mk xid k lo hi (⟨#[]⟩)).ok then restC (Rp.mk xid k lo hi (⟨#[]⟩)).head (⟨#[]⟩) else 4) = E1 := ⟨_, rfl⟩
              have HS1 := Lib.hid hS1
              have HE1 := Lib.hid hE1
              have HC := Lib.hid hcand
              have HAT := Lib.hid hat
              clear h1 hcand hS1 hE1 hlb hhb hat ha2 ha3
              have hlt := HG.out.lt
              go_wp2_with fail
              have hR0 := RL.new wr s (by omega)
              refine (ruint4_n wr.heap.size s s.data.toList 0 _ hR0 xid l1 0 H1.out).mono ?_
              rintro r w1 ⟨rfl, hR1, hO1⟩
              have n1 : w1.heap.size = wr.heap.size + 1 := by rw [hO1.size]; simp
              have hG1 : G0 w w1 := (HG.out.below ((Below.refl _ _).alloc (Nat.le_refl _) _)).only hlt hO1
              have lq : wr.heap.size < w1.heap.size := by omega
              obtain ⟨⟨pa, f1⟩, f2⟩ := hR1.frees
              have HR1 := Lib.hid hR1
              have HG1 := Lib.hid hG1
              clear hR0 hR1 hG1 hO1
              go_wp2_with fail
              generalize hW2 : ((w1.setCell ⟨wr.heap.size, 1, none⟩ (.int .i64 16)).alloc (.cells #[.int .i64 xid, .int .i64 k, .int .i64 0, .int .i64 0, .string ⟨#[]⟩] 51)) = W2
              obtain ⟨hR2, hX2, hG2, n2⟩ := Gs.new (A := 16) (X := ⟨xid, k, 0, 0, ⟨#[]⟩⟩) HG1.out hlt HR1.out hA W2 hW2.symm
              rw [n1] at hX2
              have lx : wr.heap.size + 1 < W2.heap.size := by omega
              clear hW2 f1 f2 HR1 HG1
              have HX2 := Lib.hid hX2
              have HG2 := Lib.hid hG2
              clear hX2 hG2
              refine (ruint4_n wr.heap.size s _ 0 W2 hR2 lo l2 e2' H2.out).mono ?_
              rintro r w3 ⟨rfl, hR3, hO3⟩
              have hX3 : RqAt w3 (wr.heap.size + 1) ⟨xid, k, 0, 0, ⟨#[]⟩⟩ := (hO3.block _ (by omega)).trans HX2.out
              have hG3 := HG2.out.only hlt hO3
              have n3 : w3.heap.size = W2.heap.size := hO3.size
              have f2 := hX3.free 2
              have c2' := hX3.all.2.2.1
              have HX3 := Lib.hid hX3
              have HG3 := Lib.hid hG3
              have HR3 := Lib.hid hR3
              clear hX3 hG3 hR3 hO3 HX2 HG2 hR2
              obtain ⟨d0, d1, d2, d3, d4⟩ := HX3.out.all
              dsimp only at d0 d1 d2 d3 d4 c2'
              go_wp2_with fail
              have hX4 : RqAt (w3.setCell ⟨wr.heap.size + 1, 2, none⟩ (.int .i64 lo)) (wr.heap.size + 1) ⟨xid, k, lo, 0, ⟨#[]⟩⟩ := HX3.out.s 2 _ rfl
              have hG4 : G0 w (w3.setCell ⟨wr.heap.size + 1, 2, none⟩ (.int .i64 lo)) := HG3.out.set (by omega)
              have hR4 : RL (w3.setCell ⟨wr.heap.size + 1, 2, none⟩ (.int .i64 lo)) wr.heap.size s l2 e2' := HR3.out.only (by omega) ((Only.refl _ _).set 2 _)
              have n4 : (w3.setCell ⟨wr.heap.size + 1, 2, none⟩ (.int .i64 lo)).heap.size = w3.heap.size := by simp [World.setCell]
              generalize (w3.setCell ⟨wr.heap.size + 1, 2, none⟩ (.int .i64 lo)) = W4 at *
              clear d0 d1 d2 d3 d4 c2' f2 HX3 HG3 HR3
              have HX4 := Lib.hid hX4
              have HG4 := Lib.hid hG4
              clear hX4 hG4
              refine (ruint4_n wr.heap.size s _ _ W4 hR4 hi l3 e3' H3.out).mono ?_
              rintro r w5 ⟨rfl, hR5, hO5⟩
              have hX5 : RqAt w5 (wr.heap.size + 1) ⟨xid, k, lo, 0, ⟨#[]⟩⟩ := (hO5.block _ (by omega)).trans HX4.out
              have hG5 := HG4.out.only hlt hO5
              have n5 : w5.heap.size = W4.heap.size := hO5.size
              have f3 := hX5.free 3
              have HX5 := Lib.hid hX5
              have HG5 := Lib.hid hG5
              clear hX5 hG5 hR5 hO5 HX4 HG4 hR4
              obtain ⟨d0, d1, d2, d3, d4⟩ := HX5.out.all
              dsimp only at d0 d1 d2 d3 d4
              go_wp2_with fail
              have hX6 : RqAt (w5.setCell ⟨wr.heap.size + 1, 3, none⟩ (.int .i64 hi)) (wr.heap.size + 1) ⟨xid, k, lo, hi, ⟨#[]⟩⟩ := HX5.out.s 3 _ rfl
              have hG6 : G0 w (w5.setCell ⟨wr.heap.size + 1, 3, none⟩ (.int .i64 hi)) := HG5.out.set (by omega)
              have n6 : (w5.setCell ⟨wr.heap.size + 1, 3, none⟩ (.int .i64 hi)).heap.size = w5.heap.size := by simp [World.setCell]
              generalize (w5.setCell ⟨wr.heap.size + 1, 3, none⟩ (.int .i64 hi)) = W6 at *
              clear d0 d1 d2 d3 d4 f3 HX5 HG5
              have HX7 := Lib.hid hX6
              have HG7 := Lib.hid hG6
              clear hX6 hG6
              refine (refPutReply_any ⟨xid, k, lo, hi, ⟨#[]⟩⟩ W6 (by show 0 ≤ _; omega) S1 E1 HS1.out HE1.out).mono ?_
              rintro r w8 ⟨rfl, hB8⟩
              have hX8 : RqAt w8 (wr.heap.size + 1) ⟨xid, k, lo, hi, ⟨#[]⟩⟩ := (hB8.block _ (by omega)).trans HX7.out
              have hG8 := HG7.out.below hB8
              have HG8 := Lib.hid hG8
              clear HX7 HG7 hB8
              obtain ⟨d0, d1, d2, d3, d4⟩ := hX8.all
              dsimp only at d0 d1 d2 d3 d4
              obtain ⟨y0, y1, y2, y3, y4⟩ := hG8.a.all
              have k0 := hG8.a.free 0
              have k1 := hG8.a.free 1
              have k2 := hG8.a.free 2
              have k3 := hG8.a.free 3
              have k4 := hG8.a.free 4
              clear hX8 hG8
              have hne : wr.heap.size + 1 ≠ w.heap.size := by omega
              by_cases hg : E1 = 0 ∧ S1 = s
              · have hgood := good_of HS1.out HE1.out hg.1 hg.2
                have HGET := Lib.hid (good_get hgood)
                clear hgood
                obtain ⟨rfl, hg2⟩ := hg
                have hb1 : (S1.toList == s.toList) = true := by rw [hg2]; exact beq_self_eq_true _
                have HG2x := Lib.hid hg2
                clear hg2
                go_wp2
                obtain ⟨q1, q2⟩ := lay5q HG8.out.a ⟨xid, k, lo, hi, ⟨#[]⟩⟩ _ rfl
                refine bodyPost_ret (results_row_tmp rfl _ _ w.heap.size 51 _ (0, 0) _ rfl q1 Try.underlying51 rfl (by kernel_rfl)) rfl ?_
                rw [HGET.out]
                exact ⟨rfl, HG8.out.low.trans (q2.below (Nat.le_refl _))⟩
              · have HI := Lib.hid (next_inv HINV.out (by rw [HC.out]; exact fun h => hg (of_good HS1.out HE1.out h)))
                by_cases hE : E1 = 0
                · subst hE
                  have hb1 : (S1.toList == s.toList) = false := by
                    cases hq : (S1.toList == s.toList) with
                    | false => rfl
                    | true => exact absurd ⟨rfl, eq_bytes0 hq⟩ hg
                  clear hg
                  go_wp2
                  refine ⟨⟨k + 1, by omega, by go_num, HI.out, HG8.out⟩, by simp [intOf]; omega⟩
                · have hb0 : (E1 == 0) = false := by simpa using hE
                  clear hg
                  go_wp2
                  refine ⟨⟨k + 1, by omega, by go_num, HI.out, HG8.out⟩, by simp [intOf]; omega⟩
          ·
            by_cases c3 : k = 7
            · have g5 : decide ((5 : Int) < (k : Int)) = true := by simp; omega
              have e2 : ((k : Int) == 2) = false := by simp; omega
              have e6 : ((k : Int) == 6) = false := by simp; omega
              have e7 : ((k : Int) == 7) = true := by simp; omega
              have e0 : ((k : Int) == 0) = false := by simp; omega
              have hat : atR k = 16 := by unfold atR; rw [if_pos (by omega)]
              have hlb : loB (k : Int) = true := by simp only [loB, hiB, e2, e6, e7]; rfl
              have hhb : hiB (k : Int) = false := by simp only [hiB, e2, e6]; rfl
              have C0 := Lib.hid c0
              clear c0
              have C1 := Lib.hid c1
              clear c1
              have C2 := Lib.hid c2
              clear c2
              have C3 := Lib.hid c3
              clear c3
              by_cases hlen : s.size < 16 ∨ 65536 < s.size
              · have HI := Lib.hid (short_inv HINV.out (by rw [hat]; exact hlen))
                by_cases hl1 : s.size < 16
                · have hd : decide ((s.size : Int) < 16) = true := decide_eq_true (by omega)
                  go_wp2
                  refine ⟨⟨k + 1, by omega, by go_num, HI.out, HG.out⟩, by simp [intOf]; omega⟩
                · have hd : decide ((s.size : Int) < 16) = false := decide_eq_false (by omega)
                  have hd2 : decide ((65536 : Int) < (s.size : Int)) = true := decide_eq_true (by omega)
                  go_wp2
                  refine ⟨⟨k + 1, by omega, by go_num, HI.out, HG.out⟩, by simp [intOf]; omega⟩
              · have hd : decide ((s.size : Int) < 16) = false := decide_eq_false (by omega)
                have hd2 : decide ((65536 : Int) < (s.size : Int)) = false := decide_eq_false (by omega)
                have hA : 16 ≤ s.size := by omega
                obtain ⟨xid, l1, h1⟩ := numR_full (l := s.data.toList) (by rw [Array.length_toList]; show 4 ≤ s.size; omega)
                have H1 := Lib.hid h1
                obtain ⟨A2, ha2⟩ : ∃ A2, numR 4 (s.data.toList.drop 16) 0 = A2 := ⟨_, rfl⟩
                obtain ⟨lo, l2, e2'⟩ := A2
                have H2 := Lib.hid ha2
                have hcand : candR s k = ⟨xid, k, lo, 0, ⟨#[]⟩⟩ := by
                  unfold candR
                  rw [h1, hat, hlb, hhb, if_neg (by have := C0.out; omega)]
                  simp only [ifR, if_true, ha2]
                  rfl
                obtain ⟨S1, hS1⟩ : ∃ S1, (if (Rp.mk xid k lo 0 (⟨#[]⟩)).ok then restS (Rp.mk xid k lo 0 (⟨#[]⟩)).head (⟨#[]⟩) else ⟨#[]⟩) = S1 := ⟨_, rfl⟩
                obtain ⟨E1, hE1⟩ : ∃ E1, (if (Rp.mk xid k lo 0 (⟨#[]⟩)).ok then restC (Rp.mk xid k lo 0 (⟨#[]⟩)).head (⟨#[]⟩) else 4) = E1 := ⟨_, rfl⟩
                have HS1 := Lib.hid hS1
                have HE1 := Lib.hid hE1
                have HC := Lib.hid hcand
                have HAT := Lib.hid hat
                clear h1 hcand hS1 hE1 hlb hhb hat ha2
                have hlt := HG.out.lt
                go_wp2_with fail
                have hR0 := RL.new wr s (by omega)
                refine (ruint4_n wr.heap.size s s.data.toList 0 _ hR0 xid l1 0 H1.out).mono ?_
                rintro r w1 ⟨rfl, hR1, hO1⟩
                have n1 : w1.heap.size = wr.heap.size + 1 := by rw [hO1.size]; simp
                have hG1 : G0 w w1 := (HG.out.below ((Below.refl _ _).alloc (Nat.le_refl _) _)).only hlt hO1
                have lq : wr.heap.size < w1.heap.size := by omega
                obtain ⟨⟨pa, f1⟩, f2⟩ := hR1.frees
                have HR1 := Lib.hid hR1
                have HG1 := Lib.hid hG1
                clear hR0 hR1 hG1 hO1
                go_wp2_with fail
                generalize hW2 : ((w1.setCell ⟨wr.heap.size, 1, none⟩ (.int .i64 16)).alloc (.cells #[.int .i64 xid, .int .i64 k, .int .i64 0, .int .i64 0, .string ⟨#[]⟩] 51)) = W2
                obtain ⟨hR2, hX2, hG2, n2⟩ := Gs.new (A := 16) (X := ⟨xid, k, 0, 0, ⟨#[]⟩⟩) HG1.out hlt HR1.out hA W2 hW2.symm
                rw [n1] at hX2
                have lx : wr.heap.size + 1 < W2.heap.size := by omega
                clear hW2 f1 f2 HR1 HG1
                have HX2 := Lib.hid hX2
                have HG2 := Lib.hid hG2
                clear hX2 hG2
                refine (ruint4_n wr.heap.size s _ 0 W2 hR2 lo l2 e2' H2.out).mono ?_
                rintro r w3 ⟨rfl, hR3, hO3⟩
                have hX3 : RqAt w3 (wr.heap.size + 1) ⟨xid, k, 0, 0, ⟨#[]⟩⟩ := (hO3.block _ (by omega)).trans HX2.out
                have hG3 := HG2.out.only hlt hO3
                have n3 : w3.heap.size = W2.heap.size := hO3.size
                have f2 := hX3.free 2
                have c2' := hX3.all.2.2.1
                have HX3 := Lib.hid hX3
                have HG3 := Lib.hid hG3
                have HR3 := Lib.hid hR3
                clear hX3 hG3 hR3 hO3 HX2 HG2 hR2
                obtain ⟨d0, d1, d2, d3, d4⟩ := HX3.out.all
                dsimp only at d0 d1 d2 d3 d4 c2'
                go_wp2_with fail
                have hX4 : RqAt (w3.setCell ⟨wr.heap.size + 1, 2, none⟩ (.int .i64 lo)) (wr.heap.size + 1) ⟨xid, k, lo, 0, ⟨#[]⟩⟩ := HX3.out.s 2 _ rfl
                have hG4 : G0 w (w3.setCell ⟨wr.heap.size + 1, 2, none⟩ (.int .i64 lo)) := HG3.out.set (by omega)
                have hR4 : RL (w3.setCell ⟨wr.heap.size + 1, 2, none⟩ (.int .i64 lo)) wr.heap.size s l2 e2' := HR3.out.only (by omega) ((Only.refl _ _).set 2 _)
                have n4 : (w3.setCell ⟨wr.heap.size + 1, 2, none⟩ (.int .i64 lo)).heap.size = w3.heap.size := by simp [World.setCell]
                generalize (w3.setCell ⟨wr.heap.size + 1, 2, none⟩ (.int .i64 lo)) = W4 at *
                clear d0 d1 d2 d3 d4 c2' f2 HX3 HG3 HR3
                have HX7 := Lib.hid hX4
                have HG7 := Lib.hid hG4
                clear hX4 hG4 hR4
                refine (refPutReply_any ⟨xid, k, lo, 0, ⟨#[]⟩⟩ W4 (by show 0 ≤ _; omega) S1 E1 HS1.out HE1.out).mono ?_
                rintro r w8 ⟨rfl, hB8⟩
                have hX8 : RqAt w8 (wr.heap.size + 1) ⟨xid, k, lo, 0, ⟨#[]⟩⟩ := (hB8.block _ (by omega)).trans HX7.out
                have hG8 := HG7.out.below hB8
                have HG8 := Lib.hid hG8
                clear HX7 HG7 hB8
                obtain ⟨d0, d1, d2, d3, d4⟩ := hX8.all
                dsimp only at d0 d1 d2 d3 d4
                obtain ⟨y0, y1, y2, y3, y4⟩ := hG8.a.all
                have k0 := hG8.a.free 0
                have k1 := hG8.a.free 1
                have k2 := hG8.a.free 2
                have k3 := hG8.a.free 3
                have k4 := hG8.a.free 4
                clear hX8 hG8
                have hne : wr.heap.size + 1 ≠ w.heap.size := by omega
                by_cases hg : E1 = 0 ∧ S1 = s
                · have hgood := good_of HS1.out HE1.out hg.1 hg.2
                  have HGET := Lib.hid (good_get hgood)
                  clear hgood
                  obtain ⟨rfl, hg2⟩ := hg
                  have hb1 : (S1.toList == s.toList) = true := by rw [hg2]; exact beq_self_eq_true _
                  have HG2x := Lib.hid hg2
                  clear hg2
                  go_wp2
                  obtain ⟨q1, q2⟩ := lay5q HG8.out.a ⟨xid, k, lo, 0, ⟨#[]⟩⟩ _ rfl
                  refine bodyPost_ret (results_row_tmp rfl _ _ w.heap.size 51 _ (0, 0) _ rfl q1 Try.underlying51 rfl (by kernel_rfl)) rfl ?_
                  rw [HGET.out]
                  exact ⟨rfl, HG8.out.low.trans (q2.below (Nat.le_refl _))⟩
                · have HI := Lib.hid (next_inv HINV.out (by rw [HC.out]; exact fun h => hg (of_good HS1.out HE1.out h)))
                  by_cases hE : E1 = 0
                  · subst hE
                    have hb1 : (S1.toList == s.toList) = false := by
                      cases hq : (S1.toList == s.toList) with
                      | false => rfl
                      | true => exact absurd ⟨rfl, eq_bytes0 hq⟩ hg
                    clear hg
                    go_wp2
                    refine ⟨⟨k + 1, by omega, by go_num, HI.out, HG8.out⟩, by simp [intOf]; omega⟩
                  · have hb0 : (E1 == 0) = false := by simpa using hE
                    clear hg
                    go_wp2
                    refine ⟨⟨k + 1, by omega, by go_num, HI.out, HG8.out⟩, by simp [intOf]; omega⟩
            ·
              have g5 : decide ((5 : Int) < (k : Int)) = false := by simp; omega
              have e2 : ((k : Int) == 2) = false := by simp; omega
              have e6 : ((k : Int) == 6) = false := by simp; omega
              have e7 : ((k : Int) == 7) = false := by simp; omega
              have e0 : ((k : Int) == 0) = false := by simp; omega
              have hat : atR k = 24 := by unfold atR; rw [if_neg (by omega)]
              have hlb : loB (k : Int) = false := by simp only [loB, hiB, e2, e6, e7]; rfl
              have hhb : hiB (k : Int) = false := by simp only [hiB, e2, e6]; rfl
              have C0 := Lib.hid c0
              clear c0
              have C1 := Lib.hid c1
              clear c1
              have C2 := Lib.hid c2
              clear c2
              have C3 := Lib.hid c3
              clear c3
              by_cases hlen : s.size < 24 ∨ 65536 < s.size
              · have HI := Lib.hid (short_inv HINV.out (by rw [hat]; exact hlen))
                by_cases hl1 : s.size < 24
                · have hd : decide ((s.size : Int) < 24) = true := decide_eq_true (by omega)
                  go_wp2
                  refine ⟨⟨k + 1, by omega, by go_num, HI.out, HG.out⟩, by simp [intOf]; omega⟩
                · have hd : decide ((s.size : Int) < 24) = false := decide_eq_false (by omega)
                  have hd2 : decide ((65536 : Int) < (s.size : Int)) = true := decide_eq_true (by omega)
                  go_wp2
                  refine ⟨⟨k + 1, by omega, by go_num, HI.out, HG.out⟩, by simp [intOf]; omega⟩
              · have hd : decide ((s.size : Int) < 24) = false := decide_eq_false (by omega)
                have hd2 : decide ((65536 : Int) < (s.size : Int)) = false := decide_eq_false (by omega)
                have hA : 24 ≤ s.size := by omega
                obtain ⟨xid, l1, h1⟩ := numR_full (l := s.data.toList) (by rw [Array.length_toList]; show 4 ≤ s.size; omega)
                have H1 := Lib.hid h1
                have hcand : candR s k = ⟨xid, k, 0, 0, ⟨#[]⟩⟩ := by
                  unfold candR
                  rw [h1, hat, hlb, hhb, if_neg (by have := C0.out; omega)]
                  simp only [ifR]
                  rfl
                obtain ⟨S1, hS1⟩ : ∃ S1, (if (Rp.mk xid k 0 0 (⟨#[]⟩)).ok then restS (Rp.mk xid k 0 0 (⟨#[]⟩)).head (⟨#[]⟩) else ⟨#[]⟩) = S1 := ⟨_, rfl⟩
                obtain ⟨E1, hE1⟩ : ∃ E1, (if (Rp.mk xid k 0 0 (⟨#[]⟩)).ok then restC (Rp.mk xid k 0 0 (⟨#[]⟩)).head (⟨#[]⟩) else 4) = E1 := ⟨_, rfl⟩
                have HS1 := Lib.hid hS1
                have HE1 := Lib.hid hE1
                have HC := Lib.hid hcand
                have HAT := Lib.hid hat
                clear h1 hcand hS1 hE1 hlb hhb hat
                have hlt := HG.out.lt
                go_wp2_with fail
                have hR0 := RL.new wr s (by omega)
                refine (ruint4_n wr.heap.size s s.data.toList 0 _ hR0 xid l1 0 H1.out).mono ?_
                rintro r w1 ⟨rfl, hR1, hO1⟩
                have n1 : w1.heap.size = wr.heap.size + 1 := by rw [hO1.size]; simp
                have hG1 : G0 w w1 := (HG.out.below ((Below.refl _ _).alloc (Nat.le_refl _) _)).only hlt hO1
                have lq : wr.heap.size < w1.heap.size := by omega
                obtain ⟨⟨pa, f1⟩, f2⟩ := hR1.frees
                have HR1 := Lib.hid hR1
                have HG1 := Lib.hid hG1
                clear hR0 hR1 hG1 hO1
                go_wp2_with fail
                generalize hW2 : ((w1.setCell ⟨wr.heap.size, 1, none⟩ (.int .i64 24)).alloc (.cells #[.int .i64 xid, .int .i64 k, .int .i64 0, .int .i64 0, .string ⟨#[]⟩] 51)) = W2
                obtain ⟨hR2, hX2, hG2, n2⟩ := Gs.new (A := 24) (X := ⟨xid, k, 0, 0, ⟨#[]⟩⟩) HG1.out hlt HR1.out hA W2 hW2.symm
                rw [n1] at hX2
                have lx : wr.heap.size + 1 < W2.heap.size := by omega
                clear hW2 f1 f2 HR1 HG1
                have HX7 := Lib.hid hX2
                have HG7 := Lib.hid hG2
                clear hX2 hG2 hR2
                refine (refPutReply_any ⟨xid, k, 0, 0, ⟨#[]⟩⟩ W2 (by show 0 ≤ _; omega) S1 E1 HS1.out HE1.out).mono ?_
                rintro r w8 ⟨rfl, hB8⟩
                have hX8 : RqAt w8 (wr.heap.size + 1) ⟨xid, k, 0, 0, ⟨#[]⟩⟩ := (hB8.block _ (by omega)).trans HX7.out
                have hG8 := HG7.out.below hB8
                have HG8 := Lib.hid hG8
                clear HX7 HG7 hB8
                obtain ⟨d0, d1, d2, d3, d4⟩ := hX8.all
                dsimp only at d0 d1 d2 d3 d4
                obtain ⟨y0, y1, y2, y3, y4⟩ := hG8.a.all
                have k0 := hG8.a.free 0
                have k1 := hG8.a.free 1
                have k2 := hG8.a.free 2
                have k3 := hG8.a.free 3
                have k4 := hG8.a.free 4
                clear hX8 hG8
                have hne : wr.heap.size + 1 ≠ w.heap.size := by omega
                by_cases hg : E1 = 0 ∧ S1 = s
                · have hgood := good_of HS1.out HE1.out hg.1 hg.2
                  have HGET := Lib.hid (good_get hgood)
                  clear hgood
                  obtain ⟨rfl, hg2⟩ := hg
                  have hb1 : (S1.toList == s.toList) = true := by rw [hg2]; exact beq_self_eq_true _
                  have HG2x := Lib.hid hg2
                  clear hg2
                  go_wp2
                  obtain ⟨q1, q2⟩ := lay5q HG8.out.a ⟨xid, k, 0, 0, ⟨#[]⟩⟩ _ rfl
                  refine bodyPost_ret (results_row_tmp rfl _ _ w.heap.size 51 _ (0, 0) _ rfl q1 Try.underlying51 rfl (by kernel_rfl)) rfl ?_
                  rw [HGET.out]
                  exact ⟨rfl, HG8.out.low.trans (q2.below (Nat.le_refl _))⟩
                · have HI := Lib.hid (next_inv HINV.out (by rw [HC.out]; exact fun h => hg (of_good HS1.out HE1.out h)))
                  by_cases hE : E1 = 0
                  · subst hE
                    have hb1 : (S1.toList == s.toList) = false := by
                      cases hq : (S1.toList == s.toList) with
                      | false => rfl
                      | true => exact absurd ⟨rfl, eq_bytes0 hq⟩ hg
                    clear hg
                    go_wp2
                    refine ⟨⟨k + 1, by omega, by go_num, HI.out, HG8.out⟩, by simp [intOf]; omega⟩
                  · have hb0 : (E1 == 0) = false := by simpa using hE
                    clear hg
                    go_wp2
                    refine ⟨⟨k + 1, by omega, by go_num, HI.out, HG8.out⟩, by simp [intOf]; omega⟩
    · have hn : getR s = (zeroR, if 65536 < s.size then 2 else 4) := none_get (fun R hR => by have h1 := HINV.out R hR; have h2 := (good_cand hR).2.2.2; omega)
      have hA := HG.out.a
      obtain ⟨y0, y1, y2, y3, y4⟩ := hA.all
      have k0 := hA.free 0
      have k1 := hA.free 1
      have k2 := hA.free 2
      have k3 := hA.free 3
      have k4 := hA.free 4
      have HA := Lib.hid hA
      clear hA
      have HN := Lib.hid hn
      clear hn
      go_wp2
      obtain ⟨q1, q2⟩ := lay5q HA.out zeroR _ rfl
      refine bodyPost_ret (results_row_tmp rfl _ _ w.heap.size 51 _ (0, 0) _ rfl q1 Try.underlying51 rfl (by kernel_rfl)) rfl ?_
      rw [HN.out]
      refine ⟨?_, HG.out.low.trans (q2.below (Nat.le_refl _))⟩
      by_cases c : 65536 < s.size
      · simp only [if_pos c]; rfl
      · simp only [if_neg c]; rfl
end Go.Proofs.Ytkbjimbnbocfpaa
