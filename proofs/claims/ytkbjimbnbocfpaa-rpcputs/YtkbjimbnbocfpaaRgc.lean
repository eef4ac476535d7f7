/-
  The document's GetCall answers as the program's does. No condition.
-/
import Derived.Test.YtkbjimbnbocfpaaGm
import Derived.Test.YtkbjimbnbocfpaaRgr
import Derived.Test.YtkbjimbnbocfpaaRsText
namespace Go.Proofs.Ytkbjimbnbocfpaa
open Go.RowKit
abbrev zeroA : Array Value := #[.int .i64 0, .int .i64 0, .int .i64 0, .int .i64 0, .bool false, .int .i64 0, .string ⟨#[]⟩, .int .i64 0, .int .i64 0, .slice none 0 0, .string ⟨#[]⟩]
def CB (w : World) (q : Nat) (cs : Array Value) : Prop := w.heap[q]? = some (.cells cs 32 (0, 0))
theorem CB.free {w : World} {q : Nat} {cs : Array Value} (h : CB w q cs) (o : Nat) : w.frozen? ⟨q, o, none⟩ = false := Lib.frozen_of_heap h _
theorem CB.at {w : World} {q : Nat} {cs : Array Value} (h : CB w q cs) (o : Nat) : w.cell? ⟨q, o, none⟩ = cs[o]? := by
  have hh : w.heap[q]? = _ := h
  rw [cell_of_row w q _ _ _ _ hh]
theorem CB.s {w : World} {q : Nat} {cs cs' : Array Value} (h : CB w q cs) (o : Nat) (u : Value) (hc : cs.setIfInBounds o u = cs') : CB (w.setCell ⟨q, o, none⟩ u) q cs' := by
  have hh := heap_set (o := o) u h
  rw [hc] at hh
  exact hh
theorem lay11z {w : World} {q : Nat} {cs : Array Value} (h : CB w q cs) (hs : cs.size = 11) (a b c d : Int) (u : Bool) (st : Int) (m : ByteArray) (uid gid : Int) (vg : Value) (args : ByteArray) (W : World)
    (hW : W = (((((((((((w.setCell ⟨q, 0, none⟩ (.int .i64 a)).setCell ⟨q, 1, none⟩ (.int .i64 b)).setCell ⟨q, 2, none⟩ (.int .i64 c)).setCell ⟨q, 3, none⟩ (.int .i64 d)).setCell ⟨q, 4, none⟩ (.bool u)).setCell ⟨q, 5, none⟩ (.int .i64 st)).setCell ⟨q, 6, none⟩ (.string m)).setCell ⟨q, 7, none⟩ (.int .i64 uid)).setCell ⟨q, 8, none⟩ (.int .i64 gid)).setCell ⟨q, 9, none⟩ vg).setCell ⟨q, 10, none⟩ (.string args))) :
    CB W q #[.int .i64 a, .int .i64 b, .int .i64 c, .int .i64 d, .bool u, .int .i64 st, .string m, .int .i64 uid, .int .i64 gid, vg, .string args] ∧ Only q w W := by
  subst hW
  refine ⟨?_, (((((((((((Only.refl q w).set 0 _).set 1 _).set 2 _).set 3 _).set 4 _).set 5 _).set 6 _).set 7 _).set 8 _).set 9 _).set 10 _⟩
  match cs, hs with
  | ⟨[c0, c1, c2, c3, c4, c5, c6, c7, c8, c9, c10]⟩, _ =>
    exact (((((((((((h.s (cs' := #[.int .i64 a, c1, c2, c3, c4, c5, c6, c7, c8, c9, c10]) 0 _ rfl).s (cs' := #[.int .i64 a, .int .i64 b, c2, c3, c4, c5, c6, c7, c8, c9, c10]) 1 _ rfl).s (cs' := #[.int .i64 a, .int .i64 b, .int .i64 c, c3, c4, c5, c6, c7, c8, c9, c10]) 2 _ rfl).s (cs' := #[.int .i64 a, .int .i64 b, .int .i64 c, .int .i64 d, c4, c5, c6, c7, c8, c9, c10]) 3 _ rfl).s (cs' := #[.int .i64 a, .int .i64 b, .int .i64 c, .int .i64 d, .bool u, c5, c6, c7, c8, c9, c10]) 4 _ rfl).s (cs' := #[.int .i64 a, .int .i64 b, .int .i64 c, .int .i64 d, .bool u, .int .i64 st, c6, c7, c8, c9, c10]) 5 _ rfl).s (cs' := #[.int .i64 a, .int .i64 b, .int .i64 c, .int .i64 d, .bool u, .int .i64 st, .string m, c7, c8, c9, c10]) 6 _ rfl).s (cs' := #[.int .i64 a, .int .i64 b, .int .i64 c, .int .i64 d, .bool u, .int .i64 st, .string m, .int .i64 uid, c8, c9, c10]) 7 _ rfl).s (cs' := #[.int .i64 a, .int .i64 b, .int .i64 c, .int .i64 d, .bool u, .int .i64 st, .string m, .int .i64 uid, .int .i64 gid, c9, c10]) 8 _ rfl).s (cs' := #[.int .i64 a, .int .i64 b, .int .i64 c, .int .i64 d, .bool u, .int .i64 st, .string m, .int .i64 uid, .int .i64 gid, vg, c10]) 9 _ rfl).s (cs' := #[.int .i64 a, .int .i64 b, .int .i64 c, .int .i64 d, .bool u, .int .i64 st, .string m, .int .i64 uid, .int .i64 gid, vg, .string args]) 10 _ rfl)
theorem results_row_tmp2 {P : Program} {fn : Func} {p q r : Tmp} {ty : TypeId} (h : fn.results = #[.cell p ty, .tmp q, .tmp r]) (tmps : Array Value) (w : World) (g : Nat) (t : TypeId) (cs : Array Value) (fr : Nat × Nat) (d : TypeDesc)
    (hp : tmps.getD p undef = .pointer (some ⟨g, 0, none⟩)) (hg : w.heap[g]? = some (.cells cs t fr))
    (hu : P.underlying ty = some d) (hd : (match d with | .struct _ | .array _ _ => true | _ => false) = true) (hi : (P.info? ty).map (·.size) = some cs.size) :
    (results fn tmps).run P w = .ok (.tuple #[.agg cs, tmps.getD q undef, tmps.getD r undef]) w := by
  have hp' : tmps[p]?.getD undef = .pointer (some ⟨g, 0, none⟩) := by simpa using hp
  simp [results, h, hp', asAddr, run_loadVar_row w g t ty cs fr d hg hu hd hi]
set_option maxRecDepth 100000 in
set_option maxHeartbeats 2000000 in
theorem refuse37 (xid v lo hi : Int) (w : World) : Calls Try.prog 37 #[.int .i64 xid, .int .i64 v, .int .i64 lo, .int .i64 hi] w
    fun r w' => r = .returned (.tuple #[zeroC, .string (Rp.mk xid v lo hi ⟨#[]⟩).bytes, .int .i64 62]) ∧ Below w.heap.size w w' := by
  obtain ⟨S, hS⟩ : ∃ S, (Rp.mk xid v lo hi ⟨#[]⟩).bytes = S := ⟨_, rfl⟩
  obtain ⟨E, hE⟩ : ∃ E, (if (Rp.mk xid v lo hi ⟨#[]⟩).ok then restC (Rp.mk xid v lo hi ⟨#[]⟩).head ⟨#[]⟩ else 4) = E := ⟨_, rfl⟩
  have HS := Lib.hid hS
  have HE := Lib.hid hE
  rw [hS]
  clear hS hE
  go_enter Try.func37, Try.ntmps37
  go_wp2_with fail
  refine (refPutReply_any ⟨xid, v, lo, hi, ⟨#[]⟩⟩ _ (by show 0 ≤ _; omega) S E HS.out HE.out).mono ?_
  rintro e w1 ⟨rfl, hB1⟩
  have hA : CB w1 w.heap.size zeroA := (hB1.block _ (by simp)).trans (heap_alloc_new w _)
  have HB1 := Lib.hid (((Below.refl _ w).alloc (Nat.le_refl _) (.cells zeroA 32)).trans (hB1.mono (by simp)))
  have HA := Lib.hid hA
  have y0 := hA.at 0
  have k0 := hA.free 0
  have y1 := hA.at 1
  have k1 := hA.free 1
  have y2 := hA.at 2
  have k2 := hA.free 2
  have y3 := hA.at 3
  have k3 := hA.free 3
  have y4 := hA.at 4
  have k4 := hA.free 4
  have y5 := hA.at 5
  have k5 := hA.free 5
  have y6 := hA.at 6
  have k6 := hA.free 6
  have y7 := hA.at 7
  have k7 := hA.free 7
  have y8 := hA.at 8
  have k8 := hA.free 8
  have y9 := hA.at 9
  have k9 := hA.free 9
  have y10 := hA.at 10
  have k10 := hA.free 10
  simp only [List.getElem?_toArray, List.getElem?_cons_zero, List.getElem?_cons_succ] at y0 y1 y2 y3 y4 y5 y6 y7 y8 y9 y10
  clear hB1 hA
  go_wp2
  obtain ⟨q1, q2⟩ := lay11z HA.out rfl 0 0 0 0 false 0 ⟨#[]⟩ 0 0 (.slice none 0 0) ⟨#[]⟩ _ rfl
  refine bodyPost_ret (results_row_tmp2 rfl _ _ w.heap.size 32 _ (0, 0) _ rfl q1 Try.underlying32 rfl (by kernel_rfl)) rfl ?_
  exact ⟨rfl, HB1.out.trans (q2.below (Nat.le_refl _))⟩
/-- In the middle of the document's GetCall. -/
structure Gq (w : World) (s : ByteArray) (l : List UInt8) (e : Int) (cs : Array Value) (wc : World) : Prop where
  rd : RL wc (w.heap.size + 1) s l e
  a : CB wc w.heap.size zeroA
  x : CB wc (w.heap.size + 2) cs
  low : Below w.heap.size w wc
theorem Gq.only {w wc w' : World} {s : ByteArray} {l l' : List UInt8} {e e' : Int} {cs : Array Value} (h : Gq w s l e cs wc) (ho : Only (w.heap.size + 1) wc w') (hR : RL w' (w.heap.size + 1) s l' e') : Gq w s l' e' cs w' :=
  ⟨hR, (ho.block _ (by omega)).trans h.a, (ho.block _ (by omega)).trans h.x, h.low.trans (ho.below (by omega))⟩
theorem Gq.set {w wc : World} {s : ByteArray} {l : List UInt8} {e : Int} {cs cs' : Array Value} (h : Gq w s l e cs wc) (o : Nat) (u : Value) (hc : cs.setIfInBounds o u = cs') : Gq w s l e cs' (wc.setCell ⟨w.heap.size + 2, o, none⟩ u) :=
  have ho : Only (w.heap.size + 2) wc (wc.setCell ⟨w.heap.size + 2, o, none⟩ u) := (Only.refl _ wc).set o u
  ⟨h.rd.only (by omega) ho, (ho.block _ (by omega)).trans h.a, h.x.s o u hc, h.low.trans (ho.below (by omega))⟩
theorem Gq.below {w wc w' : World} {s : ByteArray} {l : List UInt8} {e : Int} {cs : Array Value} (h : Gq w s l e cs wc) (hb : Below wc.heap.size wc w') : Gq w s l e cs w' :=
  ⟨h.rd.below hb, (hb.block _ (Array.getElem?_eq_some_iff.1 h.a).1).trans h.a, (hb.block _ (Array.getElem?_eq_some_iff.1 h.x).1).trans h.x, h.low.trans (hb.mono h.low.size)⟩
theorem RL.err {w : World} {q : Nat} {s : ByteArray} {l : List UInt8} {e : Int} (h : RL w q s l e) : w.cell? ⟨q, 2, none⟩ = some (.int .i64 e) := by
  obtain ⟨a, h, _⟩ := h
  exact h.cells.2.2.1
theorem refMost_n (p : Nat) (s : ByteArray) (l : List UInt8) (e : Int) (most : Int) (w : World) (h : RL w p s l e) (b : ByteArray) (l' : List UInt8) (e' : Int) (hn : opqR most l e = (b, l', e')) :
    Calls Try.prog 38 #[.pointer (some ⟨p, 0, none⟩), .int .i64 most] w fun r w' => r = .returned (.string b) ∧ RL w' p s l' e' ∧ Only p w w' := by
  have := refMost_any p s l e most w h
  rw [hn] at this
  exact this
theorem RL.kept {w w' : World} {q : Nat} {s : ByteArray} {l : List UInt8} {e : Int} (h : RL w q s l e) (hb : w'.heap[q]? = w.heap[q]?) : RL w' q s l e := by
  obtain ⟨a, h, hl⟩ := h
  exact ⟨a, ⟨hb.trans h.blk, h.le, h.big, h.bad⟩, hl⟩
theorem RL.drew {w : World} {q : Nat} {s : ByteArray} {l : List UInt8} {e : Int} (h : RL w q s l e) : RL w.drew q s l e := by
  obtain ⟨a, h, hl⟩ := h
  exact ⟨a, ⟨h.blk, h.le, h.big, h.bad⟩, hl⟩
theorem Gq.far {w wc w' : World} {s : ByteArray} {l : List UInt8} {e : Int} {cs : Array Value} {q : Nat} (h : Gq w s l e cs wc) (hq : w.heap.size + 3 ≤ q) (ho : Only q wc w') : Gq w s l e cs w' :=
  ⟨h.rd.only (by omega) ho, (ho.block _ (by omega)).trans h.a, (ho.block _ (by omega)).trans h.x, h.low.trans (ho.below (by omega))⟩
theorem Gq.drewN {w wc : World} {s : ByteArray} {l : List UInt8} {e : Int} {cs : Array Value} (h : Gq w s l e cs wc) (n : Nat) : Gq w s l e cs (wc.drewN n) :=
  ⟨h.rd.drewN n, h.a, h.x, below_drewN h.low n⟩
theorem Gq.lt {w wc : World} {s : ByteArray} {l : List UInt8} {e : Int} {cs : Array Value} (h : Gq w s l e cs wc) : w.heap.size + 2 < wc.heap.size := (Array.getElem?_eq_some_iff.1 h.x).1
theorem uint_le {l : List UInt8} {e : Int} {k : Nat} {l' : List UInt8} {e' : Int} (h : numR 4 l e = ((k : Int), l', e')) : k ≤ 4294967295 := by
  by_cases he : e' = 0
  · subst he
    have h1 := numR_live h
    subst h1
    have h2 := of_decide_eq_true (numR_took h).2
    omega
  · unfold numR at h
    split at h
    · simp only [Prod.mk.injEq] at h; omega
    · rename_i hl
      match l, hl with
      | a :: b :: c :: d :: t, _ =>
        have ha := a.toNat_lt
        have hb := b.toNat_lt
        have hc := c.toNat_lt
        have hd := d.toNat_lt
        have hbe : be (List.take 4 (a :: b :: c :: d :: t)) = 256 * (256 * (256 * (256 * 0 + a.toNat) + b.toNat) + c.toNat) + d.toNat := rfl
        rw [hbe, IntWalk.i64_in _ (by omega)] at h
        simp only [Prod.mk.injEq] at h
        omega
      | [], h => simp at h
      | [_], h => simp at h
      | [_, _], h => simp at h
      | [_, _, _], h => simp at h
theorem body_size {l : List UInt8} {e : Int} {b : ByteArray} {l' : List UInt8} {e' : Int} (h : opqR 400 l e = (b, l', e')) : b.size ≤ 65536 := by
  unfold opqR at h
  simp only [show (if (400 : Int) < 0 then (0 : Int) else 400) = 400 from rfl] at h
  generalize numR 4 l e = A at h
  by_cases c4 : (400 : Int) < A.1
  · rw [if_pos c4] at h
    simp only [Prod.mk.injEq] at h
    rw [← h.1]; exact Nat.zero_le _
  · rw [if_neg c4] at h
    unfold fixR at h
    split at h
    · simp only [Prod.mk.injEq] at h
      rw [← h.1]; exact Nat.zero_le _
    · split at h
      · simp only [Prod.mk.injEq] at h
        rw [← h.1]; exact Nat.zero_le _
      · split at h
        · simp only [Prod.mk.injEq] at h
          rw [← h.1]
          show (A.2.1.take A.1.toNat).toArray.size ≤ _
          simp; omega
        · simp only [Prod.mk.injEq] at h
          rw [← h.1]; exact Nat.zero_le _
theorem RL.place {w : World} {q : Nat} {s : ByteArray} {l : List UInt8} {e : Int} (h : RL w q s l e) : ∃ a : Nat, w.cell? ⟨q, 1, none⟩ = some (.int .i64 a) ∧ a ≤ s.size ∧ l = s.data.toList.drop a := by
  obtain ⟨a, h, hl⟩ := h
  exact ⟨a, h.cells.2.1, h.le, hl⟩
set_option maxRecDepth 100000 in
set_option maxHeartbeats 8000000 in
theorem refGetCall_any (s : ByteArray) (w : World) : Calls Try.prog 15 #[.string s] w (GcTo w (getO s)) := by
  by_cases hbig : 65536 < s.size
  · have HGE := Lib.hid (getO_big hbig)
    have hd : decide ((65536 : Int) < (s.size : Int)) = true := decide_eq_true (by omega)
    go_enter Try.func15, Try.ntmps15
    go_wp2
    refine bodyPost_ret (results_row_tmp2 rfl _ _ w.heap.size 32 _ (0, 0) _ rfl (heap_alloc_new w _) Try.underlying32 rfl (by kernel_rfl)) rfl ?_
    rw [HGE.out]
    exact ⟨rfl, (Below.refl _ w).alloc (Nat.le_refl _) _⟩
  have hd : decide ((65536 : Int) < (s.size : Int)) = false := decide_eq_false (by omega)
  have hs : s.size ≤ 65536 := by omega
  by_cases hsh : s.size < 8
  · have HGE := Lib.hid (getO_short hsh)
    have hd2 : decide ((s.size : Int) < 8) = true := decide_eq_true (by omega)
    go_enter Try.func15, Try.ntmps15
    go_wp2
    refine bodyPost_ret (results_row_tmp2 rfl _ _ w.heap.size 32 _ (0, 0) _ rfl (heap_alloc_new w _) Try.underlying32 rfl (by kernel_rfl)) rfl ?_
    rw [HGE.out]
    exact ⟨rfl, (Below.refl _ w).alloc (Nat.le_refl _) _⟩
  have hd2 : decide ((s.size : Int) < 8) = false := decide_eq_false (by omega)
  have hl0 : s.data.toList.length = s.size := by simp
  obtain ⟨xid, l1, h1⟩ := numR_full (l := s.data.toList) (by omega)
  have hl1 : l1.length + 4 = s.data.toList.length := by rw [(numR_took h1).1, List.length_append, numBytes_length]; omega
  obtain ⟨kind, l2, h2⟩ := numR_full (l := l1) (by omega)
  have hget := getO_eq hs h1 h2
  obtain ⟨v, l3, e3, h3⟩ : ∃ n l e, numR 4 l2 0 = (n, l, e) := ⟨_, _, _, rfl⟩
  obtain ⟨prog, l4, e4, h4⟩ : ∃ n l e, numR 4 l3 0 = (n, l, e) := ⟨_, _, _, rfl⟩
  obtain ⟨vers, l5, e5, h5⟩ : ∃ n l e, numR 4 l4 e4 = (n, l, e) := ⟨_, _, _, rfl⟩
  obtain ⟨proc, l6, e6, h6⟩ : ∃ n l e, numR 4 l5 e5 = (n, l, e) := ⟨_, _, _, rfl⟩
  obtain ⟨fl, l7, e7, h7⟩ : ∃ n l e, numR 4 l6 e6 = (n, l, e) := ⟨_, _, _, rfl⟩
  obtain ⟨body, l8, e8, h8⟩ : ∃ n l e, opqR 400 l7 e7 = (n, l, e) := ⟨_, _, _, rfl⟩
  have hver := fun hv => takeO_ver (v := v) h3 hv
  have hv0 := fun hv => numR_two h3 (v := v) hv
  have htk := fun (h3' : numR 4 l2 0 = (2, l3, 0)) => takeO_eq h3' h4 h5 h6 h7 h8
  have hfl : 0 ≤ fl := by have := numR_nat l6 e6; rw [h7] at this; exact this
  have H1 := Lib.hid h1
  have H2 := Lib.hid h2
  have H3 := Lib.hid h3
  have H4 := Lib.hid h4
  have H5 := Lib.hid h5
  have H6 := Lib.hid h6
  have H7 := Lib.hid h7
  have H8 := Lib.hid h8
  have HGET := Lib.hid hget
  have HVER := Lib.hid hver
  have HV0 := Lib.hid hv0
  have HTK := Lib.hid htk
  clear h1 h2 h3 h4 h5 h6 h7 h8 hget hver hv0 htk hl0 hl1 hbig hsh
  go_enter Try.func15, Try.ntmps15
  go_wp2_with fail
  have hR0 := RL.new (w.alloc (.cells zeroA 32)) s hs
  have n0 : (w.alloc (.cells zeroA 32)).heap.size = w.heap.size + 1 := by simp
  rw [n0] at hR0
  refine (ruint4_n (w.heap.size + 1) s s.data.toList 0 _ hR0 xid l1 0 H1.out).mono ?_
  rintro r w1 ⟨rfl, hR1, hO1⟩
  have n1 : w1.heap.size = w.heap.size + 2 := by rw [hO1.size]; simp
  have hQ1 : Gq w s l1 0 #[.int .i64 xid, .int .i64 0, .int .i64 0, .int .i64 0, .bool false, .int .i64 0, .string ⟨#[]⟩, .int .i64 0, .int .i64 0, .slice none 0 0, .string ⟨#[]⟩] (w1.alloc (.cells #[.int .i64 xid, .int .i64 0, .int .i64 0, .int .i64 0, .bool false, .int .i64 0, .string ⟨#[]⟩, .int .i64 0, .int .i64 0, .slice none 0 0, .string ⟨#[]⟩] 32)) := by
    have hx := heap_alloc_new w1 (.cells #[.int .i64 xid, .int .i64 0, .int .i64 0, .int .i64 0, .bool false, .int .i64 0, .string ⟨#[]⟩, .int .i64 0, .int .i64 0, .slice none 0 0, .string ⟨#[]⟩] 32)
    rw [n1] at hx
    have ha : CB w1 w.heap.size zeroA := (hO1.block _ (by omega)).trans (((World.grownBy_alloc _ _ none).block w.heap.size (by simp) (by simp)).trans (heap_alloc_new w _))
    refine ⟨hR1.below ((Below.refl _ _).alloc (Nat.le_refl _) _), ((World.grownBy_alloc _ _ none).block w.heap.size (by omega) (by simp)).trans ha, hx, ?_⟩
    exact ((((Below.refl _ w).alloc (Nat.le_refl _) _).alloc (by simp) _).trans (hO1.below (by omega))).alloc (by omega) _
  have HQ1 := Lib.hid hQ1
  have HN1 := Lib.hid n1
  clear hR0 n0 hR1 hO1 hQ1 n1
  go_wp2_with fail
  try rw [HN1.out]
  generalize (w1.alloc (.cells #[.int .i64 xid, .int .i64 0, .int .i64 0, .int .i64 0, .bool false, .int .i64 0, .string ⟨#[]⟩, .int .i64 0, .int .i64 0, .slice none 0 0, .string ⟨#[]⟩] 32)) = W1 at *
  refine (ruint4_n (w.heap.size + 1) s _ _ _ HQ1.out.rd kind l2 0 H2.out).mono ?_
  rintro r w2 ⟨rfl, hR, hO⟩
  have HQ2 := Lib.hid (HQ1.out.only hO hR)
  clear hR hO HQ1
  by_cases hk : kind ≠ 0
  · have HGE : Hid (getO s = .err 4) := Lib.hid (by rw [HGET.out, if_pos hk])
    have hbk : (kind != 0) = true := by simpa using hk
    have hZ := HQ2.out
    have y0 := hZ.a.at 0
    have y1 := hZ.a.at 1
    have y2 := hZ.a.at 2
    have y3 := hZ.a.at 3
    have y4 := hZ.a.at 4
    have y5 := hZ.a.at 5
    have y6 := hZ.a.at 6
    have y7 := hZ.a.at 7
    have y8 := hZ.a.at 8
    have y9 := hZ.a.at 9
    have y10 := hZ.a.at 10
    have k0 := hZ.a.free 0
    have k1 := hZ.a.free 1
    have k2 := hZ.a.free 2
    have k3 := hZ.a.free 3
    have k4 := hZ.a.free 4
    have k5 := hZ.a.free 5
    have k6 := hZ.a.free 6
    have k7 := hZ.a.free 7
    have k8 := hZ.a.free 8
    have k9 := hZ.a.free 9
    have k10 := hZ.a.free 10
    simp only [List.getElem?_toArray, List.getElem?_cons_zero, List.getElem?_cons_succ] at y0 y1 y2 y3 y4 y5 y6 y7 y8 y9 y10
    have HZ := Lib.hid hZ
    clear hZ HQ2
    go_wp2
    obtain ⟨q1, q2⟩ := lay11z HZ.out.a rfl 0 0 0 0 false 0 ⟨#[]⟩ 0 0 (.slice none 0 0) ⟨#[]⟩ _ rfl
    refine bodyPost_ret (results_row_tmp2 rfl _ _ w.heap.size 32 _ (0, 0) _ rfl q1 Try.underlying32 rfl (by kernel_rfl)) rfl ?_
    rw [HGE.out]
    exact ⟨rfl, HZ.out.low.trans (q2.below (Nat.le_refl _))⟩
  have hk0 : kind = 0 := by omega
  subst hk0
  have HGET2 := Lib.hid (HGET.out.trans (if_neg hk))
  clear HGET hk
  go_wp2_with fail
  refine (ruint4_n (w.heap.size + 1) s _ _ _ HQ2.out.rd v l3 e3 H3.out).mono ?_
  rintro r w3 ⟨rfl, hR, hO⟩
  have HQ3 := Lib.hid (HQ2.out.only hO hR)
  clear hR hO HQ2
  have er := HQ3.out.rd.err
  by_cases hv : v ≠ 2
  · have hbv : (v != 2) = true := by simpa using hv
    have HGE : Hid (getO s = .ref xid 6 2 2) := Lib.hid (by rw [HGET2.out, HVER.out hv])
    go_wp2_with fail
    refine (refuse37 xid 6 2 2 _).mono ?_
    rintro r wz ⟨rfl, hBz⟩
    have hZ := HQ3.out.below hBz
    have y0 := hZ.a.at 0
    have y1 := hZ.a.at 1
    have y2 := hZ.a.at 2
    have y3 := hZ.a.at 3
    have y4 := hZ.a.at 4
    have y5 := hZ.a.at 5
    have y6 := hZ.a.at 6
    have y7 := hZ.a.at 7
    have y8 := hZ.a.at 8
    have y9 := hZ.a.at 9
    have y10 := hZ.a.at 10
    have k0 := hZ.a.free 0
    have k1 := hZ.a.free 1
    have k2 := hZ.a.free 2
    have k3 := hZ.a.free 3
    have k4 := hZ.a.free 4
    have k5 := hZ.a.free 5
    have k6 := hZ.a.free 6
    have k7 := hZ.a.free 7
    have k8 := hZ.a.free 8
    have k9 := hZ.a.free 9
    have k10 := hZ.a.free 10
    simp only [List.getElem?_toArray, List.getElem?_cons_zero, List.getElem?_cons_succ] at y0 y1 y2 y3 y4 y5 y6 y7 y8 y9 y10
    have HZ := Lib.hid hZ
    clear hZ hBz
    go_wp2
    obtain ⟨q1, q2⟩ := lay11z HZ.out.a rfl 0 0 0 0 false 0 ⟨#[]⟩ 0 0 (.slice none 0 0) ⟨#[]⟩ _ rfl
    refine bodyPost_ret (results_row_tmp2 rfl _ _ w.heap.size 32 _ (0, 0) _ rfl q1 Try.underlying32 rfl (by kernel_rfl)) rfl ?_
    rw [HGE.out]
    exact ⟨rfl, HZ.out.low.trans (q2.below (Nat.le_refl _))⟩
  have hv2 : v = 2 := by omega
  have he3 := HV0.out (by omega)
  subst hv2 he3
  have HTK2 := Lib.hid (HTK.out H3.out)
  clear HTK HVER HV0 hv
  go_wp2_with fail
  refine (ruint4_n (w.heap.size + 1) s _ _ _ HQ3.out.rd prog l4 e4 H4.out).mono ?_
  rintro r w4 ⟨rfl, hR, hO⟩
  have HQ4 := Lib.hid (HQ3.out.only hO hR)
  clear hR hO HQ3
  try clear er
  have f1 := HQ4.out.x.free 1
  have c1 := HQ4.out.x.at 1
  simp only [List.getElem?_toArray, List.getElem?_cons_zero, List.getElem?_cons_succ] at c1
  have HS4 := Lib.hid (HQ4.out.set (cs' := #[.int .i64 xid, .int .i64 prog, .int .i64 0, .int .i64 0, .bool false, .int .i64 0, .string ⟨#[]⟩, .int .i64 0, .int .i64 0, .slice none 0 0, .string ⟨#[]⟩]) 1 (.int .i64 prog) rfl)
  clear HQ4
  go_wp2_with fail
  clear f1 c1
  generalize (w4.setCell ⟨w.heap.size + 2, 1, none⟩ (.int .i64 prog)) = W4 at *
  refine (ruint4_n (w.heap.size + 1) s _ _ _ HS4.out.rd vers l5 e5 H5.out).mono ?_
  rintro r w5 ⟨rfl, hR, hO⟩
  have HQ5 := Lib.hid (HS4.out.only hO hR)
  clear hR hO HS4
  have f2 := HQ5.out.x.free 2
  have c2 := HQ5.out.x.at 2
  simp only [List.getElem?_toArray, List.getElem?_cons_zero, List.getElem?_cons_succ] at c2
  have HS5 := Lib.hid (HQ5.out.set (cs' := #[.int .i64 xid, .int .i64 prog, .int .i64 vers, .int .i64 0, .bool false, .int .i64 0, .string ⟨#[]⟩, .int .i64 0, .int .i64 0, .slice none 0 0, .string ⟨#[]⟩]) 2 (.int .i64 vers) rfl)
  clear HQ5
  go_wp2_with fail
  clear f2 c2
  generalize (w5.setCell ⟨w.heap.size + 2, 2, none⟩ (.int .i64 vers)) = W5 at *
  refine (ruint4_n (w.heap.size + 1) s _ _ _ HS5.out.rd proc l6 e6 H6.out).mono ?_
  rintro r w6 ⟨rfl, hR, hO⟩
  have HQ6 := Lib.hid (HS5.out.only hO hR)
  clear hR hO HS5
  have er := HQ6.out.rd.err
  have f3 := HQ6.out.x.free 3
  have c3 := HQ6.out.x.at 3
  simp only [List.getElem?_toArray, List.getElem?_cons_zero, List.getElem?_cons_succ] at c3
  have HS6 := Lib.hid (HQ6.out.set (cs' := #[.int .i64 xid, .int .i64 prog, .int .i64 vers, .int .i64 proc, .bool false, .int .i64 0, .string ⟨#[]⟩, .int .i64 0, .int .i64 0, .slice none 0 0, .string ⟨#[]⟩]) 3 (.int .i64 proc) rfl)
  clear HQ6
  by_cases h6 : e6 ≠ 0
  · have hb6 : (e6 != 0) = true := by simpa using h6
    have HGE : Hid (getO s = .ref xid 4 0 0) := Lib.hid (by rw [HGET2.out, HTK2.out, if_pos h6])
    go_wp2_with fail
    refine (refuse37 xid 4 0 0 _).mono ?_
    rintro r wz ⟨rfl, hBz⟩
    have hZ := HS6.out.below hBz
    have y0 := hZ.a.at 0
    have y1 := hZ.a.at 1
    have y2 := hZ.a.at 2
    have y3 := hZ.a.at 3
    have y4 := hZ.a.at 4
    have y5 := hZ.a.at 5
    have y6 := hZ.a.at 6
    have y7 := hZ.a.at 7
    have y8 := hZ.a.at 8
    have y9 := hZ.a.at 9
    have y10 := hZ.a.at 10
    have k0 := hZ.a.free 0
    have k1 := hZ.a.free 1
    have k2 := hZ.a.free 2
    have k3 := hZ.a.free 3
    have k4 := hZ.a.free 4
    have k5 := hZ.a.free 5
    have k6 := hZ.a.free 6
    have k7 := hZ.a.free 7
    have k8 := hZ.a.free 8
    have k9 := hZ.a.free 9
    have k10 := hZ.a.free 10
    simp only [List.getElem?_toArray, List.getElem?_cons_zero, List.getElem?_cons_succ] at y0 y1 y2 y3 y4 y5 y6 y7 y8 y9 y10
    have HZ := Lib.hid hZ
    clear hZ hBz
    go_wp2
    obtain ⟨q1, q2⟩ := lay11z HZ.out.a rfl 0 0 0 0 false 0 ⟨#[]⟩ 0 0 (.slice none 0 0) ⟨#[]⟩ _ rfl
    refine bodyPost_ret (results_row_tmp2 rfl _ _ w.heap.size 32 _ (0, 0) _ rfl q1 Try.underlying32 rfl (by kernel_rfl)) rfl ?_
    rw [HGE.out]
    exact ⟨rfl, HZ.out.low.trans (q2.below (Nat.le_refl _))⟩
  have h60 : e6 = 0 := by omega
  subst h60
  have HTK3 := Lib.hid (HTK2.out.trans (if_neg h6))
  clear HTK2 h6
  go_wp2_with fail
  clear f3 c3 er
  generalize (w6.setCell ⟨w.heap.size + 2, 3, none⟩ (.int .i64 proc)) = W6 at *
  refine (ruint4_n (w.heap.size + 1) s _ _ _ HS6.out.rd fl l7 e7 H7.out).mono ?_
  rintro r w7 ⟨rfl, hR, hO⟩
  have HQ7 := Lib.hid (HS6.out.only hO hR)
  clear hR hO HS6
  go_wp2_with fail
  refine (refMost_n (w.heap.size + 1) s _ _ 400 _ HQ7.out.rd body l8 e8 H8.out).mono ?_
  rintro r w8 ⟨rfl, hR, hO⟩
  have HQ8 := Lib.hid (HQ7.out.only hO hR)
  clear hR hO HQ7
  have er := HQ8.out.rd.err
  by_cases h8 : e8 ≠ 0
  · have hb8 : (e8 != 0) = true := by simpa using h8
    have HGE : Hid (getO s = .ref xid 7 1 0) := Lib.hid (by rw [HGET2.out, HTK3.out, if_pos h8])
    go_wp2_with fail
    refine (refuse37 xid 7 1 0 _).mono ?_
    rintro r wz ⟨rfl, hBz⟩
    have hZ := HQ8.out.below hBz
    have y0 := hZ.a.at 0
    have y1 := hZ.a.at 1
    have y2 := hZ.a.at 2
    have y3 := hZ.a.at 3
    have y4 := hZ.a.at 4
    have y5 := hZ.a.at 5
    have y6 := hZ.a.at 6
    have y7 := hZ.a.at 7
    have y8 := hZ.a.at 8
    have y9 := hZ.a.at 9
    have y10 := hZ.a.at 10
    have k0 := hZ.a.free 0
    have k1 := hZ.a.free 1
    have k2 := hZ.a.free 2
    have k3 := hZ.a.free 3
    have k4 := hZ.a.free 4
    have k5 := hZ.a.free 5
    have k6 := hZ.a.free 6
    have k7 := hZ.a.free 7
    have k8 := hZ.a.free 8
    have k9 := hZ.a.free 9
    have k10 := hZ.a.free 10
    simp only [List.getElem?_toArray, List.getElem?_cons_zero, List.getElem?_cons_succ] at y0 y1 y2 y3 y4 y5 y6 y7 y8 y9 y10
    have HZ := Lib.hid hZ
    clear hZ hBz
    go_wp2
    obtain ⟨q1, q2⟩ := lay11z HZ.out.a rfl 0 0 0 0 false 0 ⟨#[]⟩ 0 0 (.slice none 0 0) ⟨#[]⟩ _ rfl
    refine bodyPost_ret (results_row_tmp2 rfl _ _ w.heap.size 32 _ (0, 0) _ rfl q1 Try.underlying32 rfl (by kernel_rfl)) rfl ?_
    rw [HGE.out]
    exact ⟨rfl, HZ.out.low.trans (q2.below (Nat.le_refl _))⟩
  have h80 : e8 = 0 := by omega
  subst h80
  have HTK4 := Lib.hid (HTK3.out.trans (if_neg h8))
  clear HTK3 h8
  by_cases hf : 1 < fl
  · have hbf : decide (1 < fl) = true := decide_eq_true hf
    have HGE : Hid (getO s = .ref xid 7 5 0) := Lib.hid (by rw [HGET2.out, HTK4.out, if_pos hf])
    go_wp2_with fail
    refine (refuse37 xid 7 5 0 _).mono ?_
    rintro r wz ⟨rfl, hBz⟩
    have hZ := HQ8.out.below hBz
    have y0 := hZ.a.at 0
    have y1 := hZ.a.at 1
    have y2 := hZ.a.at 2
    have y3 := hZ.a.at 3
    have y4 := hZ.a.at 4
    have y5 := hZ.a.at 5
    have y6 := hZ.a.at 6
    have y7 := hZ.a.at 7
    have y8 := hZ.a.at 8
    have y9 := hZ.a.at 9
    have y10 := hZ.a.at 10
    have k0 := hZ.a.free 0
    have k1 := hZ.a.free 1
    have k2 := hZ.a.free 2
    have k3 := hZ.a.free 3
    have k4 := hZ.a.free 4
    have k5 := hZ.a.free 5
    have k6 := hZ.a.free 6
    have k7 := hZ.a.free 7
    have k8 := hZ.a.free 8
    have k9 := hZ.a.free 9
    have k10 := hZ.a.free 10
    simp only [List.getElem?_toArray, List.getElem?_cons_zero, List.getElem?_cons_succ] at y0 y1 y2 y3 y4 y5 y6 y7 y8 y9 y10
    have HZ := Lib.hid hZ
    clear hZ hBz
    go_wp2
    obtain ⟨q1, q2⟩ := lay11z HZ.out.a rfl 0 0 0 0 false 0 ⟨#[]⟩ 0 0 (.slice none 0 0) ⟨#[]⟩ _ rfl
    refine bodyPost_ret (results_row_tmp2 rfl _ _ w.heap.size 32 _ (0, 0) _ rfl q1 Try.underlying32 rfl (by kernel_rfl)) rfl ?_
    rw [HGE.out]
    exact ⟨rfl, HZ.out.low.trans (q2.below (Nat.le_refl _))⟩
  have HTK5 := Lib.hid (HTK4.out.trans (if_neg hf))
  clear HTK4
  have hbf : decide (1 < fl) = false := decide_eq_false hf
  obtain ⟨ux, hux⟩ : ∃ b, (fl == 1) = b := ⟨_, rfl⟩
  have HUX := Lib.hid hux
  have f4 := HQ8.out.x.free 4
  have c4 := HQ8.out.x.at 4
  simp only [List.getElem?_toArray, List.getElem?_cons_zero, List.getElem?_cons_succ] at c4
  have hS8 := HQ8.out.set (cs' := #[.int .i64 xid, .int .i64 prog, .int .i64 vers, .int .i64 proc, .bool ux, .int .i64 0, .string ⟨#[]⟩, .int .i64 0, .int .i64 0, .slice none 0 0, .string ⟨#[]⟩]) 4 (.bool ux) rfl
  have HS8 := Lib.hid hS8
  clear hS8
  obtain ⟨fl2, l9, e9, h9⟩ : ∃ n l e, numR 4 l8 0 = (n, l, e) := ⟨_, _, _, rfl⟩
  obtain ⟨b2, l10, e10, h10⟩ : ∃ n l e, opqR 400 l9 e9 = (n, l, e) := ⟨_, _, _, rfl⟩
  have HTL := Lib.hid (fun f => tailO_eq (f := f) h9 h10)
  have H9 := Lib.hid h9
  have H10 := Lib.hid h10
  clear h9 h10
  cases ux with
  | false =>
    have hfl0 : fl = 0 := by have h := HUX.out; simp at h; omega
    cases hbe : body.toList.isEmpty with
    | false =>
      have hne : body.toList ≠ [] := by intro h; rw [h] at hbe; cases hbe
      have hbq : (body.toList == []) = false := by simpa using hne
      have hbn : (body.toList != []) = true := by simpa using hne
      clear hne
      have HGE : Hid (getO s = .ref xid 7 1 0) := Lib.hid (by rw [HGET2.out, HTK5.out, if_neg (by omega), if_pos hbe])
      go_wp2_with fail
      refine (refuse37 xid 7 1 0 _).mono ?_
      rintro r wz ⟨rfl, hBz⟩
      have hZ := HS8.out.below hBz
      have y0 := hZ.a.at 0
      have y1 := hZ.a.at 1
      have y2 := hZ.a.at 2
      have y3 := hZ.a.at 3
      have y4 := hZ.a.at 4
      have y5 := hZ.a.at 5
      have y6 := hZ.a.at 6
      have y7 := hZ.a.at 7
      have y8 := hZ.a.at 8
      have y9 := hZ.a.at 9
      have y10 := hZ.a.at 10
      have k0 := hZ.a.free 0
      have k1 := hZ.a.free 1
      have k2 := hZ.a.free 2
      have k3 := hZ.a.free 3
      have k4 := hZ.a.free 4
      have k5 := hZ.a.free 5
      have k6 := hZ.a.free 6
      have k7 := hZ.a.free 7
      have k8 := hZ.a.free 8
      have k9 := hZ.a.free 9
      have k10 := hZ.a.free 10
      simp only [List.getElem?_toArray, List.getElem?_cons_zero, List.getElem?_cons_succ] at y0 y1 y2 y3 y4 y5 y6 y7 y8 y9 y10
      have HZ := Lib.hid hZ
      clear hZ hBz
      go_wp2
      obtain ⟨q1, q2⟩ := lay11z HZ.out.a rfl 0 0 0 0 false 0 ⟨#[]⟩ 0 0 (.slice none 0 0) ⟨#[]⟩ _ rfl
      refine bodyPost_ret (results_row_tmp2 rfl _ _ w.heap.size 32 _ (0, 0) _ rfl q1 Try.underlying32 rfl (by kernel_rfl)) rfl ?_
      rw [HGE.out]
      exact ⟨rfl, HZ.out.low.trans (q2.below (Nat.le_refl _))⟩
    | true =>
      have hb0 := bytes_nil0 hbe
      subst hb0
      have HTK6 : Hid (takeO l2 = tailO l8 0 (.ok prog vers proc false 0 ⟨#[]⟩ 0 0 [])) := Lib.hid (by rw [HTK5.out, if_neg (by omega), if_neg (by simp)])
      have HOWN : Hid ((w8.setCell ⟨w.heap.size + 2, 4, none⟩ (.bool false)).ownsRow 0 3 1 (.slice none 0 0) ([] : List Int).length (ints [])) := Lib.hid (World.ownsRow_nil _ _ _ _)
      have HVG : Hid (∀ g, Value.ownBlock (.slice none 0 0) = some g → w.heap.size + 3 ≤ g) := Lib.hid (by intro g hg; simp [Value.ownBlock] at hg)
      go_wp2_with fail
      clear f4 c4 er HQ8
      generalize (w8.setCell ⟨w.heap.size + 2, 4, none⟩ (.bool false)) = W8 at *
      refine (ruint4_n (w.heap.size + 1) s _ _ _ HS8.out.rd fl2 l9 e9 H9.out).mono ?_
      rintro r w9 ⟨rfl, hR, hO⟩
      have HQ9 := Lib.hid (HS8.out.only hO hR)
      have HOWN9 := Lib.hid (ownsRow_of HOWN.out (fun g hg => hO.block g (by have := HVG.out g hg; omega)))
      clear hR hO HS8 HOWN
      go_wp2_with fail
      refine (refMost_n (w.heap.size + 1) s _ _ 400 _ HQ9.out.rd b2 l10 e10 H10.out).mono ?_
      rintro r w10 ⟨rfl, hR, hO⟩
      have HQ10 := Lib.hid (HQ9.out.only hO hR)
      have HOWN10 := Lib.hid (ownsRow_of HOWN9.out (fun g hg => hO.block g (by have := HVG.out g hg; omega)))
      clear hR hO HQ9 HOWN9
      have er := HQ10.out.rd.err
      obtain ⟨at', hat, hatl, hl10⟩ := HQ10.out.rd.place
      have hlen : l10.length = s.size - at' := by rw [hl10, List.length_drop]; simp
      have HL10 := Lib.hid hl10
      clear hl10
      by_cases g1 : e10 ≠ 0
      · have hb1 : (e10 != 0) = true := by simpa using g1
        have HGE : Hid (getO s = .ref xid 7 3 0) := Lib.hid (by rw [HGET2.out, HTK6.out, HTL.out, if_pos (.inl g1)])
        go_wp2_with fail
        refine (refuse37 xid 7 3 0 _).mono ?_
        rintro r wz ⟨rfl, hBz⟩
        have hZ := HQ10.out.below hBz
        have y0 := hZ.a.at 0
        have y1 := hZ.a.at 1
        have y2 := hZ.a.at 2
        have y3 := hZ.a.at 3
        have y4 := hZ.a.at 4
        have y5 := hZ.a.at 5
        have y6 := hZ.a.at 6
        have y7 := hZ.a.at 7
        have y8 := hZ.a.at 8
        have y9 := hZ.a.at 9
        have y10 := hZ.a.at 10
        have k0 := hZ.a.free 0
        have k1 := hZ.a.free 1
        have k2 := hZ.a.free 2
        have k3 := hZ.a.free 3
        have k4 := hZ.a.free 4
        have k5 := hZ.a.free 5
        have k6 := hZ.a.free 6
        have k7 := hZ.a.free 7
        have k8 := hZ.a.free 8
        have k9 := hZ.a.free 9
        have k10 := hZ.a.free 10
        simp only [List.getElem?_toArray, List.getElem?_cons_zero, List.getElem?_cons_succ] at y0 y1 y2 y3 y4 y5 y6 y7 y8 y9 y10
        have HZ := Lib.hid hZ
        clear hZ hBz
        go_wp2
        obtain ⟨q1, q2⟩ := lay11z HZ.out.a rfl 0 0 0 0 false 0 ⟨#[]⟩ 0 0 (.slice none 0 0) ⟨#[]⟩ _ rfl
        refine bodyPost_ret (results_row_tmp2 rfl _ _ w.heap.size 32 _ (0, 0) _ rfl q1 Try.underlying32 rfl (by kernel_rfl)) rfl ?_
        rw [HGE.out]
        exact ⟨rfl, HZ.out.low.trans (q2.below (Nat.le_refl _))⟩
      have g10 : e10 = 0 := by omega
      subst g10
      clear g1
      by_cases g2 : fl2 ≠ 0
      · have hb2 : (fl2 != 0) = true := by simpa using g2
        have HGE : Hid (getO s = .ref xid 7 3 0) := Lib.hid (by rw [HGET2.out, HTK6.out, HTL.out, if_pos (.inr (.inl g2))])
        go_wp2_with fail
        refine (refuse37 xid 7 3 0 _).mono ?_
        rintro r wz ⟨rfl, hBz⟩
        have hZ := HQ10.out.below hBz
        have y0 := hZ.a.at 0
        have y1 := hZ.a.at 1
        have y2 := hZ.a.at 2
        have y3 := hZ.a.at 3
        have y4 := hZ.a.at 4
        have y5 := hZ.a.at 5
        have y6 := hZ.a.at 6
        have y7 := hZ.a.at 7
        have y8 := hZ.a.at 8
        have y9 := hZ.a.at 9
        have y10 := hZ.a.at 10
        have k0 := hZ.a.free 0
        have k1 := hZ.a.free 1
        have k2 := hZ.a.free 2
        have k3 := hZ.a.free 3
        have k4 := hZ.a.free 4
        have k5 := hZ.a.free 5
        have k6 := hZ.a.free 6
        have k7 := hZ.a.free 7
        have k8 := hZ.a.free 8
        have k9 := hZ.a.free 9
        have k10 := hZ.a.free 10
        simp only [List.getElem?_toArray, List.getElem?_cons_zero, List.getElem?_cons_succ] at y0 y1 y2 y3 y4 y5 y6 y7 y8 y9 y10
        have HZ := Lib.hid hZ
        clear hZ hBz
        go_wp2
        obtain ⟨q1, q2⟩ := lay11z HZ.out.a rfl 0 0 0 0 false 0 ⟨#[]⟩ 0 0 (.slice none 0 0) ⟨#[]⟩ _ rfl
        refine bodyPost_ret (results_row_tmp2 rfl _ _ w.heap.size 32 _ (0, 0) _ rfl q1 Try.underlying32 rfl (by kernel_rfl)) rfl ?_
        rw [HGE.out]
        exact ⟨rfl, HZ.out.low.trans (q2.below (Nat.le_refl _))⟩
      have g20 : fl2 = 0 := by omega
      subst g20
      clear g2
      cases g3 : b2.toList.isEmpty with
      | false =>
        have hne : b2.toList ≠ [] := by intro h; rw [h] at g3; cases g3
        have hbq : (b2.toList == []) = false := by simpa using hne
        have hbn : (b2.toList != []) = true := by simpa using hne
        clear hne
        have HGE : Hid (getO s = .ref xid 7 3 0) := Lib.hid (by rw [HGET2.out, HTK6.out, HTL.out, if_pos (.inr (.inr (.inl g3)))])
        go_wp2_with fail
        refine (refuse37 xid 7 3 0 _).mono ?_
        rintro r wz ⟨rfl, hBz⟩
        have hZ := HQ10.out.below hBz
        have y0 := hZ.a.at 0
        have y1 := hZ.a.at 1
        have y2 := hZ.a.at 2
        have y3 := hZ.a.at 3
        have y4 := hZ.a.at 4
        have y5 := hZ.a.at 5
        have y6 := hZ.a.at 6
        have y7 := hZ.a.at 7
        have y8 := hZ.a.at 8
        have y9 := hZ.a.at 9
        have y10 := hZ.a.at 10
        have k0 := hZ.a.free 0
        have k1 := hZ.a.free 1
        have k2 := hZ.a.free 2
        have k3 := hZ.a.free 3
        have k4 := hZ.a.free 4
        have k5 := hZ.a.free 5
        have k6 := hZ.a.free 6
        have k7 := hZ.a.free 7
        have k8 := hZ.a.free 8
        have k9 := hZ.a.free 9
        have k10 := hZ.a.free 10
        simp only [List.getElem?_toArray, List.getElem?_cons_zero, List.getElem?_cons_succ] at y0 y1 y2 y3 y4 y5 y6 y7 y8 y9 y10
        have HZ := Lib.hid hZ
        clear hZ hBz
        go_wp2
        obtain ⟨q1, q2⟩ := lay11z HZ.out.a rfl 0 0 0 0 false 0 ⟨#[]⟩ 0 0 (.slice none 0 0) ⟨#[]⟩ _ rfl
        refine bodyPost_ret (results_row_tmp2 rfl _ _ w.heap.size 32 _ (0, 0) _ rfl q1 Try.underlying32 rfl (by kernel_rfl)) rfl ?_
        rw [HGE.out]
        exact ⟨rfl, HZ.out.low.trans (q2.below (Nat.le_refl _))⟩
      | true =>
        have hb0 := bytes_nil0 g3
        subst hb0
        have hsub : (s.size : Int) - (at' : Int) = ((s.size - at' : Nat) : Int) := by omega
        by_cases g4 : l10.length % 4 ≠ 0
        · have hm : (((s.size - at' : Nat) : Int) % 4 != 0) = true := by simp; omega
          have HGE : Hid (getO s = .ref xid 7 3 0) := Lib.hid (by rw [HGET2.out, HTK6.out, HTL.out, if_pos (.inr (.inr (.inr g4)))])
          go_wp2_with fail
          refine (refuse37 xid 7 3 0 _).mono ?_
          rintro r wz ⟨rfl, hBz⟩
          have hZ := HQ10.out.below hBz
          have y0 := hZ.a.at 0
          have y1 := hZ.a.at 1
          have y2 := hZ.a.at 2
          have y3 := hZ.a.at 3
          have y4 := hZ.a.at 4
          have y5 := hZ.a.at 5
          have y6 := hZ.a.at 6
          have y7 := hZ.a.at 7
          have y8 := hZ.a.at 8
          have y9 := hZ.a.at 9
          have y10 := hZ.a.at 10
          have k0 := hZ.a.free 0
          have k1 := hZ.a.free 1
          have k2 := hZ.a.free 2
          have k3 := hZ.a.free 3
          have k4 := hZ.a.free 4
          have k5 := hZ.a.free 5
          have k6 := hZ.a.free 6
          have k7 := hZ.a.free 7
          have k8 := hZ.a.free 8
          have k9 := hZ.a.free 9
          have k10 := hZ.a.free 10
          simp only [List.getElem?_toArray, List.getElem?_cons_zero, List.getElem?_cons_succ] at y0 y1 y2 y3 y4 y5 y6 y7 y8 y9 y10
          have HZ := Lib.hid hZ
          clear hZ hBz
          go_wp2
          obtain ⟨q1, q2⟩ := lay11z HZ.out.a rfl 0 0 0 0 false 0 ⟨#[]⟩ 0 0 (.slice none 0 0) ⟨#[]⟩ _ rfl
          refine bodyPost_ret (results_row_tmp2 rfl _ _ w.heap.size 32 _ (0, 0) _ rfl q1 Try.underlying32 rfl (by kernel_rfl)) rfl ?_
          rw [HGE.out]
          exact ⟨rfl, HZ.out.low.trans (q2.below (Nat.le_refl _))⟩
        have hm : (((s.size - at' : Nat) : Int) % 4 != 0) = false := by simp; omega
        have HGE : Hid (getO s = .ok xid prog vers proc false 0 ⟨#[]⟩ 0 0 [] ⟨l10.toArray⟩) := Lib.hid (by rw [HGET2.out, HTK6.out, HTL.out, if_neg (by rw [g3]; simp; omega)])
        have f10 := HQ10.out.x.free 10
        have hX := HQ10.out.x
        have hA := HQ10.out.a
        have c0 := hX.at 0
        have c1 := hX.at 1
        have c2 := hX.at 2
        have c3 := hX.at 3
        have c4 := hX.at 4
        have c5 := hX.at 5
        have c6 := hX.at 6
        have c7 := hX.at 7
        have c8 := hX.at 8
        have c9 := hX.at 9
        have c10 := hX.at 10
        have y0 := hA.at 0
        have y1 := hA.at 1
        have y2 := hA.at 2
        have y3 := hA.at 3
        have y4 := hA.at 4
        have y5 := hA.at 5
        have y6 := hA.at 6
        have y7 := hA.at 7
        have y8 := hA.at 8
        have y9 := hA.at 9
        have y10 := hA.at 10
        have k0 := hA.free 0
        have k1 := hA.free 1
        have k2 := hA.free 2
        have k3 := hA.free 3
        have k4 := hA.free 4
        have k5 := hA.free 5
        have k6 := hA.free 6
        have k7 := hA.free 7
        have k8 := hA.free 8
        have k9 := hA.free 9
        have k10 := hA.free 10
        simp only [List.getElem?_toArray, List.getElem?_cons_zero, List.getElem?_cons_succ] at c0 c1 c2 c3 c4 c5 c6 c7 c8 c9 c10
        simp only [List.getElem?_toArray, List.getElem?_cons_zero, List.getElem?_cons_succ] at y0 y1 y2 y3 y4 y5 y6 y7 y8 y9 y10
        clear hX hA
        have hS := HQ10.out.set (cs' := #[.int .i64 xid, .int .i64 prog, .int .i64 vers, .int .i64 proc, .bool false, .int .i64 0, .string ⟨#[]⟩, .int .i64 0, .int .i64 0, .slice none 0 0, .string (s.extract at' s.size)]) 10 (.string (s.extract at' s.size)) rfl
        have HS := Lib.hid hS
        have HOS := Lib.hid (ownsRow_of (w' := w10.setCell ⟨w.heap.size + 2, 10, none⟩ (.string (s.extract at' s.size))) HOWN10.out (fun g hg => Below.heap_setCell _ _ _ _ (by have := HVG.out g hg; show g ≠ w.heap.size + 2; omega)))
        clear hS
        have hne2 : w.heap.size + 2 ≠ w.heap.size := by omega
        go_wp2
        obtain ⟨q1, q2⟩ := lay11z HS.out.a rfl xid prog vers proc false 0 ⟨#[]⟩ 0 0 (.slice none 0 0) (s.extract at' s.size) _ rfl
        refine bodyPost_ret (results_row_tmp2 rfl _ _ w.heap.size 32 _ (0, 0) _ rfl q1 Try.underlying32 rfl (by kernel_rfl)) rfl ?_
        rw [HGE.out]
        refine ⟨_, by rw [ext_drop, ← HL10.out]; rfl, ownsRow_of HOS.out (fun g hg => q2.block g (by have := HVG.out g hg; omega)), HS.out.low.trans (q2.below (Nat.le_refl _))⟩
  | true =>
    have hfl1 : fl = 1 := by have h := HUX.out; simpa using h
    have HTK6 : Hid (takeO l2 = (match unixO body with | none => .bad 7 1 0 | some (st, m, uid, gid, G) => tailO l8 0 (.ok prog vers proc true st m uid gid G))) := Lib.hid (by rw [HTK5.out, if_pos hfl1]; rfl)
    have hbs : body.size ≤ 65536 := body_size H8.out
    obtain ⟨st, m1, f1, g1⟩ : ∃ n l e, numR 4 body.data.toList 0 = (n, l, e) := ⟨_, _, _, rfl⟩
    obtain ⟨m, m2, f2, g2⟩ : ∃ n l e, opqR 255 m1 f1 = (n, l, e) := ⟨_, _, _, rfl⟩
    obtain ⟨uid, m3, f3, g3⟩ : ∃ n l e, numR 4 m2 f2 = (n, l, e) := ⟨_, _, _, rfl⟩
    obtain ⟨gid, m4, f4', g4⟩ : ∃ n l e, numR 4 m3 f3 = (n, l, e) := ⟨_, _, _, rfl⟩
    obtain ⟨kk, m5, f5, g5⟩ : ∃ n l e, numR 4 m4 f4' = (n, l, e) := ⟨_, _, _, rfl⟩
    have hkn : 0 ≤ kk := by have := numR_nat m4 f4'; rw [g5] at this; exact this
    obtain ⟨k, rfl⟩ : ∃ k : Nat, kk = k := ⟨kk.toNat, by omega⟩
    have hk32 : k ≤ 4294967295 := uint_le g5
    have hux0 : unixO body = if (decide (k ≤ 16) && (endR (grpR m5 f5 k).2.1 (grpR m5 f5 k).2.2 == 0)) = true then some (st, m, uid, gid, (grpR m5 f5 k).1) else none := by
      unfold unixO
      simp only [g1, g2, g3, g4, g5, Int.toNat_natCast]
    have HU0 := Lib.hid hux0
    have G1 := Lib.hid g1
    have G2 := Lib.hid g2
    have G3 := Lib.hid g3
    have G4 := Lib.hid g4
    have G5 := Lib.hid g5
    clear g1 g2 g3 g4 g5 hux0 hkn HTK5 hux
    have hq2 := HS8.out.lt
    go_wp2_with fail
    clear f4 c4 er HQ8
    have hsz : (w8.setCell ⟨w.heap.size + 2, 4, none⟩ (.bool true)).heap.size = w8.heap.size := by simp [World.setCell]
    generalize (w8.setCell ⟨w.heap.size + 2, 4, none⟩ (.bool true)) = W8 at *
    have hR0 := RL.new W8 body hbs
    rw [hsz] at hR0 hq2
    have hS9 := HS8.out.below ((Below.refl W8.heap.size W8).alloc (Nat.le_refl _) (.cells #[.string body, .int .i64 0, .int .i64 0] 83))
    have HS9 := Lib.hid hS9
    clear hS9 HS8
    generalize (W8.alloc (.cells #[.string body, .int .i64 0, .int .i64 0] 83)) = W9 at *
    have hq3 : w.heap.size + 3 ≤ w8.heap.size := by omega
    refine (ruint4_n w8.heap.size body _ _ _ hR0 st m1 f1 G1.out).mono ?_
    rintro r wa ⟨rfl, hR, hO⟩
    have HQa := Lib.hid (HS9.out.far hq3 hO)
    have HRa := Lib.hid hR
    clear hR hO HS9 hR0
    have ff := HQa.out.x.free 5
    have cf := HQa.out.x.at 5
    simp only [List.getElem?_toArray, List.getElem?_cons_zero, List.getElem?_cons_succ] at cf
    have HSa := Lib.hid (HQa.out.set (cs' := #[.int .i64 xid, .int .i64 prog, .int .i64 vers, .int .i64 proc, .bool true, .int .i64 st, .string ⟨#[]⟩, .int .i64 0, .int .i64 0, .slice none 0 0, .string ⟨#[]⟩]) 5 (.int .i64 st) rfl)
    have HTa := Lib.hid (HRa.out.only (w' := wa.setCell ⟨w.heap.size + 2, 5, none⟩ (.int .i64 st)) (by omega) ((Only.refl _ _).set 5 _))
    clear HQa HRa
    go_wp2_with fail
    clear ff cf
    generalize (wa.setCell ⟨w.heap.size + 2, 5, none⟩ (.int .i64 st)) = Wa at *
    refine (refMost_n w8.heap.size body _ _ 255 _ HTa.out m m2 f2 G2.out).mono ?_
    rintro r wb ⟨rfl, hR, hO⟩
    have HQb := Lib.hid (HSa.out.far hq3 hO)
    have HRb := Lib.hid hR
    clear hR hO HSa HTa
    have ff := HQb.out.x.free 6
    have cf := HQb.out.x.at 6
    simp only [List.getElem?_toArray, List.getElem?_cons_zero, List.getElem?_cons_succ] at cf
    have HSb := Lib.hid (HQb.out.set (cs' := #[.int .i64 xid, .int .i64 prog, .int .i64 vers, .int .i64 proc, .bool true, .int .i64 st, .string m, .int .i64 0, .int .i64 0, .slice none 0 0, .string ⟨#[]⟩]) 6 (.string m) rfl)
    have HTb := Lib.hid (HRb.out.only (w' := wb.setCell ⟨w.heap.size + 2, 6, none⟩ (.string m)) (by omega) ((Only.refl _ _).set 6 _))
    clear HQb HRb
    go_wp2_with fail
    clear ff cf
    generalize (wb.setCell ⟨w.heap.size + 2, 6, none⟩ (.string m)) = Wb at *
    refine (ruint4_n w8.heap.size body _ _ _ HTb.out uid m3 f3 G3.out).mono ?_
    rintro r wc ⟨rfl, hR, hO⟩
    have HQc := Lib.hid (HSb.out.far hq3 hO)
    have HRc := Lib.hid hR
    clear hR hO HSb HTb
    have ff := HQc.out.x.free 7
    have cf := HQc.out.x.at 7
    simp only [List.getElem?_toArray, List.getElem?_cons_zero, List.getElem?_cons_succ] at cf
    have HSc := Lib.hid (HQc.out.set (cs' := #[.int .i64 xid, .int .i64 prog, .int .i64 vers, .int .i64 proc, .bool true, .int .i64 st, .string m, .int .i64 uid, .int .i64 0, .slice none 0 0, .string ⟨#[]⟩]) 7 (.int .i64 uid) rfl)
    have HTc := Lib.hid (HRc.out.only (w' := wc.setCell ⟨w.heap.size + 2, 7, none⟩ (.int .i64 uid)) (by omega) ((Only.refl _ _).set 7 _))
    clear HQc HRc
    go_wp2_with fail
    clear ff cf
    generalize (wc.setCell ⟨w.heap.size + 2, 7, none⟩ (.int .i64 uid)) = Wc at *
    refine (ruint4_n w8.heap.size body _ _ _ HTc.out gid m4 f4' G4.out).mono ?_
    rintro r wd ⟨rfl, hR, hO⟩
    have HQd := Lib.hid (HSc.out.far hq3 hO)
    have HRd := Lib.hid hR
    clear hR hO HSc HTc
    have ff := HQd.out.x.free 8
    have cf := HQd.out.x.at 8
    simp only [List.getElem?_toArray, List.getElem?_cons_zero, List.getElem?_cons_succ] at cf
    have HSd := Lib.hid (HQd.out.set (cs' := #[.int .i64 xid, .int .i64 prog, .int .i64 vers, .int .i64 proc, .bool true, .int .i64 st, .string m, .int .i64 uid, .int .i64 gid, .slice none 0 0, .string ⟨#[]⟩]) 8 (.int .i64 gid) rfl)
    have HTd := Lib.hid (HRd.out.only (w' := wd.setCell ⟨w.heap.size + 2, 8, none⟩ (.int .i64 gid)) (by omega) ((Only.refl _ _).set 8 _))
    clear HQd HRd
    go_wp2_with fail
    clear ff cf
    generalize (wd.setCell ⟨w.heap.size + 2, 8, none⟩ (.int .i64 gid)) = Wd at *
    refine (ruint4_n w8.heap.size body _ _ _ HTd.out (k : Int) m5 f5 G5.out).mono ?_
    rintro r we ⟨rfl, hR, hO⟩
    have HQe := Lib.hid (HSd.out.far hq3 hO)
    have HRe := Lib.hid hR
    clear hR hO HSd HTd
    obtain ⟨i3, hi3, hz30, hz31, hz32⟩ := info_parts info3
    go_wp2_with fail
    go_loopw [13] (fun z wr => ∃ (i : Nat) (vg : Value), i ≤ k ∧ i ≤ 17 ∧ z = .int .i64 i ∧ Gq w s l8 0 #[.int .i64 xid, .int .i64 prog, .int .i64 vers, .int .i64 proc, .bool true, .int .i64 st, .string m, .int .i64 uid, .int .i64 gid, vg, .string ⟨#[]⟩] wr ∧ RL wr w8.heap.size body (grpR m5 f5 i).2.1 (grpR m5 f5 i).2.2 ∧ wr.ownsRow 0 3 1 vg i (ints (grpR m5 f5 i).1) ∧ ∀ g, vg.ownBlock = some g → w.heap.size + 3 ≤ g ∧ g ≠ w8.heap.size) (fun z _ => 17 - (intOf z).toNat)
    case atStart => exact ⟨0, .slice none 0 0, by omega, by omega, rfl, HQe.out, HRe.out, World.ownsRow_nil _ _ _ _, by intro g hg; simp [Value.ownBlock] at hg⟩
    case round =>
      obtain ⟨i, vg, hik, hi17, rfl, hQ, hRL, hown, hv⟩ := hrel
      have HR := Lib.hid hRL
      have HC := Lib.hid hQ
      have HO := Lib.hid hown
      have HV := Lib.hid hv
      have g9 := hQ.x.at 9
      simp only [List.getElem?_toArray, List.getElem?_cons_zero, List.getElem?_cons_succ] at g9
      have gf := hQ.x.free 9
      have hqw := hQ.lt
      have hqv : some (w.heap.size + 2) ≠ vg.ownBlock := by intro e; have := (hv _ e.symm).1; omega
      have hqp : w.heap.size + 2 ≠ w8.heap.size := by omega
      have hpr : w8.heap.size < wr.heap.size := by obtain ⟨a, h, _⟩ := hRL; exact (Array.getElem?_eq_some_iff.1 h.blk).1
      clear hQ hRL hown hv HQe HRe
      by_cases hlt : i < k ∧ i < 17
      · have d1 : decide ((i : Int) < (k : Int)) = true := decide_eq_true (by omega)
        have d2 : decide ((i : Int) < 17) = true := decide_eq_true (by omega)
        obtain ⟨n, l', e', hn⟩ : ∃ n l' e', numR 4 (grpR m5 f5 i).2.1 (grpR m5 f5 i).2.2 = (n, l', e') := ⟨_, _, _, rfl⟩
        have HG : Hid (grpR m5 f5 (i + 1) = ((grpR m5 f5 i).1 ++ [n], l', e')) := Lib.hid (by show (_, _, _) = _; rw [hn])
        have HN := Lib.hid hn
        clear hn
        obtain ⟨M, hM⟩ : ∃ M, M = (grpR m5 f5 i).1 := ⟨_, rfl⟩
        obtain ⟨la, hla⟩ : ∃ la, la = (grpR m5 f5 i).2.1 := ⟨_, rfl⟩
        obtain ⟨ea, hea⟩ : ∃ ea, ea = (grpR m5 f5 i).2.2 := ⟨_, rfl⟩
        rw [← hM] at HO HG
        rw [← hla, ← hea] at HR HN
        clear hM hla hea
        go_wp2_with fail
        go_region_law (first
          | (refine step_append_lies _ (by rfl) _ _ _ (by rfl) 0 3 i3 _ 1 8 Try.underlying23 hi3 hz30 hz31 hz32 rfl (by omega) vg _ _ (by rfl) ((ownsRow_of HO.out (fun g hg => hO3.block g (HV.out g hg).2)).alloc _)
              ⟨w3.heap.size, 0, none⟩ 1 1 [.int .i64 n] (by rfl) (by rfl) (World.news_of_block (cs := #[.int .i64 n]) (t := 3) (fr := (0, 0)) (heap_alloc_new w3 _)) (by simp [Value.oneCell'])
              (by omega) (by unfold maxLen; omega) (by omega) (by simp) (w3.heap.size + 1) (by simp) ?_; intro g cap w6 hown1 hgrow hat hglt; have hfw : w6.frozen? ⟨w.heap.size + 2, 9, none⟩ = false := (hgrow.frozen_far _ (by simp; omega) hqv).trans ((World.frozen?_alloc_past _ _ _ kl3).trans kf3); have hcw : w6.cell? ⟨w.heap.size + 2, 9, none⟩ = some vg := (hgrow.cell_far _ (by simp; omega) hqv).trans ((World.cell?_alloc_past _ _ _ kl3).trans kc3))
          | (go_simp; go_at_call 36; refine (ruint4_n w8.heap.size body la ea _ (by exact HR.out.drew) n l' e' HN.out).mono ?_; rintro r w3 ⟨rfl, hR3, hO3d⟩; have hO3 : Only w8.heap.size wr w3 := Only.undrew hO3d; clear hO3d; have kc3 : w3.cell? ⟨w.heap.size + 2, 9, none⟩ = some vg := (World.cell?_of_block (a := ⟨w.heap.size + 2, 9, none⟩) (hO3.block _ hqp)).trans g9; have kf3 : w3.frozen? ⟨w.heap.size + 2, 9, none⟩ = false := (World.frozen?_of_block (a := ⟨w.heap.size + 2, 9, none⟩) (hO3.block _ hqp)).trans gf; have kl3 : w.heap.size + 2 < w3.heap.size := by (rw [hO3.size]; exact hqw)))
        all_goals
          have hs3 : w3.heap.size = wr.heap.size := hO3.size
          have hblk : ∀ j, j < wr.heap.size → j ≠ w8.heap.size → some j ≠ vg.ownBlock → w6.heap[j]? = wr.heap[j]? := fun j hj hjp hjv =>
            (hgrow.block j (by simp; omega) hjv).trans (((World.grownBy_alloc w3 _ none).block j (by omega) (by simp)).trans (hO3.block j hjp))
          have hvn : ∀ j, j < w.heap.size + 3 → some j ≠ vg.ownBlock := fun j hj e => by have := (HV.out j e.symm).1; omega
          have hQ6 : Gq w s l8 0 #[.int .i64 xid, .int .i64 prog, .int .i64 vers, .int .i64 proc, .bool true, .int .i64 st, .string m, .int .i64 uid, .int .i64 gid, vg, .string ⟨#[]⟩] w6 := by
            have hc := HC.out
            refine ⟨hc.rd.kept (hblk _ (by omega) (by omega) (hvn _ (by omega))), (hblk _ (by omega) (by omega) (hvn _ (by omega))).trans hc.a, (hblk _ (by omega) (by omega) (hvn _ (by omega))).trans hc.x, ?_⟩
            refine ⟨hgrow.os.trans (hO3.os.trans hc.low.os), hgrow.tape.trans (hO3.tape.trans hc.low.tape), hgrow.output.trans (hO3.output.trans hc.low.output), ?_, fun j hj => (hblk j (by omega) (by omega) (hvn j (by omega))).trans (hc.low.block j hj)⟩
            have h1 := hgrow.size
            simp at h1
            omega
          have hR6 : RL w6 w8.heap.size body l' e' := (hR3.below ((Below.refl _ _).alloc (Nat.le_refl _) (.cells #[.int .i64 n] 3))).kept (hgrow.block _ (by simp; omega) (fun e => by have := (HV.out _ e.symm).2; omega))
          have hgq : g ≠ w.heap.size + 2 := by
            rcases hat with e | e
            · intro e2; exact hqv (by rw [e, e2])
            · omega
          have HQ7 := Lib.hid (hQ6.set (cs' := #[.int .i64 xid, .int .i64 prog, .int .i64 vers, .int .i64 proc, .bool true, .int .i64 st, .string m, .int .i64 uid, .int .i64 gid, .slice (some ⟨g, 0, none⟩) (i + 1) cap, .string ⟨#[]⟩]) 9 (.slice (some ⟨g, 0, none⟩) (i + 1) cap) rfl)
          have HR7 := Lib.hid (hR6.only (w' := w6.setCell ⟨w.heap.size + 2, 9, none⟩ (.slice (some ⟨g, 0, none⟩) (i + 1) cap)) (by omega) ((Only.refl _ _).set 9 _))
          have HO7 : Hid ((w6.setCell ⟨w.heap.size + 2, 9, none⟩ (.slice (some ⟨g, 0, none⟩) (i + 1) cap)).ownsRow 0 3 1 (.slice (some ⟨g, 0, none⟩) (i + 1) cap) (i + 1) (ints (M ++ [n]))) := Lib.hid (by
            rw [show ints (M ++ [n]) = ints M ++ [.int .i64 n] from by simp [ints]]
            refine ownsRow_of hown1 fun x hx => Below.heap_setCell _ _ _ _ ?_
            have : g = x := by simpa [Value.ownBlock] using hx
            rw [← this]; exact hgq)
          have HV7 : Hid (∀ x, Value.ownBlock (.slice (some ⟨g, 0, none⟩) (i + 1) cap) = some x → w.heap.size + 3 ≤ x ∧ x ≠ w8.heap.size) := Lib.hid (by
            intro x hx
            have ex : g = x := by simpa [Value.ownBlock] using hx
            rw [← ex]
            rcases hat with e | e
            · exact HV.out g e
            · exact ⟨by omega, by omega⟩)
          clear hown1 hgrow hat hglt hfw hcw hR3 hO3 kc3 kf3 kl3 hblk hvn hQ6 hR6 hgq g9 gf hs3
          go_wp2
          refine ⟨⟨i + 1, _, by omega, by omega, by go_num, HQ7.out, by rw [HG.out]; exact HR7.out, by rw [HG.out]; exact HO7.out, HV7.out⟩, by simp [intOf]; omega⟩
      · have hgl := (grpR_len m5 f5 k).1
        obtain ⟨vo, va, vc, rfl⟩ := owned_slice HO.out
        by_cases hk16 : 16 < k
        · have d3 : decide ((16 : Int) < (k : Int)) = true := decide_eq_true (by omega)
          by_cases hik2 : i < k
          · have d1 : decide ((i : Int) < (k : Int)) = true := decide_eq_true (by omega)
            have d2 : decide ((i : Int) < 17) = false := decide_eq_false (by omega)
            have HGE : Hid (getO s = .ref xid 7 1 0) := Lib.hid (by rw [HGET2.out, HTK6.out, HU0.out, if_neg (by simp; omega)])
            go_wp2_with fail
            refine (refuse37 xid 7 1 0 _).mono ?_
            rintro r wz ⟨rfl, hBz⟩
            have hZ := HC.out.below hBz
            have y0 := hZ.a.at 0
            have y1 := hZ.a.at 1
            have y2 := hZ.a.at 2
            have y3 := hZ.a.at 3
            have y4 := hZ.a.at 4
            have y5 := hZ.a.at 5
            have y6 := hZ.a.at 6
            have y7 := hZ.a.at 7
            have y8 := hZ.a.at 8
            have y9 := hZ.a.at 9
            have y10 := hZ.a.at 10
            have k0 := hZ.a.free 0
            have k1 := hZ.a.free 1
            have k2 := hZ.a.free 2
            have k3 := hZ.a.free 3
            have k4 := hZ.a.free 4
            have k5 := hZ.a.free 5
            have k6 := hZ.a.free 6
            have k7 := hZ.a.free 7
            have k8 := hZ.a.free 8
            have k9 := hZ.a.free 9
            have k10 := hZ.a.free 10
            simp only [List.getElem?_toArray, List.getElem?_cons_zero, List.getElem?_cons_succ] at y0 y1 y2 y3 y4 y5 y6 y7 y8 y9 y10
            have HZ := Lib.hid hZ
            clear hZ hBz
            go_wp2
            obtain ⟨q1, q2⟩ := lay11z HZ.out.a rfl 0 0 0 0 false 0 ⟨#[]⟩ 0 0 (.slice none 0 0) ⟨#[]⟩ _ rfl
            refine bodyPost_ret (results_row_tmp2 rfl _ _ w.heap.size 32 _ (0, 0) _ rfl q1 Try.underlying32 rfl (by kernel_rfl)) rfl ?_
            rw [HGE.out]
            exact ⟨rfl, HZ.out.low.trans (q2.below (Nat.le_refl _))⟩
          · have d1 : decide ((i : Int) < (k : Int)) = false := decide_eq_false (by omega)
            have HGE : Hid (getO s = .ref xid 7 1 0) := Lib.hid (by rw [HGET2.out, HTK6.out, HU0.out, if_neg (by simp; omega)])
            go_wp2_with fail
            refine (refuse37 xid 7 1 0 _).mono ?_
            rintro r wz ⟨rfl, hBz⟩
            have hZ := HC.out.below hBz
            have y0 := hZ.a.at 0
            have y1 := hZ.a.at 1
            have y2 := hZ.a.at 2
            have y3 := hZ.a.at 3
            have y4 := hZ.a.at 4
            have y5 := hZ.a.at 5
            have y6 := hZ.a.at 6
            have y7 := hZ.a.at 7
            have y8 := hZ.a.at 8
            have y9 := hZ.a.at 9
            have y10 := hZ.a.at 10
            have k0 := hZ.a.free 0
            have k1 := hZ.a.free 1
            have k2 := hZ.a.free 2
            have k3 := hZ.a.free 3
            have k4 := hZ.a.free 4
            have k5 := hZ.a.free 5
            have k6 := hZ.a.free 6
            have k7 := hZ.a.free 7
            have k8 := hZ.a.free 8
            have k9 := hZ.a.free 9
            have k10 := hZ.a.free 10
            simp only [List.getElem?_toArray, List.getElem?_cons_zero, List.getElem?_cons_succ] at y0 y1 y2 y3 y4 y5 y6 y7 y8 y9 y10
            have HZ := Lib.hid hZ
            clear hZ hBz
            go_wp2
            obtain ⟨q1, q2⟩ := lay11z HZ.out.a rfl 0 0 0 0 false 0 ⟨#[]⟩ 0 0 (.slice none 0 0) ⟨#[]⟩ _ rfl
            refine bodyPost_ret (results_row_tmp2 rfl _ _ w.heap.size 32 _ (0, 0) _ rfl q1 Try.underlying32 rfl (by kernel_rfl)) rfl ?_
            rw [HGE.out]
            exact ⟨rfl, HZ.out.low.trans (q2.below (Nat.le_refl _))⟩
        have hik3 : i = k := by omega
        subst hik3
        have d1 : decide ((i : Int) < (i : Int)) = false := decide_eq_false (by omega)
        have d3 : decide ((16 : Int) < (i : Int)) = false := decide_eq_false (by omega)
        go_wp2_with fail
        refine (refEnd_any w8.heap.size body _ _ wr HR.out).mono ?_
        rintro r we ⟨rfl, dn, rfl⟩
        have HCd := Lib.hid (HC.out.drewN dn)
        generalize hE : endR (grpR m5 f5 i).2.1 (grpR m5 f5 i).2.2 = E at *
        have HE := Lib.hid hE
        clear hE
        by_cases hE0 : E ≠ 0
        · have hbE : (E != 0) = true := by simpa using hE0
          have HGE : Hid (getO s = .ref xid 7 1 0) := Lib.hid (by rw [HGET2.out, HTK6.out, HU0.out, if_neg (by simp [hE0])])
          go_wp2_with fail
          refine (refuse37 xid 7 1 0 _).mono ?_
          rintro r wz ⟨rfl, hBz⟩
          have hZ := HCd.out.below hBz
          have y0 := hZ.a.at 0
          have y1 := hZ.a.at 1
          have y2 := hZ.a.at 2
          have y3 := hZ.a.at 3
          have y4 := hZ.a.at 4
          have y5 := hZ.a.at 5
          have y6 := hZ.a.at 6
          have y7 := hZ.a.at 7
          have y8 := hZ.a.at 8
          have y9 := hZ.a.at 9
          have y10 := hZ.a.at 10
          have k0 := hZ.a.free 0
          have k1 := hZ.a.free 1
          have k2 := hZ.a.free 2
          have k3 := hZ.a.free 3
          have k4 := hZ.a.free 4
          have k5 := hZ.a.free 5
          have k6 := hZ.a.free 6
          have k7 := hZ.a.free 7
          have k8 := hZ.a.free 8
          have k9 := hZ.a.free 9
          have k10 := hZ.a.free 10
          simp only [List.getElem?_toArray, List.getElem?_cons_zero, List.getElem?_cons_succ] at y0 y1 y2 y3 y4 y5 y6 y7 y8 y9 y10
          have HZ := Lib.hid hZ
          clear hZ hBz
          go_wp2
          obtain ⟨q1, q2⟩ := lay11z HZ.out.a rfl 0 0 0 0 false 0 ⟨#[]⟩ 0 0 (.slice none 0 0) ⟨#[]⟩ _ rfl
          refine bodyPost_ret (results_row_tmp2 rfl _ _ w.heap.size 32 _ (0, 0) _ rfl q1 Try.underlying32 rfl (by kernel_rfl)) rfl ?_
          rw [HGE.out]
          exact ⟨rfl, HZ.out.low.trans (q2.below (Nat.le_refl _))⟩
        have hE1 : E = 0 := by omega
        subst hE1
        replace HTK6 : Hid (takeO l2 = tailO l8 0 (.ok prog vers proc true st m uid gid (grpR m5 f5 i).1)) := Lib.hid (by rw [HTK6.out, HU0.out, if_pos (by simp; omega)])
        have HOWN : Hid ((wr.drewN dn).ownsRow 0 3 1 (.slice vo va vc) (grpR m5 f5 i).1.length (ints (grpR m5 f5 i).1)) := Lib.hid (by rw [hgl]; exact ownsRow_of HO.out (fun _ _ => rfl))
        have HVG : Hid (∀ g, Value.ownBlock (.slice vo va vc) = some g → w.heap.size + 3 ≤ g) := Lib.hid (fun g hg => (HV.out g hg).1)
        go_wp2_with fail
        clear HC HO HV HR g9 gf
        generalize (grpR m5 f5 i).1 = GL at *
        generalize (wr.drewN dn) = wrd at *
        refine (ruint4_n (w.heap.size + 1) s _ _ _ HCd.out.rd fl2 l9 e9 H9.out).mono ?_
        rintro r w9 ⟨rfl, hR, hO⟩
        have HQ9 := Lib.hid (HCd.out.only hO hR)
        have HOWN9 := Lib.hid (ownsRow_of HOWN.out (fun g hg => hO.block g (by have := HVG.out g hg; omega)))
        clear hR hO HCd HOWN
        go_wp2_with fail
        refine (refMost_n (w.heap.size + 1) s _ _ 400 _ HQ9.out.rd b2 l10 e10 H10.out).mono ?_
        rintro r w10 ⟨rfl, hR, hO⟩
        have HQ10 := Lib.hid (HQ9.out.only hO hR)
        have HOWN10 := Lib.hid (ownsRow_of HOWN9.out (fun g hg => hO.block g (by have := HVG.out g hg; omega)))
        clear hR hO HQ9 HOWN9
        have er := HQ10.out.rd.err
        obtain ⟨at', hat, hatl, hl10⟩ := HQ10.out.rd.place
        have hlen : l10.length = s.size - at' := by rw [hl10, List.length_drop]; simp
        have HL10 := Lib.hid hl10
        clear hl10
        by_cases g1 : e10 ≠ 0
        · have hb1 : (e10 != 0) = true := by simpa using g1
          have HGE : Hid (getO s = .ref xid 7 3 0) := Lib.hid (by rw [HGET2.out, HTK6.out, HTL.out, if_pos (.inl g1)])
          go_wp2_with fail
          refine (refuse37 xid 7 3 0 _).mono ?_
          rintro r wz ⟨rfl, hBz⟩
          have hZ := HQ10.out.below hBz
          have y0 := hZ.a.at 0
          have y1 := hZ.a.at 1
          have y2 := hZ.a.at 2
          have y3 := hZ.a.at 3
          have y4 := hZ.a.at 4
          have y5 := hZ.a.at 5
          have y6 := hZ.a.at 6
          have y7 := hZ.a.at 7
          have y8 := hZ.a.at 8
          have y9 := hZ.a.at 9
          have y10 := hZ.a.at 10
          have k0 := hZ.a.free 0
          have k1 := hZ.a.free 1
          have k2 := hZ.a.free 2
          have k3 := hZ.a.free 3
          have k4 := hZ.a.free 4
          have k5 := hZ.a.free 5
          have k6 := hZ.a.free 6
          have k7 := hZ.a.free 7
          have k8 := hZ.a.free 8
          have k9 := hZ.a.free 9
          have k10 := hZ.a.free 10
          simp only [List.getElem?_toArray, List.getElem?_cons_zero, List.getElem?_cons_succ] at y0 y1 y2 y3 y4 y5 y6 y7 y8 y9 y10
          have HZ := Lib.hid hZ
          clear hZ hBz
          go_wp2
          obtain ⟨q1, q2⟩ := lay11z HZ.out.a rfl 0 0 0 0 false 0 ⟨#[]⟩ 0 0 (.slice none 0 0) ⟨#[]⟩ _ rfl
          refine bodyPost_ret (results_row_tmp2 rfl _ _ w.heap.size 32 _ (0, 0) _ rfl q1 Try.underlying32 rfl (by kernel_rfl)) rfl ?_
          rw [HGE.out]
          exact ⟨rfl, HZ.out.low.trans (q2.below (Nat.le_refl _))⟩
        have g10 : e10 = 0 := by omega
        subst g10
        clear g1
        by_cases g2 : fl2 ≠ 0
        · have hb2 : (fl2 != 0) = true := by simpa using g2
          have HGE : Hid (getO s = .ref xid 7 3 0) := Lib.hid (by rw [HGET2.out, HTK6.out, HTL.out, if_pos (.inr (.inl g2))])
          go_wp2_with fail
          refine (refuse37 xid 7 3 0 _).mono ?_
          rintro r wz ⟨rfl, hBz⟩
          have hZ := HQ10.out.below hBz
          have y0 := hZ.a.at 0
          have y1 := hZ.a.at 1
          have y2 := hZ.a.at 2
          have y3 := hZ.a.at 3
          have y4 := hZ.a.at 4
          have y5 := hZ.a.at 5
          have y6 := hZ.a.at 6
          have y7 := hZ.a.at 7
          have y8 := hZ.a.at 8
          have y9 := hZ.a.at 9
          have y10 := hZ.a.at 10
          have k0 := hZ.a.free 0
          have k1 := hZ.a.free 1
          have k2 := hZ.a.free 2
          have k3 := hZ.a.free 3
          have k4 := hZ.a.free 4
          have k5 := hZ.a.free 5
          have k6 := hZ.a.free 6
          have k7 := hZ.a.free 7
          have k8 := hZ.a.free 8
          have k9 := hZ.a.free 9
          have k10 := hZ.a.free 10
          simp only [List.getElem?_toArray, List.getElem?_cons_zero, List.getElem?_cons_succ] at y0 y1 y2 y3 y4 y5 y6 y7 y8 y9 y10
          have HZ := Lib.hid hZ
          clear hZ hBz
          go_wp2
          obtain ⟨q1, q2⟩ := lay11z HZ.out.a rfl 0 0 0 0 false 0 ⟨#[]⟩ 0 0 (.slice none 0 0) ⟨#[]⟩ _ rfl
          refine bodyPost_ret (results_row_tmp2 rfl _ _ w.heap.size 32 _ (0, 0) _ rfl q1 Try.underlying32 rfl (by kernel_rfl)) rfl ?_
          rw [HGE.out]
          exact ⟨rfl, HZ.out.low.trans (q2.below (Nat.le_refl _))⟩
        have g20 : fl2 = 0 := by omega
        subst g20
        clear g2
        cases g3 : b2.toList.isEmpty with
        | false =>
          have hne : b2.toList ≠ [] := by intro h; rw [h] at g3; cases g3
          have hbq : (b2.toList == []) = false := by simpa using hne
          have hbn : (b2.toList != []) = true := by simpa using hne
          clear hne
          have HGE : Hid (getO s = .ref xid 7 3 0) := Lib.hid (by rw [HGET2.out, HTK6.out, HTL.out, if_pos (.inr (.inr (.inl g3)))])
          go_wp2_with fail
          refine (refuse37 xid 7 3 0 _).mono ?_
          rintro r wz ⟨rfl, hBz⟩
          have hZ := HQ10.out.below hBz
          have y0 := hZ.a.at 0
          have y1 := hZ.a.at 1
          have y2 := hZ.a.at 2
          have y3 := hZ.a.at 3
          have y4 := hZ.a.at 4
          have y5 := hZ.a.at 5
          have y6 := hZ.a.at 6
          have y7 := hZ.a.at 7
          have y8 := hZ.a.at 8
          have y9 := hZ.a.at 9
          have y10 := hZ.a.at 10
          have k0 := hZ.a.free 0
          have k1 := hZ.a.free 1
          have k2 := hZ.a.free 2
          have k3 := hZ.a.free 3
          have k4 := hZ.a.free 4
          have k5 := hZ.a.free 5
          have k6 := hZ.a.free 6
          have k7 := hZ.a.free 7
          have k8 := hZ.a.free 8
          have k9 := hZ.a.free 9
          have k10 := hZ.a.free 10
          simp only [List.getElem?_toArray, List.getElem?_cons_zero, List.getElem?_cons_succ] at y0 y1 y2 y3 y4 y5 y6 y7 y8 y9 y10
          have HZ := Lib.hid hZ
          clear hZ hBz
          go_wp2
          obtain ⟨q1, q2⟩ := lay11z HZ.out.a rfl 0 0 0 0 false 0 ⟨#[]⟩ 0 0 (.slice none 0 0) ⟨#[]⟩ _ rfl
          refine bodyPost_ret (results_row_tmp2 rfl _ _ w.heap.size 32 _ (0, 0) _ rfl q1 Try.underlying32 rfl (by kernel_rfl)) rfl ?_
          rw [HGE.out]
          exact ⟨rfl, HZ.out.low.trans (q2.below (Nat.le_refl _))⟩
        | true =>
          have hb0 := bytes_nil0 g3
          subst hb0
          have hsub : (s.size : Int) - (at' : Int) = ((s.size - at' : Nat) : Int) := by omega
          by_cases g4 : l10.length % 4 ≠ 0
          · have hm : (((s.size - at' : Nat) : Int) % 4 != 0) = true := by simp; omega
            have HGE : Hid (getO s = .ref xid 7 3 0) := Lib.hid (by rw [HGET2.out, HTK6.out, HTL.out, if_pos (.inr (.inr (.inr g4)))])
            go_wp2_with fail
            refine (refuse37 xid 7 3 0 _).mono ?_
            rintro r wz ⟨rfl, hBz⟩
            have hZ := HQ10.out.below hBz
            have y0 := hZ.a.at 0
            have y1 := hZ.a.at 1
            have y2 := hZ.a.at 2
            have y3 := hZ.a.at 3
            have y4 := hZ.a.at 4
            have y5 := hZ.a.at 5
            have y6 := hZ.a.at 6
            have y7 := hZ.a.at 7
            have y8 := hZ.a.at 8
            have y9 := hZ.a.at 9
            have y10 := hZ.a.at 10
            have k0 := hZ.a.free 0
            have k1 := hZ.a.free 1
            have k2 := hZ.a.free 2
            have k3 := hZ.a.free 3
            have k4 := hZ.a.free 4
            have k5 := hZ.a.free 5
            have k6 := hZ.a.free 6
            have k7 := hZ.a.free 7
            have k8 := hZ.a.free 8
            have k9 := hZ.a.free 9
            have k10 := hZ.a.free 10
            simp only [List.getElem?_toArray, List.getElem?_cons_zero, List.getElem?_cons_succ] at y0 y1 y2 y3 y4 y5 y6 y7 y8 y9 y10
            have HZ := Lib.hid hZ
            clear hZ hBz
            go_wp2
            obtain ⟨q1, q2⟩ := lay11z HZ.out.a rfl 0 0 0 0 false 0 ⟨#[]⟩ 0 0 (.slice none 0 0) ⟨#[]⟩ _ rfl
            refine bodyPost_ret (results_row_tmp2 rfl _ _ w.heap.size 32 _ (0, 0) _ rfl q1 Try.underlying32 rfl (by kernel_rfl)) rfl ?_
            rw [HGE.out]
            exact ⟨rfl, HZ.out.low.trans (q2.below (Nat.le_refl _))⟩
          have hm : (((s.size - at' : Nat) : Int) % 4 != 0) = false := by simp; omega
          have HGE : Hid (getO s = .ok xid prog vers proc true st m uid gid GL ⟨l10.toArray⟩) := Lib.hid (by rw [HGET2.out, HTK6.out, HTL.out, if_neg (by rw [g3]; simp; omega)])
          have f10 := HQ10.out.x.free 10
          have hX := HQ10.out.x
          have hA := HQ10.out.a
          have c0 := hX.at 0
          have c1 := hX.at 1
          have c2 := hX.at 2
          have c3 := hX.at 3
          have c4 := hX.at 4
          have c5 := hX.at 5
          have c6 := hX.at 6
          have c7 := hX.at 7
          have c8 := hX.at 8
          have c9 := hX.at 9
          have c10 := hX.at 10
          have y0 := hA.at 0
          have y1 := hA.at 1
          have y2 := hA.at 2
          have y3 := hA.at 3
          have y4 := hA.at 4
          have y5 := hA.at 5
          have y6 := hA.at 6
          have y7 := hA.at 7
          have y8 := hA.at 8
          have y9 := hA.at 9
          have y10 := hA.at 10
          have k0 := hA.free 0
          have k1 := hA.free 1
          have k2 := hA.free 2
          have k3 := hA.free 3
          have k4 := hA.free 4
          have k5 := hA.free 5
          have k6 := hA.free 6
          have k7 := hA.free 7
          have k8 := hA.free 8
          have k9 := hA.free 9
          have k10 := hA.free 10
          simp only [List.getElem?_toArray, List.getElem?_cons_zero, List.getElem?_cons_succ] at c0 c1 c2 c3 c4 c5 c6 c7 c8 c9 c10
          simp only [List.getElem?_toArray, List.getElem?_cons_zero, List.getElem?_cons_succ] at y0 y1 y2 y3 y4 y5 y6 y7 y8 y9 y10
          clear hX hA
          have hS := HQ10.out.set (cs' := #[.int .i64 xid, .int .i64 prog, .int .i64 vers, .int .i64 proc, .bool true, .int .i64 st, .string m, .int .i64 uid, .int .i64 gid, .slice vo va vc, .string (s.extract at' s.size)]) 10 (.string (s.extract at' s.size)) rfl
          have HS := Lib.hid hS
          have HOS := Lib.hid (ownsRow_of (w' := w10.setCell ⟨w.heap.size + 2, 10, none⟩ (.string (s.extract at' s.size))) HOWN10.out (fun g hg => Below.heap_setCell _ _ _ _ (by have := HVG.out g hg; show g ≠ w.heap.size + 2; omega)))
          clear hS
          have hne2 : w.heap.size + 2 ≠ w.heap.size := by omega
          go_wp2
          obtain ⟨q1, q2⟩ := lay11z HS.out.a rfl xid prog vers proc true st m uid gid (.slice vo va vc) (s.extract at' s.size) _ rfl
          refine bodyPost_ret (results_row_tmp2 rfl _ _ w.heap.size 32 _ (0, 0) _ rfl q1 Try.underlying32 rfl (by kernel_rfl)) rfl ?_
          rw [HGE.out]
          refine ⟨_, by rw [ext_drop, ← HL10.out]; rfl, ownsRow_of HOS.out (fun g hg => q2.block g (by have := HVG.out g hg; omega)), HS.out.low.trans (q2.below (Nat.le_refl _))⟩
end Go.Proofs.Ytkbjimbnbocfpaa
