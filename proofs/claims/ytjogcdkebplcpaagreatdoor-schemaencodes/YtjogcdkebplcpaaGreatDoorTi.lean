/-
  The taker's times, as long as the row in it is told. Its condition: there is room.
-/
import Derived.Test.YtjogcdkebplcpaaGreatDoorTn
namespace Go.Proofs.YtjogcdkebplcpaaGreatDoor
open Go.RowKit Sch
/-- What the taker's row is to do. -/
def RowT (r : Row) : Prop := ∀ (B0 p q : Nat) (N : List Int) (T : List ByteArray) (l : List UInt8) (v : Value) (w : World), SlR w (Lo B0) 92 4 v r → TkS B0 p q N T l 0 w → l.length ≤ 65536 → N.length + T.length + r.sz * (l.length / 4 + 1) ≤ 1000000000 →
  Calls Tryz.prog 24 #[.pointer (some ⟨p, 0, none⟩), v] w (TkTo B0 p q N T w (tk none r l))
theorem owns_set {w : World} {B e g n cap : Nat} {xs : List Value} (h : w.ownsRow B e 1 (.slice (some ⟨g, 0, none⟩) n cap) n xs) (i : Nat) (u : Value) : (w.setCell ⟨g, i, none⟩ u).ownsRow B e 1 (.slice (some ⟨g, 0, none⟩) n cap) n (xs.set i u) := by
  obtain ⟨h1, h2⟩ := h
  refine ⟨by simpa using h1, ?_⟩
  rcases h2 with ⟨e, _⟩ | ⟨g', cap', cur, e, hB, hg, hn, hm, hs, ht⟩
  · cases e
  · simp only [Value.slice.injEq, Option.some.injEq, Addr.mk.injEq, and_true, true_and] at e
    obtain ⟨rfl, rfl⟩ := e
    refine .inr ⟨g, cap, cur.setIfInBounds i u, rfl, hB, ?_, hn, hm, by simpa using hs, ?_⟩
    · simp [World.setCell, Array.getElem?_modify, hg]
    · rw [Array.toList_setIfInBounds, List.take_set, ht]
/-- The count stands one higher. -/
theorem TkS.bump {B0 p q : Nat} {N n : List Int} {T : List ByteArray} {j : Int} {l : List UInt8} {w : World} (h : TkS B0 p q (N ++ j :: n) T l 0 w) : ∃ g cap, w.cell? ⟨p, 1, none⟩ = some (.slice (some ⟨g, 0, none⟩) (N ++ j :: n).length cap) ∧ (N ++ j :: n).length ≤ cap ∧ w.cell? ⟨g, N.length, none⟩ = some (.int .i64 j) ∧ w.frozen? ⟨g, N.length, none⟩ = false ∧
    ∀ j', TkS B0 p q (N ++ j' :: n) T l 0 (w.setCell ⟨g, N.length, none⟩ (.int .i64 j')) ∧ FrT B0 w (w.setCell ⟨g, N.length, none⟩ (.int .i64 j')) := by
  obtain ⟨⟨vN, vT, hb⟩, hr⟩ := h
  obtain ⟨g, cap, rfl, hg, hlt⟩ := hb.n.form (by simp; omega)
  obtain ⟨_, cur, hcur⟩ := ownsB_type hb.n (k := g) rfl
  have hcap : (N ++ j :: n).length ≤ cap := by
    rcases hb.n.2 with ⟨e, _⟩ | ⟨g', cap', cur', e, _, _, hn, _⟩
    · cases e
    · simp only [Value.slice.injEq] at e
      obtain ⟨_, _, rfl⟩ := e
      exact hn
  refine ⟨g, cap, hb.cells.2.1, hcap, cellAt0 hb.n _ _ (by simp [ints]), Lib.frozen_of_heap hcur _, fun j' => ?_⟩
  have ho : X.Only g w (w.setCell ⟨g, N.length, none⟩ (.int .i64 j')) := (X.Only.refl g w).set _ _
  have hpg : p ≠ g := fun e => by subst e; exact absurd (blk_type hb.box hcur) (by decide)
  refine ⟨⟨⟨_, vT, ho.block p hpg ▸ hb.box, ?_, ?_, hb.hp, hb.hq⟩, ?_⟩, ho.below hg, fun k cur' fr hk => ho.block k fun e' => by subst e'; exact absurd (blk_type hk hcur) (by decide)⟩
  · have hlen : (N ++ j' :: n).length = (N ++ j :: n).length := by simp
    have hints : ints (N ++ j' :: n) = (ints (N ++ j :: n)).set N.length (.int .i64 j') := by
      have : (ints N).length = N.length := by simp [ints]
      simp only [ints_app]
      rw [List.set_append_right _ _ (by omega), this, Nat.sub_self]
      rfl
    rw [hlen, hints]
    exact owns_set hb.n _ _
  · refine ownsB_kept hb.t fun k e => ho.block k fun e' => ?_
    obtain ⟨_, cur', hc⟩ := ownsB_type hb.t e
    subst e'
    exact absurd (blk_type hc hcur) (by decide)
  · exact rd_kept hr fun k cur' t fr ht hk => ho.block k fun e' => by subst e'; have := blk_type hk hcur; omega
def preT (j : Nat) (n : List Int) (t : List ByteArray) : Except Int (Nat × List Int × List ByteArray × List UInt8) → Except Int (Nat × List Int × List ByteArray × List UInt8)
  | .error e => .error e
  | .ok (j', n', t', l) => .ok (j + j', n ++ n', t ++ t', l)
def shutT : Except Int (Nat × List Int × List ByteArray × List UInt8) → Tr
  | .error e => .error e
  | .ok (j, n, t, l') => .ok ((j : Int) :: n, t, l')
theorem timesT_shut (f : List UInt8 → Tr) (l : List UInt8) : timesT f l = shutT (times f (l.length + 1) l) := by
  unfold timesT shutT
  cases times f (l.length + 1) l <;> rfl
theorem preT_step (j : Nat) (n n1 : List Int) (t t1 : List ByteArray) (x : Except Int (Nat × List Int × List ByteArray × List UInt8)) :
    preT j n t (match x with | .error e => .error e | .ok (j', n', t', l2) => .ok (j' + 1, n1 ++ n', t1 ++ t', l2)) = preT (j + 1) (n ++ n1) (t ++ t1) x := by
  cases x with
  | error e => rfl
  | ok y => obtain ⟨a, b, c, d⟩ := y; simp only [preT, List.append_assoc]; congr 2; omega
set_option maxRecDepth 100000 in
set_option maxHeartbeats 2000000 in
theorem times_of (i : Row) (HR : RowT i) (B0 p q : Nat) (N : List Int) (T : List ByteArray) (l : List UInt8) (v : Value) (w : World) (hv : SlR w (Lo B0) 92 4 v i) (h : TkS B0 p q N T l 0 w) (hl : l.length ≤ 65536) (hK : N.length + T.length + 1 + i.sz * (l.length / 4 + 1) ≤ 1000000000) (x : Tr) (hx : timesT (tk none i) l = x) :
    Calls Tryz.prog 62 #[.pointer (some ⟨p, 0, none⟩), v] w (TkTo B0 p q N T w x) := by
  have HV := Lib.hid hv
  have HS := Lib.hid h
  have HX := Lib.hid hx
  clear hx hv
  obtain ⟨⟨vN, vT, hb⟩, _⟩ := h
  obtain ⟨c0, c1, c2, f1, f2⟩ := hb.cells
  have hvN : ∃ ao cap, vN = .slice ao N.length cap := by
    rcases hb.n.2 with ⟨e, e2⟩ | ⟨g, cap, cur, e, _⟩
    · exact ⟨none, 0, by rw [e, e2]⟩
    · exact ⟨_, _, e⟩
  obtain ⟨ao, ac, rfl⟩ := hvN
  clear hb c2 f1 f2
  go_enter Tryz.func62, Tryz.ntmps62
  go_wp2_with fail
  refine (keep_any B0 p q N T l 0 0 w HS.out (by decide) (by omega)).mono ?_
  rintro r w1 ⟨hB1, rfl, hS1⟩
  have HB1 := Lib.hid hB1
  have HS1 := Lib.hid hS1
  clear hB1 hS1 c0 c1
  go_wp2
  go_loopg [] (l.length + 1) (fun k wr => ∃ (j : Nat) (n : List Int) (t : List ByteArray) (l1 : List UInt8), l1.length < k ∧ k ≤ l.length + 1 ∧ j + k ≤ l.length + 1 ∧ TkS B0 p q (N ++ (j : Int) :: n) (T ++ t) l1 0 wr ∧ FrT B0 w wr ∧ x = shutT (preT j n t (times (tk none i) k l1)) ∧ N.length + 1 + n.length + (T.length + t.length) + i.sz * (l1.length / 4 + 1) ≤ 1000000000)
  case atStart =>
    refine ⟨0, [], [], l, by omega, by omega, by omega, by simpa using HS1.out, HB1.out, ?_, by simp; omega⟩
    rw [← HX.out, timesT_shut]
    cases times (tk none i) (l.length + 1) l with
    | error e => rfl
    | ok y => obtain ⟨a, b, c, d⟩ := y; simp [preT]
  case round =>
    rename Nat => k
    obtain ⟨j, n, t, l1, hk, hk2, hjk, hS2, hB2, hx2, hK2⟩ := hrel
    have c0 := hS2.c0
    have HS2 := Lib.hid hS2
    have HB2 := Lib.hid hB2
    have HX2 := Lib.hid hx2
    clear hS2 hB2 hx2
    have hbe := boolR_err l1
    obtain ⟨k', rfl⟩ : ∃ k', k = k' + 1 := ⟨k - 1, by omega⟩
    go_wp2_with fail
    refine (X.rbool_any q l1 0 wr HS2.out.2 (by omega)).mono ?_
    rintro r w3 ⟨rfl, hR3, hO3⟩
    have HS3 := Lib.hid (HS2.out.only hR3 hO3)
    have HB3 := Lib.hid (HB2.out.trans (HS2.out.below hO3))
    clear hR3 hO3
    have ht := HX2.out
    unfold times at ht
    by_cases he : (X.boolR l1 0).2.2 = 0
    · have h4 := boolR_four he
      rw [if_neg (by simpa using he)] at ht
      cases hbt : (X.boolR l1 0).1 with
      | true =>
        rw [hbt] at ht
        simp only [if_true] at ht
        have hs3 := HS3.out
        rw [he] at hs3
        generalize (X.boolR l1 0).2.1 = l2 at *
        clear hbe he hbt c0
        have HT := Lib.hid ht
        clear ht
        obtain ⟨g, cap, b1, b2, b3, b4, b5⟩ := hs3.bump
        have HB5 := Lib.hid b5
        have hlen : (N ++ (j : Int) :: n).length = N.length + n.length + 1 := by simp; omega
        rw [hlen] at b1 b2
        clear b5 hs3 hlen
        have hij : IntKind.i64.wrap ((j : Int) + 1) = (j : Int) + 1 := IntWalk.i64_in _ (by omega)
        have hi1 : N.length < N.length + n.length + 1 := by omega
        go_wp2_with fail
        obtain ⟨hs4, hb4⟩ := HB5.out ((j : Int) + 1)
        generalize w3.setCell ⟨g, N.length, none⟩ (.int .i64 ((j : Int) + 1)) = w4 at *
        have HS4 := Lib.hid hs4
        have HB4 := Lib.hid (HB3.out.trans hb4)
        clear hs4 hb4 HB5
        have c1 : i.sz * (l2.length / 4 + 1) ≤ i.sz * (l1.length / 4 + 1) := Nat.mul_le_mul_left _ (by omega)
        refine (HR B0 p q (N ++ ((j : Int) + 1) :: n) (T ++ t) l2 v w4 (HV.out.low HB4.out.low) HS4.out (by omega) (by simp only [List.length_append, List.length_cons]; omega)).mono ?_
        have hfew := few_tk i none l2
        generalize tk none i l2 = y at *
        rintro r w5 ⟨hB5, hr⟩
        have HB5 := Lib.hid (HB4.out.trans hB5)
        clear hB5
        cases y with
        | error e =>
          simp only at hr
          subst hr
          have hxx := HT.out
          simp only [preT, shutT] at hxx
          subst hxx
          go_wp2
          exact ⟨rfl, HB5.out, rfl⟩
        | ok y =>
          obtain ⟨n1, t1, l3⟩ := y
          obtain ⟨rfl, hS5⟩ := hr
          obtain ⟨q1, q2⟩ := hfew n1 t1 l3 rfl
          have HS5 := Lib.hid hS5
          have c2 : i.sz * ((l2.length - l3.length) / 4 + 1) + i.sz * (l3.length / 4 + 1) ≤ i.sz * (l1.length / 4 + 1) := by
            rw [← Nat.mul_add]
            exact Nat.mul_le_mul_left _ (by omega)
          clear hS5 hfew
          go_wp2
          go_roundg k'
          case measure => omega
          case rel =>
            refine ⟨j + 1, n ++ n1, t ++ t1, l3, by omega, by omega, by omega, ?_, HB5.out, ?_, by simp only [List.length_append]; omega⟩
            · have := HS5.out
              simpa [List.append_assoc] using this
            · rw [HT.out]
              exact congrArg shutT (preT_step j n n1 t t1 _)
      | false =>
        rw [hbt] at ht
        simp only [Bool.false_eq_true, if_false] at ht
        have hs3 := HS3.out
        rw [he] at hs3
        generalize (X.boolR l1 0).2.1 = l2 at *
        clear hbe he hbt
        have c3 := hs3.c0
        have HS4 := Lib.hid hs3
        clear hs3
        simp only [preT, shutT, List.append_nil, Nat.add_zero] at ht
        have HT := Lib.hid ht
        clear ht
        go_wp2_with fail
        refine (sure_ok p q l2 w3 c3 HS4.out.2).mono ?_
        rintro r w' ⟨rfl, rfl⟩
        go_wp2
        go_end0
        have hxx := HT.out
        subst hxx
        exact ⟨HB3.out, rfl, HS4.out⟩
    · have hbf : (X.boolR l1 0).1 = false := by
        unfold X.boolR X.numR X.failE at he ⊢
        by_cases h4 : l1.length < 4
        · simp [h4]
        · simp only [if_neg h4] at he ⊢
          split
          · rfl
          · rename_i h5; rw [if_neg h5] at he; simp at he
      rw [if_pos he] at ht
      rw [hbf]
      simp only [preT, shutT] at ht
      generalize (X.boolR l1 0).2.1 = l2 at *
      generalize (X.boolR l1 0).2.2 = e2 at *
      have c3 := HS3.out.c0
      have HT := Lib.hid ht
      have h6 : e2 ≠ 6 := by omega
      clear ht hbf hbe
      go_wp2_with fail
      refine (sure_bad p q l2 e2 w3 c3 HS3.out.2 he h6).mono ?_
      rintro r w' ⟨rfl, rfl⟩
      go_wp2
      have hxx := HT.out
      subst hxx
      exact ⟨rfl, HB3.out, rfl⟩
end Go.Proofs.YtjogcdkebplcpaaGreatDoor
