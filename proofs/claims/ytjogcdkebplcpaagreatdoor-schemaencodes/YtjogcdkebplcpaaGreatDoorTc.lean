/-
  The taker's keepText and keepBool, and the arm that is chosen. Their conditions: there is room; the arms lie in memory.
-/
import Derived.Test.YtjogcdkebplcpaaGreatDoorTs
import Derived.Test.YtjogcdkebplcpaaGreatDoorCh
namespace Go.Proofs.YtjogcdkebplcpaaGreatDoor
open Go.RowKit Sch
set_option maxHeartbeats 1000000 in
theorem keepText_any (B0 p q : Nat) (N : List Int) (T : List ByteArray) (l : List UInt8) (e : Int) (n : ByteArray) (w : World) (h : TkS B0 p q N T l e w) (he : e ≠ 6) (hN : T.length ≤ 1000000000000) :
    Calls Tryz.prog 59 #[.pointer (some ⟨p, 0, none⟩), .string n] w (TkTo B0 p q N T w (ofT (n, l, e))) := by
  obtain ⟨⟨vN, vT, hb⟩, hr⟩ := h
  obtain ⟨c0, c1, c2, f1, f2⟩ := hb.cells
  by_cases h0 : e = 0
  · subst h0
    have HB := Lib.hid hb
    have HR := Lib.hid hr
    have hpl := hb.lt
    have hnn : some p ≠ vT.ownBlock := fun e => by
      obtain ⟨_, cur, hc⟩ := ownsB_type hb.t e.symm
      exact absurd (blk_type hb.box hc) (by decide)
    clear hb hr
    obtain ⟨i3, hi3, hz30, hz31, hz32⟩ := info_parts info9
    have h25 : B0 ≤ w.heap.size := by have := HB.out.hp; omega
    go_enter Tryz.func59, Tryz.ntmps59
    go_wp2_with fail
    refine (sure_ok p q l w c0 HR.out).mono ?_
    rintro r w' ⟨rfl, rfl⟩
    go_wp2_with (at_builtin; refine wpList_append_lies _ rfl (.tmp 11) (.tmp 13) 24 rfl B0 9 i3 _ 1 16 Tryz.underlying24 hi3 hz30 hz31 hz32 rfl (by omega) vT _ _ rfl (HB.out.t.alloc _) ⟨w.heap.size, 0, none⟩ 1 1 [.string n] (by rfl) (by rfl) (World.news_of_block (cs := #[.string n]) (t := 9) (fr := (0, 0)) (heap_alloc_new w _)) (by simp [Value.oneCell']) (by omega) (by unfold maxLen; omega) (by omega) (by simp; omega) (w.heap.size + 1) (by simp) ?_; intro g cap w1 hown1 hgrow hat hglt; have hfw : w1.frozen? ⟨p, 2, none⟩ = false := (hgrow.frozen_far _ (by simp; omega) hnn).trans ((World.frozen?_alloc_past _ _ _ hpl).trans f2); have hcw : w1.cell? ⟨p, 2, none⟩ = some vT := (hgrow.cell_far _ (by simp; omega) hnn).trans ((World.cell?_alloc_past _ _ _ hpl).trans c2))
    go_end0
    obtain ⟨k1, k2, k3⟩ := HB.out.pushT (World.grownBy_alloc w _ none) hgrow hown1
    refine ⟨⟨k2, fun k cur fr hk => k3 k cur 92 fr (by decide) (by decide) hk⟩, ?_⟩
    show _ ∧ _
    refine ⟨rfl, ⟨_, _, by simpa using k1⟩, rd_kept HR.out fun k cur t fr ht hk => k3 k cur t fr (by omega) (by omega) hk⟩
  · have HR := Lib.hid hr
    clear hr hb
    have hx : ofT (n, l, e) = .error e := if_neg h0
    rw [hx]
    go_enter Tryz.func59, Tryz.ntmps59
    go_wp2_with fail
    refine (sure_bad p q l e w c0 HR.out h0 he).mono ?_
    rintro r w' ⟨rfl, rfl⟩
    go_wp2
    exact ⟨rfl, FrT.refl _ _, rfl⟩
theorem TkS.c0 {B0 p q : Nat} {N : List Int} {T : List ByteArray} {l : List UInt8} {e : Int} {w : World} (h : TkS B0 p q N T l e w) : w.cell? ⟨p, 0, none⟩ = some (.pointer (some ⟨q, 0, none⟩)) := by
  obtain ⟨⟨vN, vT, hb⟩, _⟩ := h
  exact hb.cells.1
theorem boolR_err (l : List UInt8) : (X.boolR l 0).2.2 = 0 ∨ (X.boolR l 0).2.2 = 4 ∨ (X.boolR l 0).2.2 = 5 := by
  unfold X.boolR X.numR X.failE
  by_cases h : l.length < 4
  · simp [h]
  · simp only [if_neg h]
    split <;> simp
theorem numR_err (s : Nat) (l : List UInt8) : (X.numR s l 0).2.2 = 0 ∨ (X.numR s l 0).2.2 = 5 := by
  unfold X.numR X.failE
  split <;> simp
/-- keepBool: as TkTo, but it answers the Bool. -/
def KbTo (B0 p q : Nat) (N : List Int) (T : List ByteArray) (w : World) (b : Bool) (x : Tr) (r : Ending) (w' : World) : Prop :=
  FrT B0 w w' ∧ match x with
    | .error e => r = Bad e
    | .ok (n, t, l) => r = .returned (.bool b) ∧ TkS B0 p q (N ++ n) (T ++ t) l 0 w'
set_option maxHeartbeats 1000000 in
theorem keepBool_any (B0 p q : Nat) (N : List Int) (T : List ByteArray) (l : List UInt8) (w : World) (h : TkS B0 p q N T l 0 w) (hl : l.length ≤ 65536) (hN : N.length ≤ 1000000000000) (b : Bool) (x : Tr) (hb : (X.boolR l 0).1 = b) (hx : ofN (boolN l) = x) :
    Calls Tryz.prog 58 #[.pointer (some ⟨p, 0, none⟩)] w (KbTo B0 p q N T w b x) := by
  have c0 := h.c0
  have HS := Lib.hid h
  clear h
  have he := boolR_err l
  have hx' : ofN (b2i b, (X.boolR l 0).2.1, (X.boolR l 0).2.2) = x := by rw [← hx, ← hb]; rfl
  clear hx
  have HX := Lib.hid hx'
  clear hx'
  go_enter Tryz.func58, Tryz.ntmps58
  go_wp2_with fail
  refine (X.rbool_any q l 0 w HS.out.2 (by omega)).mono ?_
  rintro r w1 ⟨rfl, hR1, hO1⟩
  have HS1 := Lib.hid (HS.out.only hR1 hO1)
  have HB1 := Lib.hid (HS.out.below hO1)
  clear hR1 hO1
  rw [hb]
  generalize (X.boolR l 0).2.1 = l1 at *
  generalize (X.boolR l 0).2.2 = e1 at *
  cases b with
  | true =>
    go_wp2_with fail
    refine (keep_any B0 p q N T l1 e1 1 w1 HS1.out (by omega) hN).mono ?_
    have hx := HX.out
    simp only [b2i, if_true] at hx
    rw [hx]
    rintro r w2 ⟨hB2, hr⟩
    have HB2 := Lib.hid (HB1.out.trans hB2)
    clear hB2
    cases x with
    | error e =>
      simp only at hr
      subst hr
      go_wp2
      exact ⟨rfl, HB2.out, rfl⟩
    | ok y =>
      obtain ⟨n, t, l2⟩ := y
      obtain ⟨rfl, hS2⟩ := hr
      have HS2 := Lib.hid hS2
      clear hS2
      go_wp2
      go_ret
      exact ⟨HB2.out, rfl, HS2.out⟩
  | false =>
    go_wp2_with fail
    refine (keep_any B0 p q N T l1 e1 0 w1 HS1.out (by omega) hN).mono ?_
    have hx := HX.out
    simp only [b2i, Bool.false_eq_true, if_false] at hx
    rw [hx]
    rintro r w2 ⟨hB2, hr⟩
    have HB2 := Lib.hid (HB1.out.trans hB2)
    clear hB2
    cases x with
    | error e =>
      simp only at hr
      subst hr
      go_wp2
      exact ⟨rfl, HB2.out, rfl⟩
    | ok y =>
      obtain ⟨n, t, l2⟩ := y
      obtain ⟨rfl, hS2⟩ := hr
      have HS2 := Lib.hid hS2
      clear hS2
      go_wp2
      go_ret
      exact ⟨HB2.out, rfl, HS2.out⟩
/-- The F behind a number. -/
def pick (n : Int) : Row → Option Row
  | .arm k i r => if k = n ∨ k = -1 then some i else pick n r
  | _ => none
theorem tk_some (n : Int) (l : List UInt8) : ∀ a : Row, tk (some n) a l = match pick n a with | none => .error 4 | some i => tk none i l
  | .nil => by simp [tk, pick]
  | .one _ _ => by simp [tk, pick]
  | .num _ _ _ => by simp [tk, pick]
  | .opt _ _ _ => by simp [tk, pick]
  | .ch _ _ => by simp [tk, pick]
  | .arm k i r => by
    simp only [tk, pick]
    by_cases h : k = n ∨ k = -1
    · rw [if_pos h, if_pos h]
    · rw [if_neg h, if_neg h]; exact tk_some n l r
end Go.Proofs.YtjogcdkebplcpaaGreatDoor
