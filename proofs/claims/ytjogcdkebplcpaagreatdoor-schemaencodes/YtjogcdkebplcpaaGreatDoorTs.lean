/-
  The taker in memory, and its small calls: sure, keep, keepText, keepBool. Their condition: there is room.
-/
import Derived.Test.YtjogcdkebplcpaaGreatDoorTm
import Derived.Test.YtjogcdkebplcpaaGreatDoorOwn
import Derived.Deep.RegionLaw
namespace Go.Proofs.YtjogcdkebplcpaaGreatDoor
open Go.RowKit Sch

def ints (l : List Int) : List Value := l.map fun n => Value.int .i64 n
def strs (l : List ByteArray) : List Value := l.map fun s => Value.string s
theorem ints_app (a b : List Int) : ints (a ++ b) = ints a ++ ints b := by simp [ints]
theorem strs_app (a b : List ByteArray) : strs (a ++ b) = strs a ++ strs b := by simp [strs]
theorem ownsB_kept {w w' : World} {B e sz : Nat} {v : Value} {n : Nat} {xs : List Value} (h : w.ownsRow B e sz v n xs) (hb : ∀ k, v.ownBlock = some k → w'.heap[k]? = w.heap[k]?) : w'.ownsRow B e sz v n xs := by
  refine ⟨h.1, ?_⟩
  rcases h.2 with e | ⟨g, cap, cur, e, hB, hg, r⟩
  · exact .inl e
  · exact .inr ⟨g, cap, cur, e, hB, (hb g (by rw [e]; rfl)).trans hg, r⟩
theorem blk_type {w : World} {k : Nat} {a b : Array Value} {t t' : Nat} {f f' : Nat × Nat} (h : w.heap[k]? = some (.cells a t f)) (h' : w.heap[k]? = some (.cells b t' f')) : t = t' := by
  rw [h] at h'
  simp only [Option.some.injEq, Obj.cells.injEq] at h'
  exact h'.2.1
theorem ownsB_type {w : World} {B e sz : Nat} {v : Value} {n : Nat} {xs : List Value} (h : w.ownsRow B e sz v n xs) {k : Nat} (hk : v.ownBlock = some k) : B ≤ k ∧ ∃ cur, w.heap[k]? = some (.cells cur e (0, 0)) := by
  rcases h.2 with ⟨e, _⟩ | ⟨g, cap, cur, e, hB, hg, r⟩
  · rw [e] at hk; cases hk
  · rw [e] at hk
    simp only [Value.ownBlock, Option.some.injEq] at hk
    subst hk
    exact ⟨hB, cur, hg⟩
/-- Below B0 nothing has turned, nor a sign that lies in a block of its own. -/
structure FrT (B0 : Nat) (w w' : World) : Prop where
  low : Below B0 w w'
  sg : ∀ (k : Nat) (cur : Array Value) (fr : Nat × Nat), w.heap[k]? = some (.cells cur 92 fr) → w'.heap[k]? = w.heap[k]?
theorem FrT.refl (B0 : Nat) (w : World) : FrT B0 w w := ⟨Below.refl _ _, fun _ _ _ _ => rfl⟩
theorem FrT.trans {B0 : Nat} {a b c : World} (h : FrT B0 a b) (k : FrT B0 b c) : FrT B0 a c := ⟨h.low.trans k.low, fun i cur fr hi => (k.sg i cur fr ((h.sg i cur fr hi).trans hi)).trans (h.sg i cur fr hi)⟩
theorem FrT.of_below {B0 : Nat} {w w' : World} (h : Below w.heap.size w w') (hB : B0 ≤ w.heap.size) : FrT B0 w w' := ⟨h.mono hB, fun k _ _ hk => h.block k (Array.getElem?_eq_some_iff.1 hk).1⟩
theorem FrT.alloc {B0 : Nat} {w w' : World} (h : FrT B0 w w') (hB : B0 ≤ w'.heap.size) (o : Obj) : FrT B0 w (w'.alloc o) := h.trans (FrT.of_below ((Below.refl _ _).alloc (Nat.le_refl _) o) hB)
/-- The taker in block p over the reader in block q has taken the numbers N and the texts T; vN and vT are its slices. -/
structure TkB (B0 p q : Nat) (N : List Int) (T : List ByteArray) (vN vT : Value) (w : World) : Prop where
  box : w.heap[p]? = some (.cells #[.pointer (some ⟨q, 0, none⟩), vN, vT] 66 (0, 0))
  n : w.ownsRow B0 3 1 vN N.length (ints N)
  t : w.ownsRow B0 9 1 vT T.length (strs T)
  hp : B0 ≤ p
  hq : B0 ≤ q
def TkS (B0 p q : Nat) (N : List Int) (T : List ByteArray) (l : List UInt8) (e : Int) (w : World) : Prop := (∃ vN vT, TkB B0 p q N T vN vT w) ∧ X.Rd w q l e
section
variable {B0 p q : Nat} {N : List Int} {T : List ByteArray} {vN vT : Value} {w w' : World} {l l' : List UInt8} {e e' : Int}
theorem TkB.cells (h : TkB B0 p q N T vN vT w) : w.cell? ⟨p, 0, none⟩ = some (.pointer (some ⟨q, 0, none⟩)) ∧ w.cell? ⟨p, 1, none⟩ = some vN ∧ w.cell? ⟨p, 2, none⟩ = some vT ∧ w.frozen? ⟨p, 1, none⟩ = false ∧ w.frozen? ⟨p, 2, none⟩ = false := by
  refine ⟨?_, ?_, ?_, Lib.frozen_of_heap h.box _, Lib.frozen_of_heap h.box _⟩ <;> (rw [cell_of_row w p _ _ _ _ h.box]; rfl)
theorem TkB.lt (h : TkB B0 p q N T vN vT w) : p < w.heap.size := (Array.getElem?_eq_some_iff.1 h.box).1
theorem TkB.kept (h : TkB B0 p q N T vN vT w) (hp : w'.heap[p]? = w.heap[p]?) (hk : ∀ (k : Nat) (cur : Array Value) (t : Nat), (t = 3 ∨ t = 9) → w.heap[k]? = some (.cells cur t (0, 0)) → w'.heap[k]? = w.heap[k]?) : TkB B0 p q N T vN vT w' := by
  refine ⟨hp.trans h.box, ownsB_kept h.n fun k e => ?_, ownsB_kept h.t fun k e => ?_, h.hp, h.hq⟩
  · obtain ⟨_, cur, hc⟩ := ownsB_type h.n e
    exact hk k cur 3 (.inl rfl) hc
  · obtain ⟨_, cur, hc⟩ := ownsB_type h.t e
    exact hk k cur 9 (.inr rfl) hc
/-- The reader's work leaves the taker as it is. -/
theorem TkS.only (h : TkS B0 p q N T l e w) (hr : X.Rd w' q l' e') (ho : X.Only q w w') : TkS B0 p q N T l' e' w' := by
  obtain ⟨⟨vN, vT, hb⟩, hrd⟩ := h
  obtain ⟨v, h1, _⟩ := hrd
  refine ⟨⟨vN, vT, hb.kept (ho.block p fun e => ?_) fun k cur t ht hc => ho.block k fun e => ?_⟩, hr⟩
  · subst e; exact absurd (blk_type h1 hb.box) (by decide)
  · subst e; have := blk_type h1 hc; omega
theorem TkS.below (h : TkS B0 p q N T l e w) (ho : X.Only q w w') : FrT B0 w w' := by
  obtain ⟨⟨vN, vT, hb⟩, v, h1, _⟩ := h
  exact ⟨ho.below hb.hq, fun k cur fr hk => ho.block k fun e => by subst e; exact absurd (blk_type h1 hk) (by decide)⟩
end
/-- What a call of the taker leaves. -/
def TkTo (B0 p q : Nat) (N : List Int) (T : List ByteArray) (w : World) (x : Tr) (r : Ending) (w' : World) : Prop :=
  FrT B0 w w' ∧ match x with
    | .error e => r = Bad e
    | .ok (n, t, l) => r = .returned (.tuple #[]) ∧ TkS B0 p q (N ++ n) (T ++ t) l 0 w'

theorem info3 : (Tryz.prog.info? 3).map (fun i => (i.zero, i.size, i.bytes)) = some (some (.int .i64 0), 1, 8) := by kernel_rfl
theorem info9 : (Tryz.prog.info? 9).map (fun i => (i.zero, i.size, i.bytes)) = some (some (.string ⟨#[]⟩), 1, 16) := by kernel_rfl
theorem sure_ok (p q : Nat) (l : List UInt8) (w : World) (hc : w.cell? ⟨p, 0, none⟩ = some (.pointer (some ⟨q, 0, none⟩))) (hr : X.Rd w q l 0) :
    Calls Tryz.prog 78 #[.pointer (some ⟨p, 0, none⟩)] w fun r w' => r = .returned (.tuple #[]) ∧ w = w' := by
  have HR := Lib.hid hr
  clear hr
  go_enter Tryz.func78, Tryz.ntmps78
  go_wp2_with fail
  refine (X.end_any q l 0 w HR.out).mono ?_
  rintro r w' ⟨rfl, rfl⟩
  have he : X.endR l 0 = 0 ∨ X.endR l 0 = 6 := by unfold X.endR; simp only [if_true]; split <;> simp
  generalize X.endR l 0 = d at *
  rcases he with rfl | rfl
  · go_wp2
    go_end0
    exact ⟨rfl, rfl⟩
  · go_wp2
    go_end0
    exact ⟨rfl, rfl⟩
theorem sure_bad (p q : Nat) (l : List UInt8) (e : Int) (w : World) (hc : w.cell? ⟨p, 0, none⟩ = some (.pointer (some ⟨q, 0, none⟩))) (hr : X.Rd w q l e) (h0 : e ≠ 0) (h6 : e ≠ 6) :
    Calls Tryz.prog 78 #[.pointer (some ⟨p, 0, none⟩)] w fun r w' => r = Bad e ∧ w = w' := by
  have HR := Lib.hid hr
  clear hr
  go_enter Tryz.func78, Tryz.ntmps78
  go_wp2_with fail
  refine (X.end_any q l e w HR.out).mono ?_
  rintro r w' ⟨rfl, rfl⟩
  have he : X.endR l e = e := by unfold X.endR; rw [if_neg h0]
  rw [he]
  have b0 : (e != 0) = true := by simpa using h0
  have b6 : (e != 6) = true := by simpa using h6
  clear h0 h6 he
  go_wp2_with fail
  refine (refuse_any e w).mono ?_
  rintro r w' ⟨rfl, rfl⟩
  go_wp2
  exact ⟨rfl, rfl, rfl⟩
theorem TkB.pushN {B0 p q : Nat} {N : List Int} {T : List ByteArray} {vN vT : Value} {w w0 w1 : World} (h : TkB B0 p q N T vN vT w) {n : Int} {g cap : Nat} (hg0 : w.grownBy w0 none) (hgrow : w0.grownBy w1 vN.ownBlock)
    (hown : w1.ownsRow B0 3 1 (.slice (some ⟨g, 0, none⟩) (N.length + 1) cap) (N.length + 1) (ints N ++ [.int .i64 n])) :
    TkB B0 p q (N ++ [n]) T (.slice (some ⟨g, 0, none⟩) (N.length + 1) cap) vT (w1.setCell ⟨p, 1, none⟩ (.slice (some ⟨g, 0, none⟩) (N.length + 1) cap)) ∧ Below B0 w (w1.setCell ⟨p, 1, none⟩ (.slice (some ⟨g, 0, none⟩) (N.length + 1) cap)) ∧ ∀ (k : Nat) (cur : Array Value) (t : Nat) (fr : Nat × Nat), t ≠ 3 → t ≠ 66 → w.heap[k]? = some (.cells cur t fr) → (w1.setCell ⟨p, 1, none⟩ (.slice (some ⟨g, 0, none⟩) (N.length + 1) cap)).heap[k]? = w.heap[k]? := by
  have hpl := h.lt
  have hs0 := hg0.size
  have hb : ∀ k, k < w.heap.size → some k ≠ vN.ownBlock → w1.heap[k]? = w.heap[k]? := fun k hk hne => (hgrow.block k (by omega) hne).trans (hg0.block k hk (by simp))
  have hpn : some p ≠ vN.ownBlock := fun e => by
    obtain ⟨_, cur, hc⟩ := ownsB_type h.n e.symm
    rw [h.box] at hc
    simp at hc
  have hp1 : w1.heap[p]? = some (.cells #[.pointer (some ⟨q, 0, none⟩), vN, vT] 66 (0, 0)) := (hb p hpl hpn).trans h.box
  have hrest : ∀ (k : Nat) (cur : Array Value) (t : Nat) (fr : Nat × Nat), t ≠ 3 → t ≠ 66 → w.heap[k]? = some (.cells cur t fr) → (w1.setCell ⟨p, 1, none⟩ (.slice (some ⟨g, 0, none⟩) (N.length + 1) cap)).heap[k]? = w.heap[k]? := by
    intro k cur t fr h3 h73 hk
    have hkl : k < w.heap.size := (Array.getElem?_eq_some_iff.1 hk).1
    have hkp : k ≠ p := fun e => by subst e; exact h73 (blk_type hk h.box)
    have hkn : some k ≠ vN.ownBlock := fun e => by
      obtain ⟨_, cur', hc⟩ := ownsB_type h.n e.symm
      exact h3 (blk_type hk hc)
    exact (Below.heap_setCell _ _ _ _ hkp).trans (hb k hkl hkn)
  refine ⟨⟨?_, ?_, ?_, h.hp, h.hq⟩, ?_, hrest⟩
  · simp [World.setCell, Array.getElem?_modify, hp1]
  · rw [ints_app, List.length_append]
    refine ownsB_kept hown fun k e => ?_
    obtain ⟨_, cur, hc⟩ := ownsB_type hown e
    exact Below.heap_setCell _ _ _ _ (fun e' => by subst e'; rw [hp1] at hc; simp at hc)
  · refine ownsB_kept h.t fun k e => ?_
    obtain ⟨_, cur, hc⟩ := ownsB_type h.t e
    exact hrest k cur 9 (0, 0) (by decide) (by decide) hc
  · have b1 : Below B0 w w1 := ⟨hgrow.os.trans hg0.os, hgrow.tape.trans hg0.tape, hgrow.output.trans hg0.output, Nat.le_trans hs0 hgrow.size, fun k hk => hb k (by have := h.hp; omega) (fun e => by have := (ownsB_type h.n e.symm).1; omega)⟩
    exact b1.trans (((X.Only.refl p w1).set 1 _).below h.hp)
theorem TkB.pushT {B0 p q : Nat} {N : List Int} {T : List ByteArray} {vN vT : Value} {w w0 w1 : World} (h : TkB B0 p q N T vN vT w) {n : ByteArray} {g cap : Nat} (hg0 : w.grownBy w0 none) (hgrow : w0.grownBy w1 vT.ownBlock)
    (hown : w1.ownsRow B0 9 1 (.slice (some ⟨g, 0, none⟩) (T.length + 1) cap) (T.length + 1) (strs T ++ [.string n])) :
    TkB B0 p q N (T ++ [n]) vN (.slice (some ⟨g, 0, none⟩) (T.length + 1) cap) (w1.setCell ⟨p, 2, none⟩ (.slice (some ⟨g, 0, none⟩) (T.length + 1) cap)) ∧ Below B0 w (w1.setCell ⟨p, 2, none⟩ (.slice (some ⟨g, 0, none⟩) (T.length + 1) cap)) ∧ ∀ (k : Nat) (cur : Array Value) (t : Nat) (fr : Nat × Nat), t ≠ 9 → t ≠ 66 → w.heap[k]? = some (.cells cur t fr) → (w1.setCell ⟨p, 2, none⟩ (.slice (some ⟨g, 0, none⟩) (T.length + 1) cap)).heap[k]? = w.heap[k]? := by
  have hpl := h.lt
  have hs0 := hg0.size
  have hb : ∀ k, k < w.heap.size → some k ≠ vT.ownBlock → w1.heap[k]? = w.heap[k]? := fun k hk hne => (hgrow.block k (by omega) hne).trans (hg0.block k hk (by simp))
  have hpn : some p ≠ vT.ownBlock := fun e => by
    obtain ⟨_, cur, hc⟩ := ownsB_type h.t e.symm
    rw [h.box] at hc
    simp at hc
  have hp1 : w1.heap[p]? = some (.cells #[.pointer (some ⟨q, 0, none⟩), vN, vT] 66 (0, 0)) := (hb p hpl hpn).trans h.box
  have hrest : ∀ (k : Nat) (cur : Array Value) (t : Nat) (fr : Nat × Nat), t ≠ 9 → t ≠ 66 → w.heap[k]? = some (.cells cur t fr) → (w1.setCell ⟨p, 2, none⟩ (.slice (some ⟨g, 0, none⟩) (T.length + 1) cap)).heap[k]? = w.heap[k]? := by
    intro k cur t fr h3 h73 hk
    have hkl : k < w.heap.size := (Array.getElem?_eq_some_iff.1 hk).1
    have hkp : k ≠ p := fun e => by subst e; exact h73 (blk_type hk h.box)
    have hkn : some k ≠ vT.ownBlock := fun e => by
      obtain ⟨_, cur', hc⟩ := ownsB_type h.t e.symm
      exact h3 (blk_type hk hc)
    exact (Below.heap_setCell _ _ _ _ hkp).trans (hb k hkl hkn)
  refine ⟨⟨?_, ?_, ?_, h.hp, h.hq⟩, ?_, hrest⟩
  · simp [World.setCell, Array.getElem?_modify, hp1]
  · refine ownsB_kept h.n fun k e => ?_
    obtain ⟨_, cur, hc⟩ := ownsB_type h.n e
    exact hrest k cur 3 (0, 0) (by decide) (by decide) hc
  · rw [strs_app, List.length_append]
    refine ownsB_kept hown fun k e => ?_
    obtain ⟨_, cur, hc⟩ := ownsB_type hown e
    exact Below.heap_setCell _ _ _ _ (fun e' => by subst e'; rw [hp1] at hc; simp at hc)
  · have b1 : Below B0 w w1 := ⟨hgrow.os.trans hg0.os, hgrow.tape.trans hg0.tape, hgrow.output.trans hg0.output, Nat.le_trans hs0 hgrow.size, fun k hk => hb k (by have := h.hp; omega) (fun e => by have := (ownsB_type h.t e.symm).1; omega)⟩
    exact b1.trans (((X.Only.refl p w1).set 2 _).below h.hp)
theorem rd_kept {w w' : World} {q : Nat} {l : List UInt8} {e : Int} (h : X.Rd w q l e) (hk : ∀ (k : Nat) (cur : Array Value) (t : Nat) (fr : Nat × Nat), (t = 5 ∨ t = 95) → w.heap[k]? = some (.cells cur t fr) → w'.heap[k]? = w.heap[k]?) : X.Rd w' q l e := by
  obtain ⟨v, h1, h2⟩ := h
  refine ⟨v, (hk q _ 95 _ (.inr rfl) h1).trans h1, ?_⟩
  rcases h2 with h2 | ⟨g, off, cap, cur, fr, a1, a2, a3, a4, a5⟩
  · exact .inl h2
  · exact .inr ⟨g, off, cap, cur, fr, a1, a2, a3, (hk g cur 5 fr (.inl rfl) a4).trans a4, a5⟩
set_option maxHeartbeats 1000000 in
theorem keep_any (B0 p q : Nat) (N : List Int) (T : List ByteArray) (l : List UInt8) (e n : Int) (w : World) (h : TkS B0 p q N T l e w) (he : e ≠ 6) (hN : N.length ≤ 1000000000000) :
    Calls Tryz.prog 55 #[.pointer (some ⟨p, 0, none⟩), .int .i64 n] w (TkTo B0 p q N T w (ofN (n, l, e))) := by
  obtain ⟨⟨vN, vT, hb⟩, hr⟩ := h
  obtain ⟨c0, c1, c2, f1, f2⟩ := hb.cells
  by_cases h0 : e = 0
  · subst h0
    have HB := Lib.hid hb
    have HR := Lib.hid hr
    have hpl := hb.lt
    have hnn : some p ≠ vN.ownBlock := fun e => by
      obtain ⟨_, cur, hc⟩ := ownsB_type hb.n e.symm
      rw [hb.box] at hc
      simp at hc
    clear hb hr
    obtain ⟨i3, hi3, hz30, hz31, hz32⟩ := info_parts info3
    have h25 : B0 ≤ w.heap.size := by have := HB.out.hp; omega
    go_enter Tryz.func55, Tryz.ntmps55
    go_wp2_with fail
    refine (sure_ok p q l w c0 HR.out).mono ?_
    rintro r w' ⟨rfl, rfl⟩
    go_wp2_with (at_builtin; refine wpList_append_lies _ rfl (.tmp 11) (.tmp 13) 23 rfl B0 3 i3 _ 1 8 Tryz.underlying23 hi3 hz30 hz31 hz32 rfl (by omega) vN _ _ rfl (HB.out.n.alloc _) ⟨w.heap.size, 0, none⟩ 1 1 [.int .i64 n] (by rfl) (by rfl) (World.news_of_block (cs := #[.int .i64 n]) (t := 3) (fr := (0, 0)) (heap_alloc_new w _)) (by simp [Value.oneCell']) (by omega) (by unfold maxLen; omega) (by omega) (by simp; omega) (w.heap.size + 1) (by simp) ?_; intro g cap w1 hown1 hgrow hat hglt; have hfw : w1.frozen? ⟨p, 1, none⟩ = false := (hgrow.frozen_far _ (by simp; omega) hnn).trans ((World.frozen?_alloc_past _ _ _ hpl).trans f1); have hcw : w1.cell? ⟨p, 1, none⟩ = some vN := (hgrow.cell_far _ (by simp; omega) hnn).trans ((World.cell?_alloc_past _ _ _ hpl).trans c1))
    go_end0
    obtain ⟨k1, k2, k3⟩ := HB.out.pushN (World.grownBy_alloc w _ none) hgrow hown1
    refine ⟨⟨k2, fun k cur fr hk => k3 k cur 92 fr (by decide) (by decide) hk⟩, ?_⟩
    show _ ∧ _
    refine ⟨rfl, ⟨_, _, by simpa using k1⟩, rd_kept HR.out fun k cur t fr ht hk => k3 k cur t fr (by omega) (by omega) hk⟩
  · have HR := Lib.hid hr
    clear hr hb
    have hx : ofN (n, l, e) = .error e := if_neg h0
    rw [hx]
    go_enter Tryz.func55, Tryz.ntmps55
    go_wp2_with fail
    refine (sure_bad p q l e w c0 HR.out h0 he).mono ?_
    rintro r w' ⟨rfl, rfl⟩
    go_wp2
    exact ⟨rfl, FrT.refl _ _, rfl⟩
end Go.Proofs.YtjogcdkebplcpaaGreatDoor
