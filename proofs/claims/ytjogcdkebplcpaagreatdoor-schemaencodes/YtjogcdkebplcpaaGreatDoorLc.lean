/-
  The document's layer takes a number, or a text. Its condition: what is laid out lies in memory.
-/
import Derived.Test.YtjogcdkebplcpaaGreatDoorLa
namespace Go.Proofs.YtjogcdkebplcpaaGreatDoor
open Go.RowKit Sch

/-- The number that comes next, the place behind it, whether something didn't fit. -/
def numS (word : Bool) (N : List Int) (i : Nat) (bad : Bool) : Int × Nat × Bool :=
  if N.length ≤ i ∨ bad = true then (0, i, true) else if word = true ∧ (N.getD i 0 < 0 ∨ 4294967295 < N.getD i 0) then (0, i + 1, true) else (N.getD i 0, i + 1, false)
def txtS (T : List ByteArray) (j : Nat) (bad : Bool) : ByteArray × Nat × Bool :=
  if T.length ≤ j ∨ bad = true then (⟨#[]⟩, j, true) else (T.getD j ⟨#[]⟩, j + 1, false)

set_option maxRecDepth 100000 in
set_option maxHeartbeats 4000000 in
theorem lnum_any (B B0 q : Nat) (aN : Option Addr) (cN : Nat) (N : List Int) (vT : Value) (i j : Nat) (b : List UInt8) (vO : Value) (sz : Nat) (bad word : Bool) (w : World) (h : LB B0 q (.slice aN N.length cN) vT i j b vO sz bad w) (hN : ItsAt B w aN N) (hl : N.length ≤ 1000000000000) :
    Calls Tryz.prog 40 #[.pointer (some ⟨q, 0, none⟩), .bool word] w fun e w' => e = .returned (.int .i64 (numS word N i bad).1) ∧ Below B0 w w' ∧ LB B0 q (.slice aN N.length cN) vT (numS word N i bad).2.1 j b vO sz (numS word N i bad).2.2 w' := by
  obtain ⟨c0, c1, c2, c3, c4, c5, c6⟩ := h.cells
  have f2 := h.free 2
  have f6 := h.free 6
  have hbad := (h.heap (w' := w.drew) rfl).set 6 (.bool true) (i' := i) (j' := j) (sz' := sz) (bad' := true) (by simp) h.len
  have hbd : Below B0 w w.drew := ⟨rfl, rfl, rfl, Nat.le_refl _, fun _ _ => rfl⟩
  by_cases h1 : N.length ≤ i
  · have hs : numS word N i bad = (0, i, true) := if_pos (.inl h1)
    rw [hs]
    have HS := Lib.hid hbad
    clear hbad hs h hN
    go_enter Tryz.func40, Tryz.ntmps40
    go_wp2
    go_region
    go_wp2
    go_ret
    exact ⟨rfl, hbd.trans HS.out.2, HS.out.1⟩
  · by_cases h2 : bad = true
    · have hs : numS word N i bad = (0, i, true) := if_pos (.inr h2)
      rw [hs]
      have HS := Lib.hid hbad
      subst h2
      clear hbad hs h hN
      go_enter Tryz.func40, Tryz.ntmps40
      go_wp2
      go_region
      go_wp2
      go_ret
      exact ⟨rfl, hbd.trans HS.out.2, HS.out.1⟩
    · have hb0 : bad = false := by simpa using h2
      subst hb0
      have hiN : i < N.length := by omega
      obtain ⟨g, o, rfl, hg, hc⟩ := hN i hiN
      obtain ⟨n, hn⟩ : ∃ n, n = N[i] := ⟨_, rfl⟩
      rw [← hn] at hc
      have hgd : N.getD i 0 = n := by rw [hn, List.getD_eq_getElem?_getD, List.getElem?_eq_getElem hiN]; rfl
      have hnext := (h.heap (w' := w.drew.drew) rfl).set 2 (.int .i64 ((i : Int) + 1)) (i' := i + 1) (j' := j) (sz' := sz) (bad' := false) (by simp) h.len
      have hnb := hnext.1.set 6 (.bool true) (i' := i + 1) (j' := j) (sz' := sz) (bad' := true) (by simp) hnext.1.len
      have hcell := hnext.1.cells
      have e6 := hcell.2.2.2.2.2.2
      have g6 := hnext.1.free 6
      have HN := Lib.hid hnext
      have HB := Lib.hid hnb
      have hbd2 : Below B0 w w.drew.drew := ⟨rfl, rfl, rfl, Nat.le_refl _, fun _ _ => rfl⟩
      clear hbad hnext hnb hcell h hN hn
      cases word with
      | false =>
        have hs : numS false N i false = (n, i + 1, false) := by unfold numS; rw [if_neg (by simp; omega), if_neg (by simp), hgd]
        rw [hs]
        clear hs hgd
        go_enter Tryz.func40, Tryz.ntmps40
        go_wp2
        go_region
        go_wp2
        go_region
        go_wp2
        go_ret
        exact ⟨rfl, hbd2.trans HN.out.2, HN.out.1⟩
      | true =>
        by_cases h3 : n < 0 ∨ 4294967295 < n
        · have hs : numS true N i false = (0, i + 1, true) := by unfold numS; rw [if_neg (by simp; omega), if_pos ⟨rfl, by rw [hgd]; exact h3⟩]
          rw [hs]
          clear hs hgd
          go_enter Tryz.func40, Tryz.ntmps40
          rcases h3 with h3 | h3
          · go_wp2
            go_region
            go_wp2
            go_region
            go_wp2
            go_ret
            exact ⟨rfl, hbd2.trans (HN.out.2.trans HB.out.2), HB.out.1⟩
          · have h4 : ¬ n < 0 := by omega
            go_wp2
            go_region
            go_wp2
            go_region
            go_wp2
            go_ret
            exact ⟨rfl, hbd2.trans (HN.out.2.trans HB.out.2), HB.out.1⟩
        · have hs : numS true N i false = (n, i + 1, false) := by unfold numS; rw [if_neg (by simp; omega), if_neg (by rw [hgd]; exact fun e => h3 e.2), hgd]
          rw [hs]
          clear hs hgd
          have h4 : ¬ n < 0 := by omega
          have h5 : ¬ 4294967295 < n := by omega
          clear h3
          go_enter Tryz.func40, Tryz.ntmps40
          go_wp2
          go_region
          go_wp2
          go_region
          go_wp2
          go_ret
          exact ⟨rfl, hbd2.trans HN.out.2, HN.out.1⟩

set_option maxRecDepth 100000 in
set_option maxHeartbeats 4000000 in
theorem ltxt_any (B B0 q : Nat) (vN : Value) (aT : Option Addr) (cT : Nat) (T : List ByteArray) (i j : Nat) (b : List UInt8) (vO : Value) (sz : Nat) (bad : Bool) (w : World) (h : LB B0 q vN (.slice aT T.length cT) i j b vO sz bad w) (hT : StsAt B w aT T) (hBB : B ≤ B0) (hl : T.length ≤ 1000000000000) :
    Calls Tryz.prog 42 #[.pointer (some ⟨q, 0, none⟩)] w fun e w' => e = .returned (.string (txtS T j bad).1) ∧ Below B0 w w' ∧ LB B0 q vN (.slice aT T.length cT) i (txtS T j bad).2.1 b vO sz (txtS T j bad).2.2 w' := by
  obtain ⟨c0, c1, c2, c3, c4, c5, c6⟩ := h.cells
  have f3 := h.free 3
  have f6 := h.free 6
  have hbad := (h.heap (w' := w.drew) rfl).set 6 (.bool true) (i' := i) (j' := j) (sz' := sz) (bad' := true) (by simp) h.len
  have hbd : Below B0 w w.drew := ⟨rfl, rfl, rfl, Nat.le_refl _, fun _ _ => rfl⟩
  by_cases h1 : T.length ≤ j
  · have hs : txtS T j bad = (⟨#[]⟩, j, true) := if_pos (.inl h1)
    rw [hs]
    have HS := Lib.hid hbad
    clear hbad hs h hT
    go_enter Tryz.func42, Tryz.ntmps42
    go_wp2
    go_region
    go_wp2
    go_ret
    exact ⟨rfl, hbd.trans HS.out.2, HS.out.1⟩
  · by_cases h2 : bad = true
    · have hs : txtS T j bad = (⟨#[]⟩, j, true) := if_pos (.inr h2)
      rw [hs]
      have HS := Lib.hid hbad
      subst h2
      clear hbad hs h hT
      go_enter Tryz.func42, Tryz.ntmps42
      go_wp2
      go_region
      go_wp2
      go_ret
      exact ⟨rfl, hbd.trans HS.out.2, HS.out.1⟩
    · have hb0 : bad = false := by simpa using h2
      subst hb0
      have hjT : j < T.length := by omega
      obtain ⟨g, o, rfl, hg, hc⟩ := hT j hjT
      obtain ⟨s, hn⟩ : ∃ s, s = T[j] := ⟨_, rfl⟩
      rw [← hn] at hc
      have hgd : T.getD j ⟨#[]⟩ = s := by rw [hn, List.getD_eq_getElem?_getD, List.getElem?_eq_getElem hjT]; rfl
      have hs : txtS T j false = (s, j + 1, false) := by unfold txtS; rw [if_neg (by simp; omega), hgd]
      rw [hs]
      have hnext := h.set 3 (.int .i64 ((j : Int) + 1)) (i' := i) (j' := j + 1) (sz' := sz) (bad' := false) (by simp) h.len
      have hcell := hnext.1.cells
      have e1 := hcell.2.1
      have e3 := hcell.2.2.2.1
      have hqg : g ≠ q := by have := h.hq; omega
      have hcs : (w.setCell ⟨q, 3, none⟩ (.int .i64 ((j : Int) + 1))).cell? ⟨g, o + j, none⟩ = some (.string s) := (World.cell?_of_block (Below.heap_setCell _ _ _ _ hqg)).trans hc
      have HN := Lib.hid hnext
      clear hbad hnext hcell h hT hn hgd hs
      go_enter Tryz.func42, Tryz.ntmps42
      go_wp2
      go_region
      go_wp2
      go_region
      go_wp2
      go_ret
      exact ⟨rfl, HN.out.2.trans ⟨rfl, rfl, rfl, Nat.le_refl _, fun _ _ => rfl⟩, HN.out.1.heap rfl⟩
end Go.Proofs.YtjogcdkebplcpaaGreatDoor
