/-
  The document's own reader in memory, and what its calls answer: as ours. Their condition: a text of at most 2^47 bytes.
-/
import Derived.Test.YtjogcdkebplcpaaGreatDoorXRdFix
import Derived.Test.YtjogcdkebplcpaaGreatDoorXRef
namespace Go.Proofs.YtjogcdkebplcpaaGreatDoor.X
open Go.RowKit

/-- The reader in block q stands at a place of s with an error. -/
structure RS (w : World) (q : Nat) (s : ByteArray) (a : Nat) (e : Int) : Prop where
  blk : w.heap[q]? = some (.cells #[.string s, .int .i64 a, .int .i64 e] 48 (0, 0))
  le : a ≤ s.size
  big : s.size ≤ 140737488355328
  bad : e ≠ 0 → a = s.size

/-- .. and has l left. -/
def RL (w : World) (q : Nat) (s : ByteArray) (l : List UInt8) (e : Int) : Prop := ∃ a, RS w q s a e ∧ l = s.data.toList.drop a

theorem RS.cells {w : World} {q : Nat} {s : ByteArray} {a : Nat} {e : Int} (h : RS w q s a e) : w.cell? ⟨q, 0, none⟩ = some (.string s) ∧ w.cell? ⟨q, 1, none⟩ = some (.int .i64 a) ∧ w.cell? ⟨q, 2, none⟩ = some (.int .i64 e) ∧ w.frozen? ⟨q, 1, none⟩ = false ∧ w.frozen? ⟨q, 2, none⟩ = false := by
  refine ⟨?_, ?_, ?_, Lib.frozen_of_heap h.blk _, Lib.frozen_of_heap h.blk _⟩
  · rw [cell_of_row w q 0 _ _ _ h.blk]; rfl
  · rw [cell_of_row w q 1 _ _ _ h.blk]; rfl
  · rw [cell_of_row w q 2 _ _ _ h.blk]; rfl
theorem RS.drewN {w : World} {q : Nat} {s : ByteArray} {a : Nat} {e : Int} (h : RS w q s a e) (n : Nat) : RS (w.drewN n) q s a e := ⟨h.blk, h.le, h.big, h.bad⟩
theorem RL.drewN {w : World} {q : Nat} {s : ByteArray} {l : List UInt8} {e : Int} (h : RL w q s l e) (n : Nat) : RL (w.drewN n) q s l e := by
  obtain ⟨a, h1, h2⟩ := h; exact ⟨a, h1.drewN n, h2⟩
theorem dat_len (s : ByteArray) : s.data.toList.length = s.size := by rw [Array.length_toList]; rfl
theorem drop_len (s : ByteArray) (a : Nat) : (s.data.toList.drop a).length = s.size - a := by rw [List.length_drop, dat_len]

set_option maxHeartbeats 400000 in
theorem rleft_any (q : Nat) (s : ByteArray) (a : Nat) (e : Int) (w : World) (h : RS w q s a e) :
    Calls Tryz.prog 35 #[.pointer (some ⟨q, 0, none⟩)] w fun r w' => r = .returned (.int .i64 ((s.size : Int) - (a : Int))) ∧ ∃ n, w' = w.drewN n := by
  obtain ⟨c0, c1, c2, f1, f2⟩ := h.cells
  have hle := h.le
  have hbig := h.big
  have hw1 : IntKind.i64.wrap ((s.size : Int) - (a : Int)) = (s.size : Int) - (a : Int) := IntWalk.i64_in _ (by omega)
  clear h
  go_enter Tryz.func35, Tryz.ntmps35
  go_wp2_with fail
  go_quiet (fail)
  go_wp2
  go_ret
  exact ⟨rfl, _, rfl⟩

theorem three_set1 {w : World} {q : Nat} {x y z : Value} (h : w.heap[q]? = some (.cells #[x, y, z] 48 (0, 0))) (u : Value) : (w.setCell ⟨q, 1, none⟩ u).heap[q]? = some (.cells #[x, u, z] 48 (0, 0)) := by
  simp [World.setCell, Array.getElem?_modify, h]
theorem three_set2 {w : World} {q : Nat} {x y z : Value} (h : w.heap[q]? = some (.cells #[x, y, z] 48 (0, 0))) (u : Value) : (w.setCell ⟨q, 2, none⟩ u).heap[q]? = some (.cells #[x, y, u] 48 (0, 0)) := by
  simp [World.setCell, Array.getElem?_modify, h]

set_option maxHeartbeats 400000 in
theorem wrong_any (q : Nat) (s : ByteArray) (a : Nat) (e d : Int) (w : World) (h : RS w q s a e) :
    Calls Tryz.prog 34 #[.pointer (some ⟨q, 0, none⟩), .int .i64 d] w fun r w' => r = .returned (.tuple #[]) ∧ RL w' q s [] (failE e d) ∧ Only q w w' := by
  obtain ⟨c0, c1, c2, f1, f2⟩ := h.cells
  have hbig := h.big
  have HH := Lib.hid h
  have hnil : ([] : List UInt8) = s.data.toList.drop s.size := by rw [List.drop_eq_nil_of_le (by rw [dat_len]; exact Nat.le_refl _)]
  have HN := Lib.hid hnil
  clear h hnil
  by_cases he : e = 0
  · subst he
    go_enter Tryz.func34, Tryz.ntmps34
    go_wp2
    go_end0
    refine ⟨rfl, ⟨s.size, ⟨?_, Nat.le_refl _, hbig, fun _ => rfl⟩, HN.out⟩, ((Only.refl q w).set 2 _).set 1 _⟩
    exact three_set1 (three_set2 HH.out.blk _) _
  · have hb : (e == 0) = false := by simp [he]
    go_enter Tryz.func34, Tryz.ntmps34
    go_wp2
    go_end0
    refine ⟨rfl, ⟨s.size, ⟨?_, Nat.le_refl _, hbig, fun _ => rfl⟩, HN.out⟩, (Only.refl q w).set 1 _⟩
    unfold failE; rw [if_neg he]
    exact three_set1 HH.out.blk _

theorem u64_step (m b : Int) : IntKind.u64.wrap (IntKind.u64.wrap (256 * IntKind.u64.wrap m) + IntKind.u64.wrap b) = IntKind.u64.wrap (256 * m + b) := by
  rw [u64w, u64w, u64w, u64w, u64w]; omega

set_option maxHeartbeats 400000 in
theorem value_any (t : ByteArray) (w : World) (ht : t.size ≤ 140737488355328) :
    Calls Tryz.prog 49 #[.string t] w fun r w' => r = .returned (.int .u64 (IntKind.u64.wrap (be t.data.toList))) ∧ w' = w := by
  go_enter Tryz.func49, Tryz.ntmps49
  go_wp2
  go_loop [3, 4] (fun n i => ∃ k : Nat, k ≤ t.size ∧ i = .int .i64 k ∧ n = .int .u64 (IntKind.u64.wrap (be (t.data.toList.take k)))) (fun _ i => t.size - (intOf i).toNat)
  case atStart => exact ⟨0, Nat.zero_le _, rfl, rfl⟩
  case round =>
    obtain ⟨k, hk, rfl, rfl⟩ := hrel
    by_cases hlt : k < t.size
    · obtain ⟨N, hN⟩ : ∃ N, N = IntKind.u64.wrap ((be (t.data.toList.take k) : Nat) : Int) := ⟨_, rfl⟩
      rw [← hN]
      have HN := Lib.hid hN
      clear hN
      go_wp2
      go_round
      case rel =>
        refine ⟨k + 1, by omega, by go_num, ?_⟩
        rw [HN.out, u64_step]
        have e1 : t.data.toList.take (k + 1) = t.data.toList.take k ++ [t[k]] := by
          rw [List.take_succ_eq_append_getElem (by rw [dat_len]; exact hlt)]; rfl
        rw [e1, be_snoc]
        go_num
      case measure => simp [intOf]; omega
    · go_wp2
      go_ret
      exact ⟨ret_int (by rw [List.take_of_length_le (by rw [dat_len]; omega)]), rfl⟩

theorem i64_u64 (m : Int) : wrap64 (IntKind.u64.wrap m) = IntKind.i64.wrap m := by
  rw [u64w, IntKind.wrap_i64]; unfold wrap64; omega

set_option maxRecDepth 100000 in
set_option maxHeartbeats 1000000 in
theorem rnumber_any (q : Nat) (s : ByteArray) (l : List UInt8) (e : Int) (size : Nat) (w : World) (h : RL w q s l e) (hs : 0 < size) (hs8 : size ≤ 8) :
    Calls Tryz.prog 27 #[.pointer (some ⟨q, 0, none⟩), .int .i64 size] w fun r w' => r = .returned (.int .i64 (numR size l e).1) ∧ RL w' q s (numR size l e).2.1 (numR size l e).2.2 ∧ Only q w w' := by
  obtain ⟨a, h, rfl⟩ := h
  obtain ⟨c0, c1, c2, f1, f2⟩ := h.cells
  have hle := h.le
  have hbig := h.big
  have hdl := drop_len s a
  by_cases he : e = 0
  · subst he
    by_cases hlt : s.size - a < size
    · have HF := Lib.hid (show numR size (s.data.toList.drop a) 0 = (0, [], failE 0 5) from if_pos (by rw [hdl]; exact hlt))
      have hlt2 : (s.size : Int) - (a : Int) < (size : Int) := by omega
      clear hdl
      go_enter Tryz.func27, Tryz.ntmps27
      go_wp2_with fail
      refine (rleft_any q s a 0 w h).mono ?_
      rintro r w1 ⟨rfl, n, rfl⟩
      go_wp2_with fail
      refine (wrong_any q s a 0 5 _ (h.drewN n)).mono ?_
      rintro r w2 ⟨rfl, hR, hO⟩
      have HR := Lib.hid hR
      have HO := Lib.hid (((Only.refl q w).drew n).trans hO)
      clear hR hO
      go_wp2
      go_ret
      rw [HF.out]
      exact ⟨rfl, HR.out, HO.out⟩
    · have hlt2 : ¬ (s.size : Int) - (a : Int) < (size : Int) := by omega
      have HF := Lib.hid (show numR size (s.data.toList.drop a) 0 = (IntKind.i64.wrap (be ((s.data.toList.drop a).take size)), (s.data.toList.drop a).drop size, 0) from if_neg (by rw [hdl]; exact hlt))
      clear hdl
      go_enter Tryz.func27, Tryz.ntmps27
      go_wp2_with fail
      refine (rleft_any q s a 0 w h).mono ?_
      rintro r w1 ⟨rfl, n, rfl⟩
      go_wp2_with fail
      obtain ⟨b, hb⟩ : ∃ b, b = a + size := ⟨_, rfl⟩
      have hR2 : RS ((w.drewN n).setCell ⟨q, 1, none⟩ (.int .i64 ((a : Int) + (size : Int)))) q s b 0 := by
        refine ⟨?_, by omega, hbig, fun h => absurd rfl h⟩
        rw [hb, Int.natCast_add]
        exact three_set1 (h.drewN n).blk _
      have hO2 : Only q w ((w.drewN n).setCell ⟨q, 1, none⟩ (.int .i64 ((a : Int) + (size : Int)))) := ((Only.refl q w).drew n).set 1 _
      generalize (w.drewN n).setCell ⟨q, 1, none⟩ (.int .i64 ((a : Int) + (size : Int))) = W2 at hR2 hO2 ⊢
      obtain ⟨d0, d1, d2, g1, g2⟩ := hR2.cells
      have hw1 : IntKind.i64.wrap ((b : Int) - (size : Int)) = (a : Int) := by rw [IntWalk.i64_in _ (by omega)]; omega
      have hb1 : a ≤ b := by omega
      have hb2 : b ≤ s.size := by omega
      have hb3 : b - a ≤ 8 := by omega
      have HB := Lib.hid hb
      have HR2 := Lib.hid hR2
      have HO2 := Lib.hid hO2
      have hes : (s.extract a b).size ≤ 140737488355328 := by simp; omega
      clear hb hR2 hO2 h c0 c1 c2 f1 f2
      go_quiet ((go_at_call 49; exact Calls.quiet_of_same (value_any _ _ hes)))
      clear hw1
      go_wp2
      go_ret
      rw [HF.out]
      refine ⟨ret_int (by rw [i64_u64, HB.out, Nat.add_sub_cancel_left]), ⟨b, HR2.out.drewN _, by rw [HB.out, List.drop_drop]⟩, HO2.out.drew _⟩
  · have ha := h.bad he
    have hb : (e != 0) = true := by simp [he]
    have hnil : s.data.toList.drop a = [] := List.drop_eq_nil_of_le (by rw [dat_len]; omega)
    have HF := Lib.hid (show numR size (s.data.toList.drop a) e = (0, [], e) by rw [hnil]; unfold numR failE; rw [if_pos (by simpa using hs), if_neg he])
    have HR := Lib.hid (show RL w q s [] e from ⟨a, h, hnil.symm⟩)
    clear hnil hdl h ha
    go_enter Tryz.func27, Tryz.ntmps27
    go_wp2
    go_ret
    rw [HF.out]
    exact ⟨rfl, HR.out, Only.refl _ _⟩

theorem RL.wrong {q : Nat} {s : ByteArray} {l : List UInt8} {e d : Int} {w : World} (h : RL w q s l e) :
    Calls Tryz.prog 34 #[.pointer (some ⟨q, 0, none⟩), .int .i64 d] w fun r w' => r = .returned (.tuple #[]) ∧ RL w' q s [] (failE e d) ∧ Only q w w' := by
  obtain ⟨a, h, _⟩ := h
  exact wrong_any q s a e d w h

set_option maxHeartbeats 400000 in
theorem refBool_any (p : Nat) (s : ByteArray) (l : List UInt8) (e : Int) (w : World) (h : RL w p s l e) :
    Calls Tryz.prog 29 #[.pointer (some ⟨p, 0, none⟩)] w fun r w' => r = .returned (.bool (boolR l e).1) ∧ RL w' p s (boolR l e).2.1 (boolR l e).2.2 ∧ Only p w w' := by
  obtain ⟨N, hN⟩ : ∃ N, N = numR 4 l e := ⟨_, rfl⟩
  have HN := Lib.hid hN
  clear hN
  go_enter Tryz.func29, Tryz.ntmps29
  go_wp2_with fail
  refine (rnumber_any p s l e 4 w h (by omega) (by omega)).mono ?_
  rintro r w1 ⟨rfl, hR, hO⟩
  rw [← HN.out] at hR ⊢
  have HO := Lib.hid hO
  clear hO
  obtain ⟨n, l1, e1⟩ := N
  by_cases h1 : 1 < n
  · have h2 : (n == 1) = false := by simp; omega
    have HF := Lib.hid (show boolR l e = (false, [], failE e1 4) by unfold boolR; rw [← HN.out]; exact if_pos h1)
    go_wp2_with fail
    refine (RL.wrong hR).mono ?_
    rintro r w2 ⟨rfl, hR2, hO2⟩
    have HR := Lib.hid hR2
    have HO2 := Lib.hid hO2
    clear hR2 hO2 hR
    go_wp2
    go_ret
    rw [HF.out]
    exact ⟨by simp, HR.out, HO.out.trans HO2.out⟩
  · have HF := Lib.hid (show boolR l e = (n == 1, l1, e1) by unfold boolR; rw [← HN.out]; exact if_neg h1)
    have HR := Lib.hid hR
    clear hR
    go_wp2
    go_ret
    rw [HF.out]
    exact ⟨rfl, HR.out, HO.out⟩

set_option maxHeartbeats 400000 in
theorem refEnd_any (q : Nat) (s : ByteArray) (l : List UInt8) (e : Int) (w : World) (h : RL w q s l e) :
    Calls Tryz.prog 18 #[.pointer (some ⟨q, 0, none⟩)] w fun r w' => r = .returned (.int .i64 (endR l e)) ∧ ∃ n, w' = w.drewN n := by
  obtain ⟨a, h, rfl⟩ := h
  obtain ⟨c0, c1, c2, f1, f2⟩ := h.cells
  have hle := h.le
  have hdl := drop_len s a
  by_cases he : e = 0
  · subst he
    by_cases hz : s.size - a = 0
    · have HF := Lib.hid (show endR (s.data.toList.drop a) 0 = 0 by unfold endR; rw [hdl, if_pos rfl, if_pos hz])
      clear hdl
      go_enter Tryz.func18, Tryz.ntmps18
      go_wp2_with fail
      refine (rleft_any q s a 0 w h).mono ?_
      rintro r w1 ⟨rfl, n, rfl⟩
      have hz2 : (s.size : Int) - (a : Int) = 0 := by omega
      rw [hz2]
      have hc2 := (h.drewN n).cells.2.2.1
      clear hz2
      go_wp2
      go_ret
      rw [HF.out]
      exact ⟨rfl, _, rfl⟩
    · have HF := Lib.hid (show endR (s.data.toList.drop a) 0 = 6 by unfold endR; rw [hdl, if_pos rfl, if_neg hz])
      clear hdl
      go_enter Tryz.func18, Tryz.ntmps18
      go_wp2_with fail
      refine (rleft_any q s a 0 w h).mono ?_
      rintro r w1 ⟨rfl, n, rfl⟩
      have hz2 : 0 < (s.size : Int) - (a : Int) := by omega
      obtain ⟨z, hzz⟩ : ∃ z, z = (s.size : Int) - (a : Int) := ⟨_, rfl⟩
      rw [← hzz] at hz2 ⊢
      have HZ := Lib.hid hzz
      clear hzz hz
      go_wp2
      go_ret
      rw [HF.out]
      exact ⟨rfl, _, rfl⟩
  · have hb : (e == 0) = false := by simp [he]
    have HF := Lib.hid (show endR (s.data.toList.drop a) e = e by unfold endR; rw [if_neg he])
    clear hdl he
    go_enter Tryz.func18, Tryz.ntmps18
    go_wp2
    go_ret
    rw [HF.out]
    exact ⟨rfl, 0, rfl⟩
end Go.Proofs.YtjogcdkebplcpaaGreatDoor.X
