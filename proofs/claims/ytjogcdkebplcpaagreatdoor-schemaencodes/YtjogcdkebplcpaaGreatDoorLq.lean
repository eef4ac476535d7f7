/-
  The layer's signs b, o and f. Their condition: there is room.
-/
import Derived.Test.YtjogcdkebplcpaaGreatDoorLp
namespace Go.Proofs.YtjogcdkebplcpaaGreatDoor
open Go.RowKit Sch
set_option maxRecDepth 100000 in
set_option maxHeartbeats 1000000 in
theorem lsign_b (B0 p : Nat) (N : List Int) (T : List ByteArray) (l : List UInt8) (w : World) (h : LyS B0 p N T l w) (hb : l.length + 100100 ≤ 140737488355328) (x : Lr) (hx : oneL 98 N T = x) :
    Calls Tryz.prog 50 #[.pointer (some ⟨p, 0, none⟩), .agg #[.int .u8 98, .int .i64 0, nilS, nilS]] w (LyTo B0 p l w x) := by
  have HS := Lib.hid (h.alloc (.cells #[.int .u8 98, .int .i64 0, nilS, nilS] 92))
  have HF := Lib.hid ((FrT.refl B0 w).alloc (by have := h.plt; omega) (.cells #[.int .u8 98, .int .i64 0, nilS, nilS] 92))
  clear h
  have hx' : numL 0 1 4 N T = x := by rw [← hx]; rfl
  clear hx
  have HX := Lib.hid hx'
  clear hx'
  go_enter Tryz.func50, Tryz.ntmps50
  go_wp2_with fail
  refine (lflag_any B0 p N T l _ HS.out (by omega) _ rfl x HX.out).mono ?_
  rintro r w2 ⟨hB2, hr⟩
  have HB2 := Lib.hid (HF.out.trans hB2)
  clear hB2
  cases x with
  | error e =>
    simp only at hr
    subst hr
    go_wp2
    exact ⟨rfl, HB2.out, rfl⟩
  | ok y =>
    obtain ⟨b, N', T'⟩ := y
    obtain ⟨rfl, hS2⟩ := hr
    have HS2 := Lib.hid hS2
    clear hS2
    go_wp2
    go_end0
    exact ⟨HB2.out, rfl, HS2.out⟩
set_option maxRecDepth 100000 in
set_option maxHeartbeats 2000000 in
theorem lsign_o (k : Nat) (hk : k ≤ 99999) (B0 p : Nat) (N : List Int) (T : List ByteArray) (l : List UInt8) (w : World) (h : LyS B0 p N T l w) (hb : l.length + 100100 ≤ 140737488355328) (x : Lr) (hx : txtL 111 k N T = x) :
    Calls Tryz.prog 50 #[.pointer (some ⟨p, 0, none⟩), .agg #[.int .u8 111, .int .i64 k, nilS, nilS]] w (LyTo B0 p l w x) := by
  have HS := Lib.hid (h.alloc (.cells #[.int .u8 111, .int .i64 k, nilS, nilS] 92))
  have HF := Lib.hid ((FrT.refl B0 w).alloc (by have := h.plt; omega) (.cells #[.int .u8 111, .int .i64 k, nilS, nilS] 92))
  have hp := h.plt
  clear h
  have k1 : (w.alloc (.cells #[.int .u8 111, .int .i64 k, nilS, nilS] 92)).cell? ⟨w.heap.size, 1, none⟩ = some (.int .i64 k) := by rw [cell_of_row _ _ _ _ _ _ (heap_alloc_new w (.cells #[.int .u8 111, .int .i64 k, nilS, nilS] 92))]; rfl
  cases T with
  | nil =>
    simp only [txtL] at hx
    subst hx
    go_enter Tryz.func50, Tryz.ntmps50
    go_wp2_with fail
    go_region_with (first | (go_at_call 69; refine (show Calls Tryz.prog 69 #[.pointer (some ⟨p, 0, none⟩), .int .i64 0, .int .i64 k] _ _ from ltxt_none B0 p N l 0 k _ HS.out.drew).mono ?_; (intro r w2 hr); cases r; (case panicked c => exact ⟨rfl, by rw [← hr.2]; exact HF.out.trans (FrT.of_below (Below.refl _ _).drew (by simp; omega)), hr.1⟩); (case outgrown => exact absurd hr.1 (by simp)); (have HRR := Lib.hid hr); (clear hr)) | (go_at_call 68; refine (show Calls Tryz.prog _ _ _ (fun r _ => r = .returned (.tuple #[])) from absurd HRR.out.1 (by simp)).mono ?_; (rintro r w3 rfl)))
    all_goals exact absurd HRR.out.1 (by simp)
  | cons s T =>
    have hx' : (if s.size ≤ k then Except.ok (Y.opaqueOf s, N, T) else .error 4) = x := by rw [← hx]; rfl
    clear hx
    by_cases hn : s.size ≤ k
    · rw [if_pos hn] at hx'
      subst hx'
      go_enter Tryz.func50, Tryz.ntmps50
      go_wp2_with fail
      go_region_with (first | (go_at_call 69; refine (show Calls Tryz.prog 69 #[.pointer (some ⟨p, 0, none⟩), .int .i64 0, .int .i64 k] _ _ from ltxt_ok B0 p N s T l 0 k _ HS.out.drew (by omega) (by omega)).mono ?_; (rintro r w1 ⟨rfl, hS1, hF1⟩); (have hF1' := HF.out.trans ((FrT.of_below (Below.refl _ _).drew (by simp; omega)).trans hF1))) | (go_at_call 68; refine (LyS.opaque B0 p N T l s _ hS1 (by omega)).mono ?_; (rintro r w2 ⟨rfl, hS2, hF2⟩); (have hF3 := hF1'.trans hF2)))
      all_goals
        go_wp2
        go_end0
        exact ⟨hF3, rfl, hS2⟩
    · rw [if_neg hn] at hx'
      subst hx'
      go_enter Tryz.func50, Tryz.ntmps50
      go_wp2_with fail
      go_region_with (first | (go_at_call 69; refine (show Calls Tryz.prog 69 #[.pointer (some ⟨p, 0, none⟩), .int .i64 0, .int .i64 k] _ _ from ltxt_bad B0 p N s T l 0 k _ HS.out.drew (by omega)).mono ?_; (intro r w2 hr); cases r; (case panicked c => exact ⟨rfl, by rw [← hr.2]; exact HF.out.trans (FrT.of_below (Below.refl _ _).drew (by simp; omega)), hr.1⟩); (case outgrown => exact absurd hr.1 (by simp)); (have HRR := Lib.hid hr); (clear hr)) | (go_at_call 68; refine (show Calls Tryz.prog _ _ _ (fun r _ => r = .returned (.tuple #[])) from absurd HRR.out.1 (by simp)).mono ?_; (rintro r w3 rfl)))
      all_goals exact absurd HRR.out.1 (by simp)
set_option maxRecDepth 100000 in
set_option maxHeartbeats 2000000 in
theorem lsign_f (k : Nat) (hk : k ≤ 99999) (B0 p : Nat) (N : List Int) (T : List ByteArray) (l : List UInt8) (w : World) (h : LyS B0 p N T l w) (hb : l.length + 100100 ≤ 140737488355328) (x : Lr) (hx : txtL 102 k N T = x) :
    Calls Tryz.prog 50 #[.pointer (some ⟨p, 0, none⟩), .agg #[.int .u8 102, .int .i64 k, nilS, nilS]] w (LyTo B0 p l w x) := by
  have HS := Lib.hid (h.alloc (.cells #[.int .u8 102, .int .i64 k, nilS, nilS] 92))
  have HF := Lib.hid ((FrT.refl B0 w).alloc (by have := h.plt; omega) (.cells #[.int .u8 102, .int .i64 k, nilS, nilS] 92))
  have hp := h.plt
  clear h
  have k1 : (w.alloc (.cells #[.int .u8 102, .int .i64 k, nilS, nilS] 92)).cell? ⟨w.heap.size, 1, none⟩ = some (.int .i64 k) := by rw [cell_of_row _ _ _ _ _ _ (heap_alloc_new w (.cells #[.int .u8 102, .int .i64 k, nilS, nilS] 92))]; rfl
  cases T with
  | nil =>
    simp only [txtL] at hx
    subst hx
    go_enter Tryz.func50, Tryz.ntmps50
    go_wp2_with fail
    go_region_with (first | (go_at_call 69; refine (show Calls Tryz.prog 69 #[.pointer (some ⟨p, 0, none⟩), .int .i64 k, .int .i64 k] _ _ from ltxt_none B0 p N l k k _ HS.out.drew).mono ?_; (intro r w2 hr); cases r; (case panicked c => exact ⟨rfl, by rw [← hr.2]; exact HF.out.trans (FrT.of_below (Below.refl _ _).drew (by simp; omega)), hr.1⟩); (case outgrown => exact absurd hr.1 (by simp)); (have HRR := Lib.hid hr); (clear hr)) | (go_at_call 70; refine (show Calls Tryz.prog _ _ _ (fun r _ => r = .returned (.tuple #[])) from absurd HRR.out.1 (by simp)).mono ?_; (rintro r w3 rfl)))
    all_goals exact absurd HRR.out.1 (by simp)
  | cons s T =>
    have hx' : (if s.size = k then Except.ok (Y.fixedOf s, N, T) else .error 4) = x := by rw [← hx]; rfl
    clear hx
    by_cases hn : s.size = k
    · rw [if_pos hn] at hx'
      subst hx'
      go_enter Tryz.func50, Tryz.ntmps50
      go_wp2_with fail
      go_region_with (first | (go_at_call 69; refine (show Calls Tryz.prog 69 #[.pointer (some ⟨p, 0, none⟩), .int .i64 k, .int .i64 k] _ _ from ltxt_ok B0 p N s T l k k _ HS.out.drew (by omega) (by omega)).mono ?_; (rintro r w1 ⟨rfl, hS1, hF1⟩); (have hF1' := HF.out.trans ((FrT.of_below (Below.refl _ _).drew (by simp; omega)).trans hF1))) | (go_at_call 70; refine (LyS.fixed B0 p N T l s _ hS1 (by omega)).mono ?_; (rintro r w2 ⟨rfl, hS2, hF2⟩); (have hF3 := hF1'.trans hF2)))
      all_goals
        go_wp2
        go_end0
        exact ⟨hF3, rfl, hS2⟩
    · rw [if_neg hn] at hx'
      subst hx'
      go_enter Tryz.func50, Tryz.ntmps50
      go_wp2_with fail
      go_region_with (first | (go_at_call 69; refine (show Calls Tryz.prog 69 #[.pointer (some ⟨p, 0, none⟩), .int .i64 k, .int .i64 k] _ _ from ltxt_bad B0 p N s T l k k _ HS.out.drew (by omega)).mono ?_; (intro r w2 hr); cases r; (case panicked c => exact ⟨rfl, by rw [← hr.2]; exact HF.out.trans (FrT.of_below (Below.refl _ _).drew (by simp; omega)), hr.1⟩); (case outgrown => exact absurd hr.1 (by simp)); (have HRR := Lib.hid hr); (clear hr)) | (go_at_call 70; refine (show Calls Tryz.prog _ _ _ (fun r _ => r = .returned (.tuple #[])) from absurd HRR.out.1 (by simp)).mono ?_; (rintro r w3 rfl)))
      all_goals exact absurd HRR.out.1 (by simp)
end Go.Proofs.YtjogcdkebplcpaaGreatDoor
