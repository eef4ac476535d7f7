/-
  The layer's flag and its plain signs. Their condition: there is room.
-/
import Derived.Test.YtjogcdkebplcpaaGreatDoorLn
import Derived.Deep.RegionWith
namespace Go.Proofs.YtjogcdkebplcpaaGreatDoor
open Go.RowKit Sch
theorem LyB.put {B0 p : Nat} {N : List Int} {T : List ByteArray} {l l' : List UInt8} {v : Value} {aN : Option Addr} {cN : Nat} {aT : Option Addr} {cT : Nat} {w w' : World} (h : LyB B0 p N T l v aN cN aT cT w) (hw : Y.WrTo 81 [.slice aN N.length cN, .slice aT T.length cT] w p v l' w') : LyS B0 p N T l' w' ∧ FrT B0 w w' := by
  obtain ⟨v', h1, h2⟩ := hw
  have hpl := h.wr.lt
  have hb : Below B0 w w' := h2.below (by have := h.hp; omega) h.hp h.hv
  refine ⟨⟨v', aN, cN, aT, cT, h1, h.n.low hb, h.t.low hb, h.cn, h.ct, h.hp, fun k e => ?_⟩, hb, fun k cur fr hk => h2.block k (Array.getElem?_eq_some_iff.1 hk).1 (fun e => by subst e; exact absurd (blk_type hk h.wr.1.2) (by decide)) (fun e => ?_)⟩
  · rcases h2.own with e2 | ⟨g, e2, hg⟩
    · exact h.hv k (by rw [← e2]; exact e)
    · rw [e2] at e
      simp only [Option.some.injEq] at e
      have := h.hp
      omega
  · obtain ⟨_, cur', hc⟩ := ownsB_type h.wr.2 e.symm
    exact absurd (blk_type hk hc) (by decide)
theorem LyS.uint (B0 p : Nat) (N : List Int) (T : List ByteArray) (l : List UInt8) (n : Int) (w : World) (h : LyS B0 p N T l w) (hb : l.length + 4 ≤ 140737488355328) :
    Calls Tryz.prog 64 #[.pointer (some ⟨p, 0, none⟩), .int .i64 n] w fun e w' => e = .returned (.tuple #[]) ∧ LyS B0 p N T (l ++ Y.numBytes n 4) w' ∧ FrT B0 w w' := by
  obtain ⟨v, aN, cN, aT, cT, hB⟩ := h
  exact (Y.uint_any p v l n w hB.wr hb).mono fun e w' ⟨he, hw⟩ => ⟨he, hB.put hw⟩
theorem LyS.hyper (B0 p : Nat) (N : List Int) (T : List ByteArray) (l : List UInt8) (n : Int) (w : World) (h : LyS B0 p N T l w) (hb : l.length + 8 ≤ 140737488355328) :
    Calls Tryz.prog 66 #[.pointer (some ⟨p, 0, none⟩), .int .i64 n] w fun e w' => e = .returned (.tuple #[]) ∧ LyS B0 p N T (l ++ Y.numBytes n 8) w' ∧ FrT B0 w w' := by
  obtain ⟨v, aN, cN, aT, cT, hB⟩ := h
  exact (Y.hyper_any p v l n w hB.wr hb).mono fun e w' ⟨he, hw⟩ => ⟨he, hB.put hw⟩
theorem LyS.bool (B0 p : Nat) (N : List Int) (T : List ByteArray) (l : List UInt8) (b : Bool) (w : World) (h : LyS B0 p N T l w) (hb : l.length + 4 ≤ 140737488355328) :
    Calls Tryz.prog 85 #[.pointer (some ⟨p, 0, none⟩), .bool b] w fun e w' => e = .returned (.tuple #[]) ∧ LyS B0 p N T (l ++ Y.numBytes (if b then 1 else 0) 4) w' ∧ FrT B0 w w' := by
  obtain ⟨v, aN, cN, aT, cT, hB⟩ := h
  exact (Y.bool_any p v l b w hB.wr hb).mono fun e w' ⟨he, hw⟩ => ⟨he, hB.put hw⟩
theorem LyS.opaque (B0 p : Nat) (N : List Int) (T : List ByteArray) (l : List UInt8) (s : ByteArray) (w : World) (h : LyS B0 p N T l w) (hb : l.length + s.size + 8 ≤ 140737488355328) :
    Calls Tryz.prog 68 #[.pointer (some ⟨p, 0, none⟩), .string s] w fun e w' => e = .returned (.tuple #[]) ∧ LyS B0 p N T (l ++ Y.opaqueOf s) w' ∧ FrT B0 w w' := by
  obtain ⟨v, aN, cN, aT, cT, hB⟩ := h
  exact (Y.opaque_any p v l s w hB.wr hb).mono fun e w' ⟨he, hw⟩ => ⟨he, hB.put hw⟩
theorem LyS.fixed (B0 p : Nat) (N : List Int) (T : List ByteArray) (l : List UInt8) (s : ByteArray) (w : World) (h : LyS B0 p N T l w) (hb : l.length + s.size + 4 ≤ 140737488355328) :
    Calls Tryz.prog 70 #[.pointer (some ⟨p, 0, none⟩), .string s] w fun e w' => e = .returned (.tuple #[]) ∧ LyS B0 p N T (l ++ Y.fixedOf s) w' ∧ FrT B0 w w' := by
  obtain ⟨v, aN, cN, aT, cT, hB⟩ := h
  exact (Y.fixed_any p v l s w hB.wr hb).mono fun e w' ⟨he, hw⟩ => ⟨he, hB.put hw⟩
theorem LyS.later {B0 p : Nat} {N : List Int} {T : List ByteArray} {l : List UInt8} {w w' : World} (h : LyS B0 p N T l w) (hb : Below w.heap.size w w') (hB : B0 ≤ w.heap.size) : LyS B0 p N T l w' := by
  obtain ⟨v, aN, cN, aT, cT, k⟩ := h
  have hl := hb.mono hB
  exact ⟨v, aN, cN, aT, cT, ⟨⟨k.wr.1.1, (hb.block p k.wr.lt).trans k.wr.1.2⟩, ownsB_kept k.wr.2 fun q e => hb.block q (by obtain ⟨_, cur, hc⟩ := ownsB_type k.wr.2 e; exact (Array.getElem?_eq_some_iff.1 hc).1)⟩, k.n.low hl, k.t.low hl, k.cn, k.ct, k.hp, k.hv⟩
theorem LyS.plt {B0 p : Nat} {N : List Int} {T : List ByteArray} {l : List UInt8} {w : World} (h : LyS B0 p N T l w) : p < w.heap.size ∧ B0 ≤ p := by
  obtain ⟨v, aN, cN, aT, cT, k⟩ := h
  exact ⟨k.wr.lt, k.hp⟩
theorem LyS.alloc {B0 p : Nat} {N : List Int} {T : List ByteArray} {l : List UInt8} {w : World} (h : LyS B0 p N T l w) (o : Obj) : LyS B0 p N T l (w.alloc o) := h.later ((Below.refl _ _).alloc (Nat.le_refl _) o) (by have := h.plt; omega)
theorem LyS.drew {B0 p : Nat} {N : List Int} {T : List ByteArray} {l : List UInt8} {w : World} (h : LyS B0 p N T l w) : LyS B0 p N T l w.drew := h.later (Below.refl _ _).drew (by have := h.plt; omega)
/-- What a call of the layer leaves. -/
def LyTo (B0 p : Nat) (l : List UInt8) (w : World) (x : Lr) (r : Ending) (w' : World) : Prop :=
  FrT B0 w w' ∧ match x with
    | .error e => r = Bad e
    | .ok (b, N, T) => r = .returned (.tuple #[]) ∧ LyS B0 p N T (l ++ b) w'
/-- flag answers the Bool. -/
def LfTo (B0 p : Nat) (l : List UInt8) (w : World) (b : Bool) (x : Lr) (r : Ending) (w' : World) : Prop :=
  FrT B0 w w' ∧ match x with
    | .error e => r = Bad e
    | .ok (bs, N, T) => r = .returned (.bool b) ∧ LyS B0 p N T (l ++ bs) w'
set_option maxHeartbeats 1000000 in
theorem lflag_any (B0 p : Nat) (N : List Int) (T : List ByteArray) (l : List UInt8) (w : World) (h : LyS B0 p N T l w) (hb : l.length + 4 ≤ 140737488355328) (b : Bool) (hbb : (N.head? == some 1) = b) (x : Lr) (hx : numL 0 1 4 N T = x) :
    Calls Tryz.prog 67 #[.pointer (some ⟨p, 0, none⟩)] w (LfTo B0 p l w b x) := by
  have HS := Lib.hid h
  clear h
  cases N with
  | nil =>
    simp only [numL] at hx
    subst hx
    go_enter Tryz.func67, Tryz.ntmps67
    go_wp2_with fail
    refine (lnum_none B0 p T l 0 1 w HS.out).mono ?_
    rintro r w' ⟨rfl, rfl⟩
    go_wp2
    exact ⟨rfl, FrT.refl _ _, rfl⟩
  | cons n N =>
    simp only [numL] at hx
    by_cases hn : 0 ≤ n ∧ n ≤ 1
    · rw [if_pos hn] at hx
      subst hx
      have h1 : (n == 1) = b := by rw [← hbb]; by_cases e : n = 1 <;> simp [e]
      have h2 : (if b then (1 : Int) else 0) = n := by rw [← h1]; by_cases e : n = 1 <;> simp [e]; omega
      have H2 := Lib.hid h2
      clear h2 hbb
      go_enter Tryz.func67, Tryz.ntmps67
      go_wp2_with fail
      refine (lnum_ok B0 p n N T l 0 1 w HS.out hn.1 hn.2).mono ?_
      rintro r w1 ⟨rfl, hS1, hF1⟩
      have HS1 := Lib.hid hS1
      have HF1 := Lib.hid hF1
      clear hS1 hF1
      go_wp2_with fail
      refine (LyS.bool B0 p N T l b w1 HS1.out hb).mono ?_
      rintro r w2 ⟨rfl, hS2, hF2⟩
      rw [H2.out] at hS2
      have HS2 := Lib.hid hS2
      have HF2 := Lib.hid (HF1.out.trans hF2)
      clear hS2 hF2
      go_wp2
      go_ret
      exact ⟨HF2.out, rfl, HS2.out⟩
    · rw [if_neg hn] at hx
      subst hx
      go_enter Tryz.func67, Tryz.ntmps67
      go_wp2_with fail
      refine (lnum_bad B0 p n N T l 0 1 w HS.out hn).mono ?_
      rintro r w' ⟨rfl, rfl⟩
      go_wp2
      exact ⟨rfl, FrT.refl _ _, rfl⟩
set_option maxRecDepth 100000 in
set_option maxHeartbeats 2000000 in
theorem lsign_u (B0 p : Nat) (N : List Int) (T : List ByteArray) (l : List UInt8) (w : World) (h : LyS B0 p N T l w) (hb : l.length + 100100 ≤ 140737488355328) (x : Lr) (hx : oneL 117 N T = x) :
    Calls Tryz.prog 50 #[.pointer (some ⟨p, 0, none⟩), .agg #[.int .u8 117, .int .i64 0, nilS, nilS]] w (LyTo B0 p l w x) := by
  have HS := Lib.hid (h.alloc (.cells #[.int .u8 117, .int .i64 0, nilS, nilS] 92))
  have HF := Lib.hid ((FrT.refl B0 w).alloc (by have := h.plt; omega) (.cells #[.int .u8 117, .int .i64 0, nilS, nilS] 92))
  have hp := h.plt
  clear h
  have hx' : numL 0 4294967295 4 N T = x := by rw [← hx]; rfl
  clear hx
  cases N with
  | nil =>
    simp only [numL] at hx'
    subst hx'
    go_enter Tryz.func50, Tryz.ntmps50
    go_wp2_with fail
    go_region_with (first | (go_at_call 65; refine (lnum_none B0 p T l _ _ _ HS.out.drew).mono ?_; (intro r w2 hr); cases r; (case panicked c => exact ⟨rfl, by rw [← hr.2]; exact HF.out.trans (FrT.of_below (Below.refl _ _).drew (by simp; omega)), hr.1⟩); (case outgrown => exact absurd hr.1 (by simp)); (have HRR := Lib.hid hr); (clear hr)) | (go_at_call 64; refine (show Calls Tryz.prog _ _ _ (fun r _ => r = .returned (.tuple #[])) from absurd HRR.out.1 (by simp)).mono ?_; (rintro r w3 rfl)))
    all_goals exact absurd HRR.out.1 (by simp)
  | cons n N =>
    simp only [numL] at hx'
    by_cases hn : 0 ≤ n ∧ n ≤ 4294967295
    · rw [if_pos hn] at hx'
      subst hx'
      obtain ⟨hn1, hn2⟩ := hn
      go_enter Tryz.func50, Tryz.ntmps50
      go_wp2_with fail
      go_region_with (first | (go_at_call 65; refine (lnum_ok B0 p n N T l _ _ _ HS.out.drew hn1 hn2).mono ?_; (rintro r w1 ⟨rfl, hS1, hF1⟩); (have hF1' := HF.out.trans ((FrT.of_below (Below.refl _ _).drew (by simp; omega)).trans hF1))) | (go_at_call 64; refine (LyS.uint B0 p N T l n _ hS1 (by omega)).mono ?_; (rintro r w2 ⟨rfl, hS2, hF2⟩); (have hF3 := hF1'.trans hF2)))
      all_goals
        go_wp2
        go_end0
        exact ⟨hF3, rfl, hS2⟩
    · rw [if_neg hn] at hx'
      subst hx'
      go_enter Tryz.func50, Tryz.ntmps50
      go_wp2_with fail
      go_region_with (first | (go_at_call 65; refine (lnum_bad B0 p n N T l _ _ _ HS.out.drew hn).mono ?_; (intro r w2 hr); cases r; (case panicked c => exact ⟨rfl, by rw [← hr.2]; exact HF.out.trans (FrT.of_below (Below.refl _ _).drew (by simp; omega)), hr.1⟩); (case outgrown => exact absurd hr.1 (by simp)); (have HRR := Lib.hid hr); (clear hr)) | (go_at_call 64; refine (show Calls Tryz.prog _ _ _ (fun r _ => r = .returned (.tuple #[])) from absurd HRR.out.1 (by simp)).mono ?_; (rintro r w3 rfl)))
      all_goals exact absurd HRR.out.1 (by simp)
set_option maxRecDepth 100000 in
set_option maxHeartbeats 2000000 in
theorem lsign_q (B0 p : Nat) (N : List Int) (T : List ByteArray) (l : List UInt8) (w : World) (h : LyS B0 p N T l w) (hb : l.length + 100100 ≤ 140737488355328) (x : Lr) (hx : oneL 113 N T = x) :
    Calls Tryz.prog 50 #[.pointer (some ⟨p, 0, none⟩), .agg #[.int .u8 113, .int .i64 0, nilS, nilS]] w (LyTo B0 p l w x) := by
  have HS := Lib.hid (h.alloc (.cells #[.int .u8 113, .int .i64 0, nilS, nilS] 92))
  have HF := Lib.hid ((FrT.refl B0 w).alloc (by have := h.plt; omega) (.cells #[.int .u8 113, .int .i64 0, nilS, nilS] 92))
  have hp := h.plt
  clear h
  have hx' : numL (-9223372036854775808) 9223372036854775807 8 N T = x := by rw [← hx]; rfl
  clear hx
  cases N with
  | nil =>
    simp only [numL] at hx'
    subst hx'
    go_enter Tryz.func50, Tryz.ntmps50
    go_wp2_with fail
    go_region_with (first | (go_at_call 65; refine (lnum_none B0 p T l _ _ _ HS.out.drew).mono ?_; (intro r w2 hr); cases r; (case panicked c => exact ⟨rfl, by rw [← hr.2]; exact HF.out.trans (FrT.of_below (Below.refl _ _).drew (by simp; omega)), hr.1⟩); (case outgrown => exact absurd hr.1 (by simp)); (have HRR := Lib.hid hr); (clear hr)) | (go_at_call 66; refine (show Calls Tryz.prog _ _ _ (fun r _ => r = .returned (.tuple #[])) from absurd HRR.out.1 (by simp)).mono ?_; (rintro r w3 rfl)))
    all_goals exact absurd HRR.out.1 (by simp)
  | cons n N =>
    simp only [numL] at hx'
    by_cases hn : (-9223372036854775808) ≤ n ∧ n ≤ 9223372036854775807
    · rw [if_pos hn] at hx'
      subst hx'
      obtain ⟨hn1, hn2⟩ := hn
      go_enter Tryz.func50, Tryz.ntmps50
      go_wp2_with fail
      go_region_with (first | (go_at_call 65; refine (lnum_ok B0 p n N T l _ _ _ HS.out.drew hn1 hn2).mono ?_; (rintro r w1 ⟨rfl, hS1, hF1⟩); (have hF1' := HF.out.trans ((FrT.of_below (Below.refl _ _).drew (by simp; omega)).trans hF1))) | (go_at_call 66; refine (LyS.hyper B0 p N T l n _ hS1 (by omega)).mono ?_; (rintro r w2 ⟨rfl, hS2, hF2⟩); (have hF3 := hF1'.trans hF2)))
      all_goals
        go_wp2
        go_end0
        exact ⟨hF3, rfl, hS2⟩
    · rw [if_neg hn] at hx'
      subst hx'
      go_enter Tryz.func50, Tryz.ntmps50
      go_wp2_with fail
      go_region_with (first | (go_at_call 65; refine (lnum_bad B0 p n N T l _ _ _ HS.out.drew hn).mono ?_; (intro r w2 hr); cases r; (case panicked c => exact ⟨rfl, by rw [← hr.2]; exact HF.out.trans (FrT.of_below (Below.refl _ _).drew (by simp; omega)), hr.1⟩); (case outgrown => exact absurd hr.1 (by simp)); (have HRR := Lib.hid hr); (clear hr)) | (go_at_call 66; refine (show Calls Tryz.prog _ _ _ (fun r _ => r = .returned (.tuple #[])) from absurd HRR.out.1 (by simp)).mono ?_; (rintro r w3 rfl)))
      all_goals exact absurd HRR.out.1 (by simp)
end Go.Proofs.YtjogcdkebplcpaaGreatDoor
