/-
  The layer's signs with rows in them, and its row, whatever the form. Its condition: there is room.
-/
import Derived.Test.YtakfpfnaogdmlaaDoorLt
namespace Go.Proofs.YtakfpfnaogdmlaaDoor
open Go.RowKit Sch
set_option maxRecDepth 100000 in
set_option maxHeartbeats 1000000 in
theorem lsign_times (i : Row) (HR : RowL i) (hch : ∀ N T, Cheap 88 N T (ly none i N T)) (so : Option Addr) (sc : Nat) (B0 p : Nat) (N : List Int) (T : List ByteArray) (l : List UInt8) (w : World) (hv : SlR w (Lo B0) 109 4 (.slice so i.len sc) i) (h : LyS B0 p N T l w) (hK : l.length + worth N T + 200000 ≤ 140737488355328) (x : Lr) (hx : timesL (ly none i) N T = x) :
    Calls Tryd.prog 57 #[.pointer (some ⟨p, 0, none⟩), .agg #[.int .u8 42, .int .i64 0, .slice so i.len sc, nilS]] w (LyTo B0 p l w x) := by
  have HX := Lib.hid hx
  have HC := Lib.hid hch
  clear hx hch
  have HS := Lib.hid (h.alloc (.cells #[.int .u8 42, .int .i64 0, .slice so i.len sc, nilS] 109))
  have HB := Lib.hid ((FrT.refl B0 w).alloc (by have := h.plt; omega) (.cells #[.int .u8 42, .int .i64 0, .slice so i.len sc, nilS] 109))
  have HV := Lib.hid (hv.low ((FrT.refl B0 w).alloc (by have := h.plt; omega) (.cells #[.int .u8 42, .int .i64 0, .slice so i.len sc, nilS] 109)).low)
  clear h hv
  go_enter Tryd.func57, Tryd.ntmps57
  go_wp2_with fail
  refine (ltimes_of i HR HC.out B0 p N T l _ _ HV.out HS.out hK x HX.out).mono ?_
  rintro r w2 ⟨hB2, hr⟩
  have HB2 := Lib.hid (HB.out.trans hB2)
  clear hB2
  cases x with
  | error e =>
    simp only at hr
    subst hr
    go_wp2
    exact ⟨rfl, HB2.out, rfl⟩
  | ok y =>
    obtain ⟨b, N', T'⟩ := y
    obtain ⟨rfl, hS2⟩ := hr
    have HS2 := Lib.hid hS2
    clear hS2
    go_wp2
    go_end0
    exact ⟨HB2.out, rfl, HS2.out⟩
set_option maxRecDepth 100000 in
set_option maxHeartbeats 1000000 in
theorem lsign_maybe (i : Row) (HR : RowL i) (so : Option Addr) (sc : Nat) (B0 p : Nat) (N : List Int) (T : List ByteArray) (l : List UInt8) (w : World) (hv : SlR w (Lo B0) 109 4 (.slice so i.len sc) i) (h : LyS B0 p N T l w) (hK : l.length + worth N T + 200000 ≤ 140737488355328) (x : Lr) (hx : maybeL (ly none i) N T = x) :
    Calls Tryd.prog 57 #[.pointer (some ⟨p, 0, none⟩), .agg #[.int .u8 63, .int .i64 0, .slice so i.len sc, nilS]] w (LyTo B0 p l w x) := by
  have HX := Lib.hid hx
  clear hx
  have HS := Lib.hid (h.alloc (.cells #[.int .u8 63, .int .i64 0, .slice so i.len sc, nilS] 109))
  have HB := Lib.hid ((FrT.refl B0 w).alloc (by have := h.plt; omega) (.cells #[.int .u8 63, .int .i64 0, .slice so i.len sc, nilS] 109))
  have HV := Lib.hid hv
  have HK := Lib.hid (heap_alloc_new w (.cells #[.int .u8 63, .int .i64 0, .slice so i.len sc, nilS] 109))
  clear h hv
  go_enter Tryd.func57, Tryd.ntmps57
  go_wp2_with fail
  obtain ⟨b, hb⟩ : ∃ b, (N.head? == some 1) = b := ⟨_, rfl⟩
  obtain ⟨y, hy⟩ : ∃ y, numL 0 1 4 N T = y := ⟨_, rfl⟩
  refine (lflag_any B0 p N T l _ HS.out (by omega) b hb y hy).mono ?_
  have hcp := cheap_num 0 1 4 (by omega) N T
  have hx := HX.out
  unfold maybeL at hx
  rw [hy] at hx hcp
  have HX2 := Lib.hid hx
  clear hx
  rintro r w2 ⟨hB2, hr⟩
  have hk2 := boxed HK.out hB2
  have k2 : w2.cell? ⟨w.heap.size, 2, none⟩ = some (.slice so i.len sc) := by rw [cell_of_row _ _ _ _ _ _ hk2]; rfl
  have HB2 := Lib.hid (HB.out.trans hB2)
  clear hB2 hk2
  cases y with
  | error e =>
    simp only at hr
    subst hr
    have hxx := HX2.out
    simp only [andL] at hxx
    subst hxx
    go_wp2
    exact ⟨rfl, HB2.out, rfl⟩
  | ok y =>
    obtain ⟨bs, N2, T2⟩ := y
    obtain ⟨rfl, hS2⟩ := hr
    have hc2 := hcp bs N2 T2 rfl
    have HS2 := Lib.hid hS2
    have hxx := HX2.out
    simp only [andL] at hxx
    have HX3 := Lib.hid hxx
    clear hS2 hcp hy hxx
    cases b with
    | false =>
      have hne : ¬ N.head? = some 1 := by simpa using hb
      have hxx := HX3.out
      rw [if_neg hne] at hxx
      simp only [preL, List.append_nil] at hxx
      subst hxx
      go_wp2
      go_end0
      exact ⟨HB2.out, rfl, HS2.out⟩
    | true =>
      have hne : N.head? = some 1 := by simpa using hb
      go_wp2_with fail
      refine (HR B0 p N2 T2 _ _ w2 (HV.out.low HB2.out.low) HS2.out (by rw [List.length_append]; omega)).mono ?_
      have hxx := HX3.out
      rw [if_pos hne] at hxx
      generalize ly none i N2 T2 = z at *
      rintro r w3 ⟨hB3, hr⟩
      have HB3 := Lib.hid (HB2.out.trans hB3)
      clear hB3
      cases z with
      | error e =>
        simp only at hr
        subst hr
        simp only [preL] at hxx
        subst hxx
        go_wp2
        exact ⟨rfl, HB3.out, rfl⟩
      | ok z =>
        obtain ⟨b3, N3, T3⟩ := z
        obtain ⟨rfl, hS3⟩ := hr
        have HS3 := Lib.hid hS3
        clear hS3
        simp only [preL] at hxx
        subst hxx
        go_wp2
        go_end0
        refine ⟨HB3.out, rfl, ?_⟩
        have := HS3.out
        rwa [List.append_assoc] at this
set_option maxRecDepth 100000 in
set_option maxHeartbeats 1000000 in
theorem lsign_ch (a : Row) (HR : ∀ i, wf true i → i.sz ≤ a.sz → (∃ n, pick n a = some i) → RowL i) (ha : wf false a) (hal : a.len ≤ 1000000) (so : Option Addr) (sc : Nat) (B0 p : Nat) (N : List Int) (T : List ByteArray) (l : List UInt8) (w : World) (hv : SlR w (Lo B0) 127 2 (.slice so a.len sc) a) (h : LyS B0 p N T l w) (hK : l.length + worth N T + 200000 ≤ 140737488355328) (x : Lr) (hx : armL (fun n N' T' => ly (some n) a N' T') N T = x) :
    Calls Tryd.prog 57 #[.pointer (some ⟨p, 0, none⟩), .agg #[.int .u8 60, .int .i64 0, nilS, .slice so a.len sc]] w (LyTo B0 p l w x) := by
  have HS := Lib.hid (h.alloc (.cells #[.int .u8 60, .int .i64 0, nilS, .slice so a.len sc] 109))
  have HB := Lib.hid ((FrT.refl B0 w).alloc (by have := h.plt; omega) (.cells #[.int .u8 60, .int .i64 0, nilS, .slice so a.len sc] 109))
  have HV := Lib.hid hv
  have HK := Lib.hid (heap_alloc_new w (.cells #[.int .u8 60, .int .i64 0, nilS, .slice so a.len sc] 109))
  clear h hv
  unfold armL at hx
  cases N with
  | nil =>
    simp only [numL, andL] at hx
    subst hx
    go_enter Tryd.func57, Tryd.ntmps57
    go_wp2_with fail
    refine (lnum_none B0 p T l _ _ _ HS.out).mono ?_
    rintro r w' ⟨rfl, rfl⟩
    go_wp2
    exact ⟨rfl, HB.out, rfl⟩
  | cons n N =>
    by_cases hn : 0 ≤ n ∧ n ≤ 4294967295
    · simp only [numL, if_pos hn, andL, List.headD_cons, ly_some] at hx
      have HX := Lib.hid hx
      have hwn : worth (n :: N) T = worth N T + 100100 := by simp [worth]; omega
      rw [hwn] at hK
      clear hx hwn
      go_enter Tryd.func57, Tryd.ntmps57
      go_wp2_with fail
      refine (lnum_ok B0 p n N T l _ _ _ HS.out hn.1 hn.2).mono ?_
      rintro r w1 ⟨rfl, hS1, hF1⟩
      have HS1 := Lib.hid hS1
      have HK1 := Lib.hid (boxed HK.out hF1)
      have HB1 := Lib.hid (HB.out.trans hF1)
      clear hS1 hF1
      go_wp2_with fail
      refine (LyS.uint B0 p N T l n w1 HS1.out (by omega)).mono ?_
      rintro r w2 ⟨rfl, hS2, hF2⟩
      have hs2 := hS2.plt
      have hk2 := boxed HK1.out hF2
      have k3 : w2.cell? ⟨w.heap.size, 3, none⟩ = some (.slice so a.len sc) := by rw [cell_of_row _ _ _ _ _ _ hk2]; rfl
      have HS2 := Lib.hid hS2
      have HB2 := Lib.hid (HB1.out.trans hF2)
      clear hS2 hF2 hk2
      go_wp2_with fail
      refine (chosen_any B0 _ a n w2 (HV.out.low HB2.out.low) ha (by omega) hal).mono ?_
      rintro r w3 ⟨hB3, hr⟩
      have HB3 := Lib.hid (HB2.out.trans (FrT.of_below hB3 (by omega)))
      have HS3 := Lib.hid (HS2.out.later hB3 (by omega))
      clear hB3
      cases hpk : pick n a with
      | none =>
        rw [hpk] at hr
        simp only at hr
        subst hr
        have hx := HX.out
        rw [hpk] at hx
        simp only [preL] at hx
        subst hx
        go_wp2
        exact ⟨rfl, HB3.out, rfl⟩
      | some i =>
        rw [hpk] at hr
        obtain ⟨u, rfl, hu, hwi, hsi⟩ := hr
        have hx := HX.out
        rw [hpk] at hx
        simp only at hx
        have HX4 := Lib.hid hx
        have HU := Lib.hid hu
        have HRI := Lib.hid (HR i hwi hsi ⟨n, hpk⟩)
        clear hx hu hpk
        go_wp2_with fail
        refine (HRI.out B0 p N T _ u w3 HU.out HS3.out (by rw [List.length_append, Y.numBytes_length]; omega)).mono ?_
        have hxx := HX4.out
        generalize ly none i N T = z at *
        rintro r w4 ⟨hB4, hr⟩
        have HB4 := Lib.hid (HB3.out.trans hB4)
        clear hB4
        cases z with
        | error e =>
          simp only at hr
          subst hr
          simp only [preL] at hxx
          subst hxx
          go_wp2
          exact ⟨rfl, HB4.out, rfl⟩
        | ok z =>
          obtain ⟨b3, N3, T3⟩ := z
          obtain ⟨rfl, hS4⟩ := hr
          have HS4 := Lib.hid hS4
          clear hS4
          simp only [preL] at hxx
          subst hxx
          go_wp2
          go_end0
          refine ⟨HB4.out, rfl, ?_⟩
          have := HS4.out
          rwa [List.append_assoc] at this
    · simp only [numL, if_neg hn, andL] at hx
      subst hx
      go_enter Tryd.func57, Tryd.ntmps57
      go_wp2_with fail
      refine (lnum_bad B0 p n N T l _ _ _ HS.out hn).mono ?_
      rintro r w' ⟨rfl, rfl⟩
      go_wp2
      exact ⟨rfl, HB.out, rfl⟩
end Go.Proofs.YtakfpfnaogdmlaaDoor
