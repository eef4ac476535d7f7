/-
  Several texts in one (Lt, Lu, Lw, Lx): parts of a walk. Their conditions: as each says.
-/
import Derived.Test.YtjogcdkebplcpaaGreatDoorLq
import Derived.Test.YtjogcdkebplcpaaGreatDoorTz
namespace Go.Proofs.YtjogcdkebplcpaaGreatDoor
open Go.RowKit Sch
/-- What the layer's row is to do. -/
def RowL (r : Row) : Prop := ∀ (B0 p : Nat) (N : List Int) (T : List ByteArray) (l : List UInt8) (v : Value) (w : World), SlR w (Lo B0) 92 4 v r → LyS B0 p N T l w → l.length + worth N T + 200000 ≤ 140737488355328 →
  Calls Tryz.prog 36 #[.pointer (some ⟨p, 0, none⟩), v] w (LyTo B0 p l w (ly none r N T))
set_option maxRecDepth 100000 in
set_option maxHeartbeats 2000000 in
theorem ltimes_of (i : Row) (HR : RowL i) (hch : ∀ N T, Cheap 88 N T (ly none i N T)) (B0 p : Nat) (N : List Int) (T : List ByteArray) (l : List UInt8) (v : Value) (w : World) (hv : SlR w (Lo B0) 92 4 v i) (h : LyS B0 p N T l w) (hK : l.length + worth N T + 200000 ≤ 140737488355328) (x : Lr) (hx : timesL (ly none i) N T = x) :
    Calls Tryz.prog 71 #[.pointer (some ⟨p, 0, none⟩), v] w (LyTo B0 p l w x) := by
  have HV := Lib.hid hv
  have HS := Lib.hid h
  have HCH := Lib.hid hch
  clear h hv hch
  cases N with
  | nil =>
    simp only [timesL] at hx
    subst hx
    go_enter Tryz.func71, Tryz.ntmps71
    go_wp2_with fail
    refine (lnum_none B0 p T l _ _ w HS.out).mono ?_
    rintro r w' ⟨rfl, rfl⟩
    go_wp2
    exact ⟨rfl, FrT.refl _ _, rfl⟩
  | cons n N =>
    simp only [timesL] at hx
    by_cases hn : 0 ≤ n ∧ n ≤ 9223372036854775807
    · rw [if_pos hn] at hx
      obtain ⟨m, rfl⟩ : ∃ m : Nat, n = m := ⟨n.toNat, by omega⟩
      rw [Int.toNat_natCast] at hx
      have HX := Lib.hid hx
      have hwn : worth ((m : Int) :: N) T = worth N T + 100100 := by simp [worth]; omega
      rw [hwn] at hK
      clear hx hwn
      go_enter Tryz.func71, Tryz.ntmps71
      go_wp2_with fail
      refine (lnum_ok B0 p m N T l _ _ w HS.out (by omega) (by omega)).mono ?_
      rintro r w1 ⟨rfl, hS1, hF1⟩
      have HS1 := Lib.hid hS1
      have HF1 := Lib.hid hF1
      clear hS1 hF1
      go_wp2
      go_loopw [6] (fun x6 wr => ∃ (j : Nat) (b1 : List UInt8) (N1 : List Int) (T1 : List ByteArray), x6 = .int .i64 j ∧ j ≤ m ∧ LyS B0 p N1 T1 (l ++ b1) wr ∧ FrT B0 w wr ∧ x = preL b1 (repL (ly none i) (m - j) N1 T1) ∧ b1.length + worth N1 T1 ≤ worth N T) (fun x6 _ => m - (intOf x6).toNat)
      case atStart => exact ⟨0, [], N, T, rfl, by omega, by simpa using HS1.out, HF1.out, by rw [preL_nil]; exact HX.out.symm, by simp⟩
      case round =>
        obtain ⟨j, b1, N1, T1, rfl, hj, hS2, hF2, hx2, hw2⟩ := hrel
        have HS2 := Lib.hid hS2
        have HF2 := Lib.hid hF2
        have HX2 := Lib.hid hx2
        clear hS2 hF2 hx2
        by_cases hlt : j < m
        · go_wp2_with fail
          refine (LyS.bool B0 p N1 T1 (l ++ b1) true wr HS2.out (by rw [List.length_append]; omega)).mono ?_
          rintro r w3 ⟨rfl, hS3, hF3⟩
          have HS3 := Lib.hid hS3
          have HF3 := Lib.hid (HF2.out.trans hF3)
          clear hS3 hF3
          go_wp2_with fail
          refine (HR B0 p N1 T1 _ v w3 (HV.out.low HF3.out.low) HS3.out (by rw [List.length_append, List.length_append, Y.numBytes_length]; omega)).mono ?_
          have hch := HCH.out N1 T1
          have hx2 := HX2.out
          rw [show m - j = (m - (j + 1)) + 1 by omega] at hx2
          simp only [repL] at hx2
          generalize ly none i N1 T1 = y at *
          rintro r w4 ⟨hF4, hr⟩
          have HF4 := Lib.hid (HF3.out.trans hF4)
          clear hF4
          cases y with
          | error e =>
            simp only at hr
            subst hr
            simp only [andL, preL] at hx2
            subst hx2
            go_wp2
            exact ⟨rfl, HF4.out, rfl⟩
          | ok y =>
            obtain ⟨b2, N2, T2⟩ := y
            obtain ⟨rfl, hS4⟩ := hr
            have hc2 := hch b2 N2 T2 rfl
            have HS4 := Lib.hid hS4
            simp only [andL, preL_preL] at hx2
            have HX3 := Lib.hid hx2
            clear hS4 hx2 hch
            go_wp2
            go_roundw
            case rel =>
              refine ⟨j + 1, b1 ++ Y.numBytes 1 4 ++ b2, N2, T2, by go_num, by omega, ?_, HF4.out, ?_, by rw [List.length_append, List.length_append, Y.numBytes_length]; omega⟩
              · have := HS4.out
                simpa [List.append_assoc] using this
              · rw [HX3.out]
                simp [List.append_assoc]
            case measure => simp [intOf]; omega
        · have hjm : j = m := by omega
          subst hjm
          have hx2 := HX2.out
          simp only [Nat.sub_self, repL, preL] at hx2
          subst hx2
          go_wp2_with fail
          refine (LyS.bool B0 p N1 T1 (l ++ b1) false wr HS2.out (by rw [List.length_append]; omega)).mono ?_
          rintro r w3 ⟨rfl, hS3, hF3⟩
          have HS3 := Lib.hid hS3
          have HF3 := Lib.hid (HF2.out.trans hF3)
          clear hS3 hF3
          go_wp2
          go_end0
          refine ⟨HF3.out, rfl, ?_⟩
          have := HS3.out
          simpa [List.append_assoc] using this
    · rw [if_neg hn] at hx
      subst hx
      go_enter Tryz.func71, Tryz.ntmps71
      go_wp2_with fail
      refine (lnum_bad B0 p n N T l _ _ w HS.out hn).mono ?_
      rintro r w' ⟨rfl, rfl⟩
      go_wp2
      exact ⟨rfl, FrT.refl _ _, rfl⟩
end Go.Proofs.YtjogcdkebplcpaaGreatDoor
namespace Go.Proofs.YtjogcdkebplcpaaGreatDoor
open Go.RowKit Sch
set_option maxRecDepth 100000 in
set_option maxHeartbeats 1000000 in
theorem lsign_times (i : Row) (HR : RowL i) (hch : ∀ N T, Cheap 88 N T (ly none i N T)) (so : Option Addr) (sc : Nat) (B0 p : Nat) (N : List Int) (T : List ByteArray) (l : List UInt8) (w : World) (hv : SlR w (Lo B0) 92 4 (.slice so i.len sc) i) (h : LyS B0 p N T l w) (hK : l.length + worth N T + 200000 ≤ 140737488355328) (x : Lr) (hx : timesL (ly none i) N T = x) :
    Calls Tryz.prog 50 #[.pointer (some ⟨p, 0, none⟩), .agg #[.int .u8 42, .int .i64 0, .slice so i.len sc, nilS]] w (LyTo B0 p l w x) := by
  have HX := Lib.hid hx
  have HC := Lib.hid hch
  clear hx hch
  have HS := Lib.hid (h.alloc (.cells #[.int .u8 42, .int .i64 0, .slice so i.len sc, nilS] 92))
  have HB := Lib.hid ((FrT.refl B0 w).alloc (by have := h.plt; omega) (.cells #[.int .u8 42, .int .i64 0, .slice so i.len sc, nilS] 92))
  have HV := Lib.hid (hv.low ((FrT.refl B0 w).alloc (by have := h.plt; omega) (.cells #[.int .u8 42, .int .i64 0, .slice so i.len sc, nilS] 92)).low)
  clear h hv
  go_enter Tryz.func50, Tryz.ntmps50
  go_wp2_with fail
  refine (ltimes_of i HR HC.out B0 p N T l _ _ HV.out HS.out hK x HX.out).mono ?_
  rintro r w2 ⟨hB2, hr⟩
  have HB2 := Lib.hid (HB.out.trans hB2)
  clear hB2
  cases x with
  | error e =>
    simp only at hr
    subst hr
    go_wp2
    exact ⟨rfl, HB2.out, rfl⟩
  | ok y =>
    obtain ⟨b, N', T'⟩ := y
    obtain ⟨rfl, hS2⟩ := hr
    have HS2 := Lib.hid hS2
    clear hS2
    go_wp2
    go_end0
    exact ⟨HB2.out, rfl, HS2.out⟩
set_option maxRecDepth 100000 in
set_option maxHeartbeats 1000000 in
theorem lsign_maybe (i : Row) (HR : RowL i) (so : Option Addr) (sc : Nat) (B0 p : Nat) (N : List Int) (T : List ByteArray) (l : List UInt8) (w : World) (hv : SlR w (Lo B0) 92 4 (.slice so i.len sc) i) (h : LyS B0 p N T l w) (hK : l.length + worth N T + 200000 ≤ 140737488355328) (x : Lr) (hx : maybeL (ly none i) N T = x) :
    Calls Tryz.prog 50 #[.pointer (some ⟨p, 0, none⟩), .agg #[.int .u8 63, .int .i64 0, .slice so i.len sc, nilS]] w (LyTo B0 p l w x) := by
  have HX := Lib.hid hx
  clear hx
  have HS := Lib.hid (h.alloc (.cells #[.int .u8 63, .int .i64 0, .slice so i.len sc, nilS] 92))
  have HB := Lib.hid ((FrT.refl B0 w).alloc (by have := h.plt; omega) (.cells #[.int .u8 63, .int .i64 0, .slice so i.len sc, nilS] 92))
  have HV := Lib.hid hv
  have HK := Lib.hid (heap_alloc_new w (.cells #[.int .u8 63, .int .i64 0, .slice so i.len sc, nilS] 92))
  clear h hv
  go_enter Tryz.func50, Tryz.ntmps50
  go_wp2_with fail
  obtain ⟨b, hb⟩ : ∃ b, (N.head? == some 1) = b := ⟨_, rfl⟩
  obtain ⟨y, hy⟩ : ∃ y, numL 0 1 4 N T = y := ⟨_, rfl⟩
  refine (lflag_any B0 p N T l _ HS.out (by omega) b hb y hy).mono ?_
  have hcp := cheap_num 0 1 4 (by omega) N T
  have hx := HX.out
  unfold maybeL at hx
  rw [hy] at hx hcp
  have HX2 := Lib.hid hx
  clear hx
  rintro r w2 ⟨hB2, hr⟩
  have hk2 := boxed HK.out hB2
  have k2 : w2.cell? ⟨w.heap.size, 2, none⟩ = some (.slice so i.len sc) := by rw [cell_of_row _ _ _ _ _ _ hk2]; rfl
  have HB2 := Lib.hid (HB.out.trans hB2)
  clear hB2 hk2
  cases y with
  | error e =>
    simp only at hr
    subst hr
    have hxx := HX2.out
    simp only [andL] at hxx
    subst hxx
    go_wp2
    exact ⟨rfl, HB2.out, rfl⟩
  | ok y =>
    obtain ⟨bs, N2, T2⟩ := y
    obtain ⟨rfl, hS2⟩ := hr
    have hc2 := hcp bs N2 T2 rfl
    have HS2 := Lib.hid hS2
    have hxx := HX2.out
    simp only [andL] at hxx
    have HX3 := Lib.hid hxx
    clear hS2 hcp hy hxx
    cases b with
    | false =>
      have hne : ¬ N.head? = some 1 := by simpa using hb
      have hxx := HX3.out
      rw [if_neg hne] at hxx
      simp only [preL, List.append_nil] at hxx
      subst hxx
      go_wp2
      go_end0
      exact ⟨HB2.out, rfl, HS2.out⟩
    | true =>
      have hne : N.head? = some 1 := by simpa using hb
      go_wp2_with fail
      refine (HR B0 p N2 T2 _ _ w2 (HV.out.low HB2.out.low) HS2.out (by rw [List.length_append]; omega)).mono ?_
      have hxx := HX3.out
      rw [if_pos hne] at hxx
      generalize ly none i N2 T2 = z at *
      rintro r w3 ⟨hB3, hr⟩
      have HB3 := Lib.hid (HB2.out.trans hB3)
      clear hB3
      cases z with
      | error e =>
        simp only at hr
        subst hr
        simp only [preL] at hxx
        subst hxx
        go_wp2
        exact ⟨rfl, HB3.out, rfl⟩
      | ok z =>
        obtain ⟨b3, N3, T3⟩ := z
        obtain ⟨rfl, hS3⟩ := hr
        have HS3 := Lib.hid hS3
        clear hS3
        simp only [preL] at hxx
        subst hxx
        go_wp2
        go_end0
        refine ⟨HB3.out, rfl, ?_⟩
        have := HS3.out
        rwa [List.append_assoc] at this
set_option maxRecDepth 100000 in
set_option maxHeartbeats 1000000 in
theorem lsign_ch (a : Row) (HR : ∀ i, wf true i → i.sz ≤ a.sz → (∃ n, pick n a = some i) → RowL i) (ha : wf false a) (hal : a.len ≤ 1000000) (so : Option Addr) (sc : Nat) (B0 p : Nat) (N : List Int) (T : List ByteArray) (l : List UInt8) (w : World) (hv : SlR w (Lo B0) 114 2 (.slice so a.len sc) a) (h : LyS B0 p N T l w) (hK : l.length + worth N T + 200000 ≤ 140737488355328) (x : Lr) (hx : armL (fun n N' T' => ly (some n) a N' T') N T = x) :
    Calls Tryz.prog 50 #[.pointer (some ⟨p, 0, none⟩), .agg #[.int .u8 60, .int .i64 0, nilS, .slice so a.len sc]] w (LyTo B0 p l w x) := by
  have HS := Lib.hid (h.alloc (.cells #[.int .u8 60, .int .i64 0, nilS, .slice so a.len sc] 92))
  have HB := Lib.hid ((FrT.refl B0 w).alloc (by have := h.plt; omega) (.cells #[.int .u8 60, .int .i64 0, nilS, .slice so a.len sc] 92))
  have HV := Lib.hid hv
  have HK := Lib.hid (heap_alloc_new w (.cells #[.int .u8 60, .int .i64 0, nilS, .slice so a.len sc] 92))
  clear h hv
  unfold armL at hx
  cases N with
  | nil =>
    simp only [numL, andL] at hx
    subst hx
    go_enter Tryz.func50, Tryz.ntmps50
    go_wp2_with fail
    refine (lnum_none B0 p T l _ _ _ HS.out).mono ?_
    rintro r w' ⟨rfl, rfl⟩
    go_wp2
    exact ⟨rfl, HB.out, rfl⟩
  | cons n N =>
    by_cases hn : 0 ≤ n ∧ n ≤ 4294967295
    · simp only [numL, if_pos hn, andL, List.headD_cons, ly_some] at hx
      have HX := Lib.hid hx
      have hwn : worth (n :: N) T = worth N T + 100100 := by simp [worth]; omega
      rw [hwn] at hK
      clear hx hwn
      go_enter Tryz.func50, Tryz.ntmps50
      go_wp2_with fail
      refine (lnum_ok B0 p n N T l _ _ _ HS.out hn.1 hn.2).mono ?_
      rintro r w1 ⟨rfl, hS1, hF1⟩
      have HS1 := Lib.hid hS1
      have HK1 := Lib.hid (boxed HK.out hF1)
      have HB1 := Lib.hid (HB.out.trans hF1)
      clear hS1 hF1
      go_wp2_with fail
      refine (LyS.uint B0 p N T l n w1 HS1.out (by omega)).mono ?_
      rintro r w2 ⟨rfl, hS2, hF2⟩
      have hs2 := hS2.plt
      have hk2 := boxed HK1.out hF2
      have k3 : w2.cell? ⟨w.heap.size, 3, none⟩ = some (.slice so a.len sc) := by rw [cell_of_row _ _ _ _ _ _ hk2]; rfl
      have HS2 := Lib.hid hS2
      have HB2 := Lib.hid (HB1.out.trans hF2)
      clear hS2 hF2 hk2
      go_wp2_with fail
      refine (chosen_any B0 _ a n w2 (HV.out.low HB2.out.low) ha (by omega) hal).mono ?_
      rintro r w3 ⟨hB3, hr⟩
      have HB3 := Lib.hid (HB2.out.trans (FrT.of_below hB3 (by omega)))
      have HS3 := Lib.hid (HS2.out.later hB3 (by omega))
      clear hB3
      cases hpk : pick n a with
      | none =>
        rw [hpk] at hr
        simp only at hr
        subst hr
        have hx := HX.out
        rw [hpk] at hx
        simp only [preL] at hx
        subst hx
        go_wp2
        exact ⟨rfl, HB3.out, rfl⟩
      | some i =>
        rw [hpk] at hr
        obtain ⟨u, rfl, hu, hwi, hsi⟩ := hr
        have hx := HX.out
        rw [hpk] at hx
        simp only at hx
        have HX4 := Lib.hid hx
        have HU := Lib.hid hu
        have HRI := Lib.hid (HR i hwi hsi ⟨n, hpk⟩)
        clear hx hu hpk
        go_wp2_with fail
        refine (HRI.out B0 p N T _ u w3 HU.out HS3.out (by rw [List.length_append, Y.numBytes_length]; omega)).mono ?_
        have hxx := HX4.out
        generalize ly none i N T = z at *
        rintro r w4 ⟨hB4, hr⟩
        have HB4 := Lib.hid (HB3.out.trans hB4)
        clear hB4
        cases z with
        | error e =>
          simp only at hr
          subst hr
          simp only [preL] at hxx
          subst hxx
          go_wp2
          exact ⟨rfl, HB4.out, rfl⟩
        | ok z =>
          obtain ⟨b3, N3, T3⟩ := z
          obtain ⟨rfl, hS4⟩ := hr
          have HS4 := Lib.hid hS4
          clear hS4
          simp only [preL] at hxx
          subst hxx
          go_wp2
          go_end0
          refine ⟨HB4.out, rfl, ?_⟩
          have := HS4.out
          rwa [List.append_assoc] at this
    · simp only [numL, if_neg hn, andL] at hx
      subst hx
      go_enter Tryz.func50, Tryz.ntmps50
      go_wp2_with fail
      refine (lnum_bad B0 p n N T l _ _ _ HS.out hn).mono ?_
      rintro r w' ⟨rfl, rfl⟩
      go_wp2
      exact ⟨rfl, HB.out, rfl⟩
end Go.Proofs.YtjogcdkebplcpaaGreatDoor
namespace Go.Proofs.YtjogcdkebplcpaaGreatDoor
open Go.RowKit Sch
theorem pick_full (n : Int) : ∀ (a i : Row), fullR a → pick n a = some i → fullR i
  | .arm k j r, i, h, e => by
    simp only [pick] at e
    split at e
    · simp only [Option.some.injEq] at e; subst e; exact h.1
    · exact pick_full n r i h.2 e
  | .nil, _, _, e => by simp [pick] at e
  | .one _ _, _, _, e => by simp [pick] at e
  | .num _ _ _, _, _, e => by simp [pick] at e
  | .opt _ _ _, _, _, e => by simp [pick] at e
  | .ch _ _, _, _, e => by simp [pick] at e
/-- What the layer does at a sign whose cells are these. -/
def SgL (B0 : Nat) (w : World) (cs : Array Value) (f : List Int → List ByteArray → Lr) : Prop :=
  ∀ (p : Nat) (N : List Int) (T : List ByteArray) (l : List UInt8) (w' : World), Below B0 w w' → LyS B0 p N T l w' → l.length + worth N T + 200000 ≤ 140737488355328 →
    Calls Tryz.prog 50 #[.pointer (some ⟨p, 0, none⟩), .agg cs] w' (LyTo B0 p l w' (f N T))
theorem lnode (n : Nat) (hn1 : n ≤ 1000000) (IH : ∀ i, i.sz < n → wf true i → fullR i → RowL i) (B0 : Nat) (w : World) (r : Row) (hw : wf true r) (hfu : fullR r) (hn : r.sz ≤ n) (hne : r ≠ .nil) (ys : List Value) (hc : cellsL w (Lo B0) r ys) :
    ∃ (c k : Int) (o1 : Option Addr) (L1 c1 : Nat) (o2 : Option Addr) (L2 c2 : Nat) (ys' : List Value) (r3 : Row) (f : List Int → List ByteArray → Lr),
      ys = .int .u8 c :: .int .i64 k :: .slice o1 L1 c1 :: .slice o2 L2 c2 :: ys' ∧ cellsL w (Lo B0) r3 ys' ∧ wf true r3 ∧ fullR r3 ∧ r.len = r3.len + 1 ∧ r3.sz ≤ r.sz ∧ (∀ N T, ly none r N T = andL (f N T) (ly none r3)) ∧ (∀ N T, Cheap 0 N T (f N T)) ∧
      SgL B0 w #[.int .u8 c, .int .i64 k, .slice o1 L1 c1, .slice o2 L2 c2] f := by
  cases r with
  | nil => exact absurd rfl hne
  | arm k i r => exact absurd hw (by simp [wf])
  | one c r =>
    obtain ⟨ys', e, hc2⟩ := hc
    obtain ⟨hcc, hw2⟩ := hw
    refine ⟨_, _, _, _, _, _, _, _, ys', r, oneL c, e, hc2, hw2, hfu, rfl, by simp only [Sch.Row.sz]; omega, fun N T => rfl, fun N T => ?_, ?_⟩
    · unfold oneL
      split
      · exact (cheap_num _ _ 4 (by omega) N T).less (Nat.zero_le _)
      · split
        · exact (cheap_num _ _ 8 (by omega) N T).less (Nat.zero_le _)
        · exact (cheap_num _ _ 4 (by omega) N T).less (Nat.zero_le _)
    · intro p N T l w' _ hS hK
      simp only [isOne, Bool.or_eq_true, beq_iff_eq] at hcc
      rcases hcc with (rfl | rfl) | rfl
      · exact lsign_u B0 p N T l w' hS (by omega) _ rfl
      · exact lsign_q B0 p N T l w' hS (by omega) _ rfl
      · exact lsign_b B0 p N T l w' hS (by omega) _ rfl
  | num c k r =>
    obtain ⟨ys', e, hc2⟩ := hc
    obtain ⟨hcc, hk, hw2⟩ := hw
    refine ⟨_, _, _, _, _, _, _, _, ys', r, fun N T => txtL c k N T, e, hc2, hw2, hfu, rfl, by simp only [Sch.Row.sz]; omega, fun N T => rfl, fun N T => (cheap_txt c k hk N T).less (Nat.zero_le _), ?_⟩
    intro p N T l w' _ hS hK
    simp only [isNum, Bool.or_eq_true, beq_iff_eq] at hcc
    rcases hcc with rfl | rfl
    · exact lsign_o k hk B0 p N T l w' hS (by omega) _ rfl
    · exact lsign_f k hk B0 p N T l w' hS (by omega) _ rfl
  | opt c i r =>
    obtain ⟨v, us, ys', e, ⟨u1, u2, u3⟩, hc2⟩ := hc
    have hwa := hw
    obtain ⟨hcc, hwi, hw2⟩ := hw
    obtain ⟨hf1, hf2, hf3⟩ := hfu
    obtain ⟨so, sc, rfl⟩ : ∃ o c, v = .slice o i.len c := SlR.slice (w := w) (A := Lo B0) (e := 92) (sz := 4) ⟨us, u1, u2, u3⟩
    have hR : RowL i := IH i (by simp only [Sch.Row.sz] at hn; omega) hwi hf2
    refine ⟨_, _, _, _, _, _, _, _, ys', r, fun N T => if c = 63 then maybeL (ly none i) N T else timesL (ly none i) N T, e, hc2, hw2, hf3, rfl, by simp only [Sch.Row.sz]; omega, fun N T => rfl, fun N T => ?_, ?_⟩
    · have h1 := cheap_ly (.opt c i .nil) none true ⟨hcc, hwi, trivial⟩ ⟨hf1, hf2, trivial⟩ N T
      have e2 : ly none (.opt c i .nil) N T = (if c = 63 then maybeL (ly none i) N T else timesL (ly none i) N T) := by
        simp only [ly]
        generalize (if c = 63 then maybeL (ly none i) N T else timesL (ly none i) N T) = z
        cases z with
        | error e => rfl
        | ok y => obtain ⟨a, b, d⟩ := y; simp [andL, preL]
      rw [e2] at h1
      exact h1.less (Nat.zero_le _)
    · intro p N T l w' hB hS hK
      have hv : SlR w' (Lo B0) 92 4 (.slice so i.len sc) i := SlR.low (w := w) ⟨us, u1, u2, u3⟩ hB
      simp only [isOpt, Bool.or_eq_true, beq_iff_eq] at hcc
      rcases hcc with rfl | rfl
      · exact lsign_maybe i hR so sc B0 p N T l w' hv hS hK _ rfl
      · refine lsign_times i hR (fun N T => ?_) so sc B0 p N T l w' hv hS hK _ rfl
        have := cheap_ly i none true hwi hf2 N T
        rwa [if_pos ⟨rfl, hf1 (by decide)⟩] at this
  | ch a r =>
    obtain ⟨v, us, ys', e, ⟨u1, u2, u3⟩, hc2⟩ := hc
    obtain ⟨hwa, hw2⟩ := hw
    obtain ⟨hf1, hf2⟩ := hfu
    obtain ⟨so, sc, rfl⟩ : ∃ o c, v = .slice o a.len c := SlR.slice (w := w) (A := Lo B0) (e := 114) (sz := 2) ⟨us, u1, u2, u3⟩
    have hsa := len_sz a
    refine ⟨_, _, _, _, _, _, _, _, ys', r, armL (fun n N' T' => ly (some n) a N' T'), e, hc2, hw2, hf2, rfl, by simp only [Sch.Row.sz]; omega, fun N T => rfl, fun N T => ?_, ?_⟩
    · exact Cheap.less (d := 88 + 0) (cheap_and (cheap_num _ _ 4 (by omega) N T) fun N' T' => (cheap_ly a (some _) false hwa hf1 N' T').less (Nat.zero_le _)) (by omega)
    · intro p N T l w' hB hS hK
      have hv : SlR w' (Lo B0) 114 2 (.slice so a.len sc) a := SlR.low (w := w) ⟨us, u1, u2, u3⟩ hB
      exact lsign_ch a (fun i hi hs hp => by obtain ⟨m, hm⟩ := hp; exact IH i (by simp only [Sch.Row.sz] at hn; omega) hi (pick_full m a i hf1 hm)) hwa (by simp only [Sch.Row.sz] at hn; omega) so sc B0 p N T l w' hv hS hK _ rfl
set_option maxRecDepth 100000 in
set_option maxHeartbeats 1000000 in
theorem layRow_of (n : Nat) (hn1 : n ≤ 1000000) (IH : ∀ i, i.sz < n → wf true i → fullR i → RowL i) (r : Row) (hn : r.sz ≤ n) (hw : wf true r) (hfu : fullR r) : RowL r := by
  intro B0 p N T l v w hv hS hK
  obtain ⟨zs, o1, o2, o3⟩ := hv
  obtain ⟨ao, ac, rfl⟩ : ∃ o c, v = .slice o r.len c := SlR.slice ⟨zs, o1, o2, o3⟩
  have O1 := Lib.hid o1
  have O2 := Lib.hid o2
  have O3 := Lib.hid o3
  have HS := Lib.hid hS
  have HW := Lib.hid (And.intro hw hfu)
  have HIH := Lib.hid IH
  have hlz := len_sz r
  clear o1 o2 o3 hS hw hfu IH
  obtain ⟨x, hx⟩ : ∃ x, ly none r N T = x := ⟨_, rfl⟩
  rw [hx]
  have HX := Lib.hid hx
  clear hx
  go_enter Tryz.func36, Tryz.ntmps36
  go_wp2
  go_loopw [8] (fun x8 wr => ∃ (j : Nat) (r2 : Row) (ys : List Value) (b1 : List UInt8) (N1 : List Int) (T1 : List ByteArray), x8 = .int .i64 j ∧ j + r2.len = r.len ∧ zs.drop (4 * j) = ys ∧ cellsL w (Lo B0) r2 ys ∧ (wf true r2 ∧ fullR r2) ∧ r2.sz ≤ r.sz ∧ LyS B0 p N1 T1 (l ++ b1) wr ∧ FrT B0 w wr ∧ x = preL b1 (ly none r2 N1 T1) ∧ b1.length + worth N1 T1 ≤ worth N T) (fun x8 _ => r.len - (intOf x8).toNat)
  case atStart => exact ⟨0, r, zs, [], N, T, rfl, by omega, by simp, O2.out, HW.out, Nat.le_refl _, by simpa using HS.out, FrT.refl _ _, by rw [preL_nil]; exact HX.out.symm, by simp⟩
  case round =>
    obtain ⟨j, r2, ys, b1, N1, T1, rfl, hj, hys, hc, ⟨hw2, hfu2⟩, hsz, hS1, hF1, hx1, hK1⟩ := hrel
    have HS1 := Lib.hid hS1
    have HF1 := Lib.hid hF1
    have HX1 := Lib.hid hx1
    have hp1 := hS1.plt
    clear hS1 hF1 hx1
    by_cases hne : r2 = .nil
    · subst hne
      have hjl : ¬ j < r.len := by simp [Row.len] at hj; omega
      have hx := HX1.out
      simp only [ly, preL, List.append_nil] at hx
      subst hx
      clear hc hys
      go_wp2
      go_end0
      exact ⟨HF1.out, rfl, HS1.out⟩
    · obtain ⟨c, k, p1, L1, c1, p2, L2, c2, ys', r3, f, e1, hc3, hw3, hfu3, hlen, hsz3, htk, hfew, hsg⟩ := lnode n hn1 HIH.out B0 w r2 hw2 hfu2 (by omega) hne ys hc
      have hjl : j < r.len := by omega
      obtain ⟨g, cap, hv, _, hgl⟩ := O1.out.form (by omega)
      have hao : ao = some ⟨g, 0, none⟩ := by injection hv
      subst hao
      clear hv
      have hgB : g < B0 := O3.out g rfl
      have hbl : wr.heap[g]? = w.heap[g]? := HF1.out.low.block g hgB
      have z0 : zs[j * 4]? = some (.int .u8 c) := by
        have : (zs.drop (4 * j))[0]? = some (.int .u8 c) := by rw [hys, e1]; rfl
        simpa [List.getElem?_drop, Nat.mul_comm] using this
      have z1 : zs[j * 4 + 1]? = some (.int .i64 k) := by
        have : (zs.drop (4 * j))[1]? = some (.int .i64 k) := by rw [hys, e1]; rfl
        simpa [List.getElem?_drop, Nat.mul_comm] using this
      have z2 : zs[j * 4 + 2]? = some (.slice p1 L1 c1) := by
        have : (zs.drop (4 * j))[2]? = some (.slice p1 L1 c1) := by rw [hys, e1]; rfl
        simpa [List.getElem?_drop, Nat.mul_comm] using this
      have z3 : zs[j * 4 + 3]? = some (.slice p2 L2 c2) := by
        have : (zs.drop (4 * j))[3]? = some (.slice p2 L2 c2) := by rw [hys, e1]; rfl
        simpa [List.getElem?_drop, Nat.mul_comm] using this
      have d0 : wr.cell? ⟨g, j * 4, none⟩ = some (.int .u8 c) := (World.cell?_of_block hbl).trans (cellAt0 O1.out _ _ z0)
      have d1 : wr.cell? ⟨g, j * 4 + 1, none⟩ = some (.int .i64 k) := (World.cell?_of_block hbl).trans (cellAt0 O1.out _ _ z1)
      have d2 : wr.cell? ⟨g, j * 4 + 2, none⟩ = some (.slice p1 L1 c1) := (World.cell?_of_block hbl).trans (cellAt0 O1.out _ _ z2)
      have d3 : wr.cell? ⟨g, j * 4 + 3, none⟩ = some (.slice p2 L2 c2) := (World.cell?_of_block hbl).trans (cellAt0 O1.out _ _ z3)
      have hd : zs.drop (4 * (j + 1)) = ys' := by
        have : (zs.drop (4 * j)).drop 4 = ys' := by rw [hys, e1]; rfl
        rwa [List.drop_drop, show 4 * j + 4 = 4 * (j + 1) by omega] at this
      have HD := Lib.hid hd
      have HC3 := Lib.hid hc3
      have HW3 := Lib.hid (And.intro hw3 hfu3)
      have HSG := Lib.hid hsg
      have hx := HX1.out
      rw [htk] at hx
      have HX2 := Lib.hid hx
      have HFW := Lib.hid (hfew N1 T1)
      clear hd hc3 hw3 hfu3 hfu2 hsg hx htk hfew z0 z1 z2 z3 hbl hys e1 hc hw2 hne
      go_wp2_with fail
      have hB2 : FrT B0 w (wr.alloc (.cells #[.int .u8 c, .int .i64 k, .slice p1 L1 c1, .slice p2 L2 c2] 92)) := HF1.out.alloc (by omega) _
      have hS2 := HS1.out.alloc (.cells #[.int .u8 c, .int .i64 k, .slice p1 L1 c1, .slice p2 L2 c2] 92)
      generalize wr.alloc (.cells #[.int .u8 c, .int .i64 k, .slice p1 L1 c1, .slice p2 L2 c2] 92) = w2 at *
      have HB2 := Lib.hid hB2
      refine (HSG.out p N1 T1 (l ++ b1) w2 hB2.low hS2 (by rw [List.length_append]; omega)).mono ?_
      clear hB2 hS2
      have hfw := HFW.out
      have hx2 := HX2.out
      generalize f N1 T1 = z at *
      rintro rr w3 ⟨hB3, hr⟩
      have HB3 := Lib.hid (HB2.out.trans hB3)
      clear hB3
      cases z with
      | error e =>
        simp only at hr
        subst hr
        simp only [andL, preL] at hx2
        subst hx2
        go_wp2
        exact ⟨rfl, HB3.out, rfl⟩
      | ok z =>
        obtain ⟨b3, N3, T3⟩ := z
        obtain ⟨rfl, hS3⟩ := hr
        have q2 := hfw b3 N3 T3 rfl
        have HS3 := Lib.hid hS3
        simp only [andL, preL_preL] at hx2
        have HX3 := Lib.hid hx2
        clear hS3 hx2 hfw
        go_wp2
        go_roundw
        case rel =>
          refine ⟨j + 1, r3, ys', b1 ++ b3, N3, T3, by go_num, by omega, HD.out, HC3.out, HW3.out, by omega, ?_, HB3.out, HX3.out, by rw [List.length_append]; omega⟩
          have := HS3.out
          rwa [List.append_assoc] at this
        case measure => simp [intOf]; omega
theorem rowL_all : ∀ (n : Nat), n ≤ 1000000 → ∀ r : Row, r.sz ≤ n → wf true r → fullR r → RowL r
  | 0, _, r, hr, hw, hf => layRow_of 0 (by omega) (fun i hi _ _ => absurd hi (by omega)) r hr hw hf
  | n + 1, hn, r, hr, hw, hf => layRow_of (n + 1) hn (fun i hi hwi hfi => rowL_all n (by omega) i (by omega) hwi hfi) r hr hw hf
end Go.Proofs.YtjogcdkebplcpaaGreatDoor
namespace Go.Proofs.YtjogcdkebplcpaaGreatDoor
open Go.RowKit Sch
theorem full_pG : ∀ (f : Nat) (m : Bool) (n : Nat) (seen : List Int) (t : List UInt8) (r : Row) (t' : List UInt8), pG num5 f m n seen t = some (r, t') → fullR r
  | 0, _, _, _, _, _, _, h => by simp [pG] at h
  | f + 1, true, n, seen, t, r, t', h => by
    have ih := full_pG f
    unfold pG at h
    split at h
    · simp at h; obtain ⟨rfl, _⟩ := h; trivial
    · rename_i c t1
      split at h
      · simp at h; obtain ⟨a, h1, rfl⟩ := h; have hq := ih _ _ _ _ _ _ h1; exact hq
      · split at h
        · split at h
          · cases h
          · simp at h; obtain ⟨a, h1, rfl⟩ := h; have hq := ih _ _ _ _ _ _ h1; exact hq
        · split at h
          · rename_i hc
            split at h
            · cases h
            · rename_i d t2
              split at h
              · cases h
              · split at h
                · rename_i i e t3 h3
                  split at h
                  · cases h
                  · rename_i hno
                    simp at h; obtain ⟨a, h1, rfl⟩ := h
                    refine ⟨fun h63 => ?_, ih _ _ _ _ _ _ h3, ih _ _ _ _ _ _ h1⟩
                    simp only [isOpt, Bool.or_eq_true, beq_iff_eq] at hc
                    have h42 : c = 42 := hc.resolve_left h63
                    cases he : i.empty with
                    | false => rfl
                    | true => exact absurd (Or.inr ⟨h42, he⟩) hno
                · cases h
          · split at h
            · split at h
              · cases h
              · split at h
                · rename_i a t2 h2
                  simp at h; obtain ⟨b, h1, rfl⟩ := h; exact ⟨ih _ _ _ _ _ _ h2, ih _ _ _ _ _ _ h1⟩
                · cases h
            · simp at h; obtain ⟨rfl, _⟩ := h; trivial
  | f + 1, false, n, seen, t, r, t', h => by
    have ih := full_pG f
    unfold pG at h
    split at h
    · cases h
    · split at h
      · rename_i i d t2 h2
        split at h
        · cases h
        · split at h
          · simp at h; obtain ⟨b, h1, rfl⟩ := h; exact ⟨ih _ _ _ _ _ _ h2, ih _ _ _ _ _ _ h1⟩
          · split at h
            · simp at h; obtain ⟨rfl, _⟩ := h; exact ⟨ih _ _ _ _ _ _ h2, trivial⟩
            · cases h
      · cases h
theorem full_form {t : List UInt8} {r : Row} (h : form num5 t = some r) : fullR r := by
  unfold form at h
  split at h
  · cases h
  · split at h
    · rename_i r' hp
      simp only [Option.some.injEq] at h
      subst h
      exact full_pG _ _ _ _ _ _ _ hp
    · cases h
/-- The bytes of just this value. -/
def laidO (r : Row) (N : List Int) (T : List ByteArray) : Except Int (List UInt8) :=
  match ly none r N T with
  | .error e => .error e
  | .ok (b, N', T') => if N' = [] ∧ T' = [] then .ok b else .error 4
def LdTo (w : World) (x : Except Int (List UInt8)) (r : Ending) (w' : World) : Prop :=
  Below w.heap.size w w' ∧ match x with
    | .error e => r = Bad e
    | .ok b => r = .returned (.string ⟨b.toArray⟩)
set_option maxRecDepth 100000 in
set_option maxHeartbeats 1000000 in
theorem laid_any (r : Row) (v : Value) (N : List Int) (T : List ByteArray) (aN : Option Addr) (cN : Nat) (aT : Option Addr) (cT : Nat) (w : World) (hv : SlR w (Lo w.heap.size) 92 4 v r) (hw : wf true r) (hf : fullR r) (hz : r.sz ≤ 1000) (hN : ItsAt w.heap.size w aN N) (hT : StsAt w.heap.size w aT T) (hcn : N.length ≤ cN ∧ cN ≤ 9223372036854775807) (hct : T.length ≤ cT ∧ cT ≤ 9223372036854775807) (hK : worth N T + 200000 ≤ 140737488355328) (x : Except Int (List UInt8)) (hx : laidO r N T = x) :
    Calls Tryz.prog 20 #[v, .agg #[.slice aN N.length cN, .slice aT T.length cT]] w (LdTo w x) := by
  have HX := Lib.hid hx
  have HV := Lib.hid hv
  have HN := Lib.hid hN
  have HT := Lib.hid hT
  have HCN := Lib.hid hcn
  have HCT := Lib.hid hct
  clear hx hv hN hT hcn hct
  have hB1 : Below w.heap.size w ((w.alloc (.cells #[.slice aN N.length cN, .slice aT T.length cT] 26)).alloc (.cells #[.slice none 0 0, .slice aN N.length cN, .slice aT T.length cT] 81)) := ((Below.refl _ w).alloc (Nat.le_refl _) _).alloc (by simp) _
  have hS1 : LyS w.heap.size (w.heap.size + 1) N T [] ((w.alloc (.cells #[.slice aN N.length cN, .slice aT T.length cT] 26)).alloc (.cells #[.slice none 0 0, .slice aN N.length cN, .slice aT T.length cT] 81)) :=
    ⟨.slice none 0 0, aN, cN, aT, cT, ⟨⟨by decide, by
      have := heap_alloc_new (w.alloc (.cells #[.slice aN N.length cN, .slice aT T.length cT] 26)) (.cells #[.slice none 0 0, .slice aN N.length cN, .slice aT T.length cT] 81)
      simpa using this⟩, ⟨by simp [Y.cellsOf], .inl ⟨rfl, rfl⟩⟩⟩, HN.out.low hB1, HT.out.low hB1, HCN.out, HCT.out, by omega, fun k e => by cases e⟩
  have HB1 := Lib.hid hB1
  have HS1 := Lib.hid hS1
  clear hB1 hS1
  go_enter Tryz.func20, Tryz.ntmps20
  go_wp2_with fail
  generalize (w.alloc (.cells #[.slice aN N.length cN, .slice aT T.length cT] 26)).alloc (.cells #[.slice none 0 0, .slice aN N.length cN, .slice aT T.length cT] 81) = w1 at *
  refine (rowL_all 1000 (by omega) r hz hw hf w.heap.size (w.heap.size + 1) N T [] v w1 (HV.out.low HB1.out) HS1.out (by simpa using hK)).mono ?_
  have hx := HX.out
  unfold laidO at hx
  generalize ly none r N T = y at *
  rintro r2 w2 ⟨hF2, hr⟩
  have HB2 := Lib.hid (HB1.out.trans hF2.low)
  clear hF2
  cases y with
  | error e =>
    simp only at hr hx
    subst hr hx
    go_wp2
    exact ⟨rfl, HB2.out, rfl⟩
  | ok y =>
    obtain ⟨b, N', T'⟩ := y
    obtain ⟨rfl, v', aN', cN', aT', cT', hL⟩ := hr
    obtain ⟨c1, c2, _, _⟩ := hL.cells
    rw [List.nil_append] at hL
    have HW := Lib.hid hL.wr
    simp only at hx
    have HX2 := Lib.hid hx
    clear hL hx
    by_cases h1 : N' = []
    · by_cases h2 : T' = []
      · subst h1 h2
        have hx := HX2.out
        rw [if_pos ⟨rfl, rfl⟩] at hx
        subst hx
        simp only [List.length_nil] at c1 c2
        go_wp2_with fail
        refine (Y.bytes_any (w.heap.size + 1) v' b w2 HW.out).mono ?_
        rintro r3 w3 ⟨rfl, rfl⟩
        go_wp2
        go_ret
        exact ⟨HB2.out, rfl⟩
      · subst h1
        have hx := HX2.out
        rw [if_neg (fun q => h2 q.2)] at hx
        subst hx
        have hp : 0 < T'.length := List.length_pos_iff.2 h2
        simp only [List.length_nil] at c1
        go_wp2_with fail
        refine (refuse_any 4 w2).mono ?_
        rintro r3 w3 ⟨rfl, rfl⟩
        go_wp2
        exact ⟨rfl, HB2.out, rfl⟩
    · have hx := HX2.out
      rw [if_neg (fun q => h1 q.1)] at hx
      subst hx
      have hp : 0 < N'.length := List.length_pos_iff.2 h1
      go_wp2_with fail
      refine (refuse_any 4 w2).mono ?_
      rintro r3 w3 ⟨rfl, rfl⟩
      go_wp2
      exact ⟨rfl, HB2.out, rfl⟩
end Go.Proofs.YtjogcdkebplcpaaGreatDoor
