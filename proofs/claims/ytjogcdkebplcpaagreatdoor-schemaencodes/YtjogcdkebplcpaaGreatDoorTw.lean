/-
  The taker's signs with rows in them, and its row, whatever the form. Its condition: there is room.
-/
import Derived.Test.YtjogcdkebplcpaaGreatDoorTg
namespace Go.Proofs.YtjogcdkebplcpaaGreatDoor
open Go.RowKit Sch
theorem boxed {B0 : Nat} {w w' : World} {k : Nat} {cs : Array Value} (h : w.heap[k]? = some (.cells cs 92 (0, 0))) (f : FrT B0 w w') : w'.heap[k]? = some (.cells cs 92 (0, 0)) := (f.sg k cs (0, 0) h).trans h
set_option maxRecDepth 100000 in
set_option maxHeartbeats 1000000 in
theorem sign_maybe (i : Row) (HR : RowT i) (so : Option Addr) (sc : Nat) (B0 p q : Nat) (N : List Int) (T : List ByteArray) (l : List UInt8) (w : World) (hv : SlR w (Lo B0) 92 4 (.slice so i.len sc) i) (h : TkS B0 p q N T l 0 w) (hl : l.length ≤ 65536) (hK : N.length + T.length + (1 + i.sz) * (l.length / 4 + 1) ≤ 1000000000) (x : Tr) (hx : maybeT (tk none i) l = x) :
    Calls Tryz.prog 47 #[.pointer (some ⟨p, 0, none⟩), .agg #[.int .u8 63, .int .i64 0, .slice so i.len sc, nilS]] w (TkTo B0 p q N T w x) := by
  have HX := Lib.hid hx
  clear hx
  rw [Nat.add_mul, Nat.one_mul] at hK
  have HS := Lib.hid (h.alloc (.cells #[.int .u8 63, .int .i64 0, .slice so i.len sc, nilS] 92))
  have HB := Lib.hid ((FrT.refl B0 w).alloc (by have := h.plt; omega) (.cells #[.int .u8 63, .int .i64 0, .slice so i.len sc, nilS] 92))
  have HV := Lib.hid hv
  have HK := Lib.hid (heap_alloc_new w (.cells #[.int .u8 63, .int .i64 0, .slice so i.len sc, nilS] 92))
  clear h hv
  have hlen := boolR_len l
  go_enter Tryz.func47, Tryz.ntmps47
  go_wp2_with fail
  obtain ⟨b, hb⟩ : ∃ b, (X.boolR l 0).1 = b := ⟨_, rfl⟩
  obtain ⟨y, hy⟩ : ∃ y, ofN (boolN l) = y := ⟨_, rfl⟩
  refine (keepBool_any B0 p q N T l _ HS.out hl (by omega) b y hb hy).mono ?_
  have hx := HX.out
  unfold maybeT at hx
  rw [hy, hb] at hx
  have HX2 := Lib.hid hx
  clear hx
  rintro r w2 ⟨hB2, hr⟩
  have hk2 := boxed HK.out hB2
  have k2 : w2.cell? ⟨w.heap.size, 2, none⟩ = some (.slice so i.len sc) := by rw [cell_of_row _ _ _ _ _ _ hk2]; rfl
  have HB2 := Lib.hid (HB.out.trans hB2)
  clear hB2 hk2
  have hfew := few_ofN (x := boolN l) hlen
  rw [hy] at hfew
  cases y with
  | error e =>
    simp only at hr
    subst hr
    have hxx := HX2.out
    simp only [andT] at hxx
    subst hxx
    go_wp2
    exact ⟨rfl, HB2.out, rfl⟩
  | ok y =>
    obtain ⟨n, t, l2⟩ := y
    obtain ⟨rfl, hS2⟩ := hr
    obtain ⟨q1, q2⟩ := hfew n t l2 rfl
    have hnt : n.length + t.length ≤ 1 := by
      unfold ofN at hy
      split at hy
      · simp only [Except.ok.injEq, Prod.mk.injEq] at hy
        obtain ⟨rfl, rfl, _⟩ := hy
        simp
      · cases hy
    have HS2 := Lib.hid hS2
    have hxx := HX2.out
    simp only [andT] at hxx
    have HX3 := Lib.hid hxx
    clear hS2 hfew q2 hy hxx
    cases b with
    | false =>
      have hxx := HX3.out
      simp only [Bool.false_eq_true, if_false, pre, List.append_nil] at hxx
      subst hxx
      go_wp2
      go_end0
      exact ⟨HB2.out, rfl, HS2.out⟩
    | true =>
      have c1 : i.sz * (l2.length / 4 + 1) ≤ i.sz * (l.length / 4 + 1) := Nat.mul_le_mul_left _ (by omega)
      go_wp2_with fail
      refine (HR B0 p q (N ++ n) (T ++ t) l2 _ w2 (HV.out.low HB2.out.low) HS2.out (by omega) (by simp only [List.length_append]; omega)).mono ?_
      have hxx := HX3.out
      simp only [if_true] at hxx
      generalize tk none i l2 = z at *
      rintro r w3 ⟨hB3, hr⟩
      have HB3 := Lib.hid (HB2.out.trans hB3)
      clear hB3
      cases z with
      | error e =>
        simp only at hr
        subst hr
        simp only [pre] at hxx
        subst hxx
        go_wp2
        exact ⟨rfl, HB3.out, rfl⟩
      | ok z =>
        obtain ⟨n3, t3, l3⟩ := z
        obtain ⟨rfl, hS3⟩ := hr
        have HS3 := Lib.hid hS3
        clear hS3
        simp only [pre] at hxx
        subst hxx
        go_wp2
        go_end0
        refine ⟨HB3.out, rfl, ?_⟩
        have := HS3.out
        rwa [List.append_assoc, List.append_assoc] at this
set_option maxRecDepth 100000 in
set_option maxHeartbeats 1000000 in
theorem sign_times (i : Row) (HR : RowT i) (so : Option Addr) (sc : Nat) (B0 p q : Nat) (N : List Int) (T : List ByteArray) (l : List UInt8) (w : World) (hv : SlR w (Lo B0) 92 4 (.slice so i.len sc) i) (h : TkS B0 p q N T l 0 w) (hl : l.length ≤ 65536) (hK : N.length + T.length + (1 + i.sz) * (l.length / 4 + 1) ≤ 1000000000) (x : Tr) (hx : timesT (tk none i) l = x) :
    Calls Tryz.prog 47 #[.pointer (some ⟨p, 0, none⟩), .agg #[.int .u8 42, .int .i64 0, .slice so i.len sc, nilS]] w (TkTo B0 p q N T w x) := by
  have HX := Lib.hid hx
  clear hx
  rw [Nat.add_mul, Nat.one_mul] at hK
  have HS := Lib.hid (h.alloc (.cells #[.int .u8 42, .int .i64 0, .slice so i.len sc, nilS] 92))
  have HB := Lib.hid ((FrT.refl B0 w).alloc (by have := h.plt; omega) (.cells #[.int .u8 42, .int .i64 0, .slice so i.len sc, nilS] 92))
  have HV := Lib.hid (hv.low ((FrT.refl B0 w).alloc (by have := h.plt; omega) (.cells #[.int .u8 42, .int .i64 0, .slice so i.len sc, nilS] 92)).low)
  clear h hv
  go_enter Tryz.func47, Tryz.ntmps47
  go_wp2_with fail
  refine (times_of i HR B0 p q N T l _ _ HV.out HS.out hl (by omega) x HX.out).mono ?_
  rintro r w2 ⟨hB2, hr⟩
  have HB2 := Lib.hid (HB.out.trans hB2)
  clear hB2
  cases x with
  | error e =>
    simp only at hr
    subst hr
    go_wp2
    exact ⟨rfl, HB2.out, rfl⟩
  | ok y =>
    obtain ⟨n, t, l2⟩ := y
    obtain ⟨rfl, hS2⟩ := hr
    have HS2 := Lib.hid hS2
    clear hS2
    go_wp2
    go_end0
    exact ⟨HB2.out, rfl, HS2.out⟩
set_option maxRecDepth 100000 in
set_option maxHeartbeats 1000000 in
theorem sign_ch (a : Row) (HR : ∀ i, wf true i → i.sz ≤ a.sz → RowT i) (ha : wf false a) (hal : a.len ≤ 1000000) (so : Option Addr) (sc : Nat) (B0 p q : Nat) (N : List Int) (T : List ByteArray) (l : List UInt8) (w : World) (hv : SlR w (Lo B0) 114 2 (.slice so a.len sc) a) (h : TkS B0 p q N T l 0 w) (hl : l.length ≤ 65536) (hK : N.length + T.length + (1 + a.sz) * (l.length / 4 + 1) ≤ 1000000000) (x : Tr) (hx : armT (fun n l1 => tk (some n) a l1) l = x) :
    Calls Tryz.prog 47 #[.pointer (some ⟨p, 0, none⟩), .agg #[.int .u8 60, .int .i64 0, nilS, .slice so a.len sc]] w (TkTo B0 p q N T w x) := by
  have HX := Lib.hid hx
  clear hx
  rw [Nat.add_mul, Nat.one_mul] at hK
  have HS := Lib.hid (h.alloc (.cells #[.int .u8 60, .int .i64 0, nilS, .slice so a.len sc] 92))
  have HB := Lib.hid ((FrT.refl B0 w).alloc (by have := h.plt; omega) (.cells #[.int .u8 60, .int .i64 0, nilS, .slice so a.len sc] 92))
  have HV := Lib.hid hv
  have HK := Lib.hid (heap_alloc_new w (.cells #[.int .u8 60, .int .i64 0, nilS, .slice so a.len sc] 92))
  have c0 := HS.out.c0
  have hp := h.plt
  clear h hv
  have hlen := numR_len 4 l 0
  have he := numR_err 4 l
  go_enter Tryz.func47, Tryz.ntmps47
  go_wp2_with fail
  refine (X.ruint_any q l 0 _ HS.out.2 (by omega)).mono ?_
  rintro r w1 ⟨rfl, hR1, hO1⟩
  have HS1 := Lib.hid (HS.out.only hR1 hO1)
  have hF1 := HS.out.below hO1
  have HK1 := Lib.hid (boxed HK.out hF1)
  have HB1 := Lib.hid (HB.out.trans hF1)
  clear hR1 hO1 hF1 HK HB
  have hx := HX.out
  unfold armT at hx
  clear HX
  generalize X.numR 4 l 0 = y at *
  obtain ⟨nn, l1, e1⟩ := y
  dsimp only at HS1 he hlen hx ⊢
  have HX2 := Lib.hid hx
  clear hx
  go_wp2_with fail
  refine (keep_any B0 p q N T l1 e1 nn w1 HS1.out (by omega) (by omega)).mono ?_
  rintro r w2 ⟨hB2, hr⟩
  have hk2 := boxed HK1.out hB2
  have k3 : w2.cell? ⟨w.heap.size, 3, none⟩ = some (.slice so a.len sc) := by rw [cell_of_row _ _ _ _ _ _ hk2]; rfl
  have HB2 := Lib.hid (HB1.out.trans hB2)
  clear hB2 hk2
  by_cases h0 : e1 = 0
  · subst h0
    have ho : ofN (nn, l1, 0) = .ok ([nn], [], l1) := rfl
    rw [ho] at hr
    have hx := HX2.out
    rw [ho] at hx
    simp only [andT, tk_some] at hx
    obtain ⟨rfl, hS2⟩ := hr
    have hs2 := hS2.plt
    have HS2 := Lib.hid hS2
    have HX3 := Lib.hid hx
    clear hS2 hx ho
    go_wp2_with fail
    refine (chosen_any B0 _ a nn w2 (HV.out.low HB2.out.low) ha (by omega) hal).mono ?_
    rintro r w3 ⟨hB3, hr⟩
    have HB3 := Lib.hid (HB2.out.trans (FrT.of_below hB3 (by omega)))
    have HS3 := Lib.hid (HS2.out.later hB3)
    clear hB3
    cases hpk : pick nn a with
    | none =>
      rw [hpk] at hr
      simp only at hr
      subst hr
      have hx := HX3.out
      rw [hpk] at hx
      simp only [pre] at hx
      subst hx
      go_wp2
      exact ⟨rfl, HB3.out, rfl⟩
    | some i =>
      rw [hpk] at hr
      obtain ⟨u, rfl, hu, hwi, hsi⟩ := hr
      have hx := HX3.out
      rw [hpk] at hx
      simp only at hx
      have HX4 := Lib.hid hx
      have HU := Lib.hid hu
      have c1 : i.sz * (l1.length / 4 + 1) ≤ a.sz * (l.length / 4 + 1) := Nat.mul_le_mul hsi (by omega)
      clear hx hu hpk
      go_wp2_with fail
      refine (HR i hwi hsi B0 p q (N ++ [nn]) (T ++ []) l1 u w3 HU.out HS3.out (by omega) (by simp only [List.length_append, List.length_cons, List.length_nil]; omega)).mono ?_
      have hxx := HX4.out
      generalize tk none i l1 = z at *
      rintro r w4 ⟨hB4, hr⟩
      have HB4 := Lib.hid (HB3.out.trans hB4)
      clear hB4
      cases z with
      | error e =>
        simp only at hr
        subst hr
        simp only [pre] at hxx
        subst hxx
        go_wp2
        exact ⟨rfl, HB4.out, rfl⟩
      | ok z =>
        obtain ⟨n3, t3, l3⟩ := z
        obtain ⟨rfl, hS4⟩ := hr
        have HS4 := Lib.hid hS4
        clear hS4
        simp only [pre] at hxx
        subst hxx
        go_wp2
        go_end0
        refine ⟨HB4.out, rfl, ?_⟩
        have := HS4.out
        rwa [List.append_assoc, List.append_assoc] at this
  · have ho : ofN (nn, l1, e1) = .error e1 := if_neg h0
    rw [ho] at hr
    simp only at hr
    subst hr
    have hx := HX2.out
    rw [ho] at hx
    simp only [andT] at hx
    subst hx
    go_wp2
    exact ⟨rfl, HB2.out, rfl⟩
end Go.Proofs.YtjogcdkebplcpaaGreatDoor
