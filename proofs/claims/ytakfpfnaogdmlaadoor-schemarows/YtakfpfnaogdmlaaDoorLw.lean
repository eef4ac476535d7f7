/-
  The layer's row, whatever the form. Its condition: there is room.
-/
import Derived.Test.YtakfpfnaogdmlaaDoorLu
namespace Go.Proofs.YtakfpfnaogdmlaaDoor
open Go.RowKit Sch
theorem pick_full (n : Int) : ∀ (a i : Row), fullR a → pick n a = some i → fullR i
  | .arm k j r, i, h, e => by
    simp only [pick] at e
    split at e
    · simp only [Option.some.injEq] at e; subst e; exact h.1
    · exact pick_full n r i h.2 e
  | .nil, _, _, e => by simp [pick] at e
  | .one _ _, _, _, e => by simp [pick] at e
  | .num _ _ _, _, _, e => by simp [pick] at e
  | .opt _ _ _, _, _, e => by simp [pick] at e
  | .ch _ _, _, _, e => by simp [pick] at e
/-- What the layer does at a sign whose cells are these. -/
def SgL (B0 : Nat) (w : World) (cs : Array Value) (f : List Int → List ByteArray → Lr) : Prop :=
  ∀ (p : Nat) (N : List Int) (T : List ByteArray) (l : List UInt8) (w' : World), Below B0 w w' → LyS B0 p N T l w' → l.length + worth N T + 200000 ≤ 140737488355328 →
    Calls Tryd.prog 57 #[.pointer (some ⟨p, 0, none⟩), .agg cs] w' (LyTo B0 p l w' (f N T))
theorem lnode (n : Nat) (hn1 : n ≤ 1000000) (IH : ∀ i, i.sz < n → wf true i → fullR i → RowL i) (B0 : Nat) (w : World) (r : Row) (hw : wf true r) (hfu : fullR r) (hn : r.sz ≤ n) (hne : r ≠ .nil) (ys : List Value) (hc : cellsL w (Lo B0) r ys) :
    ∃ (c k : Int) (o1 : Option Addr) (L1 c1 : Nat) (o2 : Option Addr) (L2 c2 : Nat) (ys' : List Value) (r3 : Row) (f : List Int → List ByteArray → Lr),
      ys = .int .u8 c :: .int .i64 k :: .slice o1 L1 c1 :: .slice o2 L2 c2 :: ys' ∧ cellsL w (Lo B0) r3 ys' ∧ wf true r3 ∧ fullR r3 ∧ r.len = r3.len + 1 ∧ r3.sz ≤ r.sz ∧ (∀ N T, ly none r N T = andL (f N T) (ly none r3)) ∧ (∀ N T, Cheap 0 N T (f N T)) ∧
      SgL B0 w #[.int .u8 c, .int .i64 k, .slice o1 L1 c1, .slice o2 L2 c2] f := by
  cases r with
  | nil => exact absurd rfl hne
  | arm k i r => exact absurd hw (by simp [wf])
  | one c r =>
    obtain ⟨ys', e, hc2⟩ := hc
    obtain ⟨hcc, hw2⟩ := hw
    refine ⟨_, _, _, _, _, _, _, _, ys', r, oneL c, e, hc2, hw2, hfu, rfl, by simp only [Sch.Row.sz]; omega, fun N T => rfl, fun N T => ?_, ?_⟩
    · unfold oneL
      split
      · exact (cheap_num _ _ 4 (by omega) N T).less (Nat.zero_le _)
      · split
        · exact (cheap_num _ _ 8 (by omega) N T).less (Nat.zero_le _)
        · exact (cheap_num _ _ 4 (by omega) N T).less (Nat.zero_le _)
    · intro p N T l w' _ hS hK
      simp only [isOne, Bool.or_eq_true, beq_iff_eq] at hcc
      rcases hcc with (rfl | rfl) | rfl
      · exact lsign_u B0 p N T l w' hS (by omega) _ rfl
      · exact lsign_q B0 p N T l w' hS (by omega) _ rfl
      · exact lsign_b B0 p N T l w' hS (by omega) _ rfl
  | num c k r =>
    obtain ⟨ys', e, hc2⟩ := hc
    obtain ⟨hcc, hk, hw2⟩ := hw
    refine ⟨_, _, _, _, _, _, _, _, ys', r, fun N T => txtL c k N T, e, hc2, hw2, hfu, rfl, by simp only [Sch.Row.sz]; omega, fun N T => rfl, fun N T => (cheap_txt c k hk N T).less (Nat.zero_le _), ?_⟩
    intro p N T l w' _ hS hK
    simp only [isNum, Bool.or_eq_true, beq_iff_eq] at hcc
    rcases hcc with rfl | rfl
    · exact lsign_o k hk B0 p N T l w' hS (by omega) _ rfl
    · exact lsign_f k hk B0 p N T l w' hS (by omega) _ rfl
  | opt c i r =>
    obtain ⟨v, us, ys', e, ⟨u1, u2, u3⟩, hc2⟩ := hc
    have hwa := hw
    obtain ⟨hcc, hwi, hw2⟩ := hw
    obtain ⟨hf1, hf2, hf3⟩ := hfu
    obtain ⟨so, sc, rfl⟩ : ∃ o c, v = .slice o i.len c := SlR.slice (w := w) (A := Lo B0) (e := 109) (sz := 4) ⟨us, u1, u2, u3⟩
    have hR : RowL i := IH i (by simp only [Sch.Row.sz] at hn; omega) hwi hf2
    refine ⟨_, _, _, _, _, _, _, _, ys', r, fun N T => if c = 63 then maybeL (ly none i) N T else timesL (ly none i) N T, e, hc2, hw2, hf3, rfl, by simp only [Sch.Row.sz]; omega, fun N T => rfl, fun N T => ?_, ?_⟩
    · have h1 := cheap_ly (.opt c i .nil) none true ⟨hcc, hwi, trivial⟩ ⟨hf1, hf2, trivial⟩ N T
      have e2 : ly none (.opt c i .nil) N T = (if c = 63 then maybeL (ly none i) N T else timesL (ly none i) N T) := by
        simp only [ly]
        generalize (if c = 63 then maybeL (ly none i) N T else timesL (ly none i) N T) = z
        cases z with
        | error e => rfl
        | ok y => obtain ⟨a, b, d⟩ := y; simp [andL, preL]
      rw [e2] at h1
      exact h1.less (Nat.zero_le _)
    · intro p N T l w' hB hS hK
      have hv : SlR w' (Lo B0) 109 4 (.slice so i.len sc) i := SlR.low (w := w) ⟨us, u1, u2, u3⟩ hB
      simp only [isOpt, Bool.or_eq_true, beq_iff_eq] at hcc
      rcases hcc with rfl | rfl
      · exact lsign_maybe i hR so sc B0 p N T l w' hv hS hK _ rfl
      · refine lsign_times i hR (fun N T => ?_) so sc B0 p N T l w' hv hS hK _ rfl
        have := cheap_ly i none true hwi hf2 N T
        rwa [if_pos ⟨rfl, hf1 (by decide)⟩] at this
  | ch a r =>
    obtain ⟨v, us, ys', e, ⟨u1, u2, u3⟩, hc2⟩ := hc
    obtain ⟨hwa, hw2⟩ := hw
    obtain ⟨hf1, hf2⟩ := hfu
    obtain ⟨so, sc, rfl⟩ : ∃ o c, v = .slice o a.len c := SlR.slice (w := w) (A := Lo B0) (e := 127) (sz := 2) ⟨us, u1, u2, u3⟩
    have hsa := len_sz a
    refine ⟨_, _, _, _, _, _, _, _, ys', r, armL (fun n N' T' => ly (some n) a N' T'), e, hc2, hw2, hf2, rfl, by simp only [Sch.Row.sz]; omega, fun N T => rfl, fun N T => ?_, ?_⟩
    · exact Cheap.less (d := 88 + 0) (cheap_and (cheap_num _ _ 4 (by omega) N T) fun N' T' => (cheap_ly a (some _) false hwa hf1 N' T').less (Nat.zero_le _)) (by omega)
    · intro p N T l w' hB hS hK
      have hv : SlR w' (Lo B0) 127 2 (.slice so a.len sc) a := SlR.low (w := w) ⟨us, u1, u2, u3⟩ hB
      exact lsign_ch a (fun i hi hs hp => by obtain ⟨m, hm⟩ := hp; exact IH i (by simp only [Sch.Row.sz] at hn; omega) hi (pick_full m a i hf1 hm)) hwa (by simp only [Sch.Row.sz] at hn; omega) so sc B0 p N T l w' hv hS hK _ rfl
set_option maxRecDepth 100000 in
set_option maxHeartbeats 1000000 in
theorem layRow_of (n : Nat) (hn1 : n ≤ 1000000) (IH : ∀ i, i.sz < n → wf true i → fullR i → RowL i) (r : Row) (hn : r.sz ≤ n) (hw : wf true r) (hfu : fullR r) : RowL r := by
  intro B0 p N T l v w hv hS hK
  obtain ⟨zs, o1, o2, o3⟩ := hv
  obtain ⟨ao, ac, rfl⟩ : ∃ o c, v = .slice o r.len c := SlR.slice ⟨zs, o1, o2, o3⟩
  have O1 := Lib.hid o1
  have O2 := Lib.hid o2
  have O3 := Lib.hid o3
  have HS := Lib.hid hS
  have HW := Lib.hid (And.intro hw hfu)
  have HIH := Lib.hid IH
  have hlz := len_sz r
  clear o1 o2 o3 hS hw hfu IH
  obtain ⟨x, hx⟩ : ∃ x, ly none r N T = x := ⟨_, rfl⟩
  rw [hx]
  have HX := Lib.hid hx
  clear hx
  go_enter Tryd.func46, Tryd.ntmps46
  go_wp2
  go_loopw [8] (fun x8 wr => ∃ (j : Nat) (r2 : Row) (ys : List Value) (b1 : List UInt8) (N1 : List Int) (T1 : List ByteArray), x8 = .int .i64 j ∧ j + r2.len = r.len ∧ zs.drop (4 * j) = ys ∧ cellsL w (Lo B0) r2 ys ∧ (wf true r2 ∧ fullR r2) ∧ r2.sz ≤ r.sz ∧ LyS B0 p N1 T1 (l ++ b1) wr ∧ FrT B0 w wr ∧ x = preL b1 (ly none r2 N1 T1) ∧ b1.length + worth N1 T1 ≤ worth N T) (fun x8 _ => r.len - (intOf x8).toNat)
  case atStart => exact ⟨0, r, zs, [], N, T, rfl, by omega, by simp, O2.out, HW.out, Nat.le_refl _, by simpa using HS.out, FrT.refl _ _, by rw [preL_nil]; exact HX.out.symm, by simp⟩
  case round =>
    obtain ⟨j, r2, ys, b1, N1, T1, rfl, hj, hys, hc, ⟨hw2, hfu2⟩, hsz, hS1, hF1, hx1, hK1⟩ := hrel
    have HS1 := Lib.hid hS1
    have HF1 := Lib.hid hF1
    have HX1 := Lib.hid hx1
    have hp1 := hS1.plt
    clear hS1 hF1 hx1
    by_cases hne : r2 = .nil
    · subst hne
      have hjl : ¬ j < r.len := by simp [Row.len] at hj; omega
      have hx := HX1.out
      simp only [ly, preL, List.append_nil] at hx
      subst hx
      clear hc hys
      go_wp2
      go_end0
      exact ⟨HF1.out, rfl, HS1.out⟩
    · obtain ⟨c, k, p1, L1, c1, p2, L2, c2, ys', r3, f, e1, hc3, hw3, hfu3, hlen, hsz3, htk, hfew, hsg⟩ := lnode n hn1 HIH.out B0 w r2 hw2 hfu2 (by omega) hne ys hc
      have hjl : j < r.len := by omega
      obtain ⟨g, cap, hv, _, hgl⟩ := O1.out.form (by omega)
      have hao : ao = some ⟨g, 0, none⟩ := by injection hv
      subst hao
      clear hv
      have hgB : g < B0 := O3.out g rfl
      have hbl : wr.heap[g]? = w.heap[g]? := HF1.out.low.block g hgB
      have z0 : zs[j * 4]? = some (.int .u8 c) := by
        have : (zs.drop (4 * j))[0]? = some (.int .u8 c) := by rw [hys, e1]; rfl
        simpa [List.getElem?_drop, Nat.mul_comm] using this
      have z1 : zs[j * 4 + 1]? = some (.int .i64 k) := by
        have : (zs.drop (4 * j))[1]? = some (.int .i64 k) := by rw [hys, e1]; rfl
        simpa [List.getElem?_drop, Nat.mul_comm] using this
      have z2 : zs[j * 4 + 2]? = some (.slice p1 L1 c1) := by
        have : (zs.drop (4 * j))[2]? = some (.slice p1 L1 c1) := by rw [hys, e1]; rfl
        simpa [List.getElem?_drop, Nat.mul_comm] using this
      have z3 : zs[j * 4 + 3]? = some (.slice p2 L2 c2) := by
        have : (zs.drop (4 * j))[3]? = some (.slice p2 L2 c2) := by rw [hys, e1]; rfl
        simpa [List.getElem?_drop, Nat.mul_comm] using this
      have d0 : wr.cell? ⟨g, j * 4, none⟩ = some (.int .u8 c) := (World.cell?_of_block hbl).trans (cellAt0 O1.out _ _ z0)
      have d1 : wr.cell? ⟨g, j * 4 + 1, none⟩ = some (.int .i64 k) := (World.cell?_of_block hbl).trans (cellAt0 O1.out _ _ z1)
      have d2 : wr.cell? ⟨g, j * 4 + 2, none⟩ = some (.slice p1 L1 c1) := (World.cell?_of_block hbl).trans (cellAt0 O1.out _ _ z2)
      have d3 : wr.cell? ⟨g, j * 4 + 3, none⟩ = some (.slice p2 L2 c2) := (World.cell?_of_block hbl).trans (cellAt0 O1.out _ _ z3)
      have hd : zs.drop (4 * (j + 1)) = ys' := by
        have : (zs.drop (4 * j)).drop 4 = ys' := by rw [hys, e1]; rfl
        rwa [List.drop_drop, show 4 * j + 4 = 4 * (j + 1) by omega] at this
      have HD := Lib.hid hd
      have HC3 := Lib.hid hc3
      have HW3 := Lib.hid (And.intro hw3 hfu3)
      have HSG := Lib.hid hsg
      have hx := HX1.out
      rw [htk] at hx
      have HX2 := Lib.hid hx
      have HFW := Lib.hid (hfew N1 T1)
      clear hd hc3 hw3 hfu3 hfu2 hsg hx htk hfew z0 z1 z2 z3 hbl hys e1 hc hw2 hne
      go_wp2_with fail
      have hB2 : FrT B0 w (wr.alloc (.cells #[.int .u8 c, .int .i64 k, .slice p1 L1 c1, .slice p2 L2 c2] 109)) := HF1.out.alloc (by omega) _
      have hS2 := HS1.out.alloc (.cells #[.int .u8 c, .int .i64 k, .slice p1 L1 c1, .slice p2 L2 c2] 109)
      generalize wr.alloc (.cells #[.int .u8 c, .int .i64 k, .slice p1 L1 c1, .slice p2 L2 c2] 109) = w2 at *
      have HB2 := Lib.hid hB2
      refine (HSG.out p N1 T1 (l ++ b1) w2 hB2.low hS2 (by rw [List.length_append]; omega)).mono ?_
      clear hB2 hS2
      have hfw := HFW.out
      have hx2 := HX2.out
      generalize f N1 T1 = z at *
      rintro rr w3 ⟨hB3, hr⟩
      have HB3 := Lib.hid (HB2.out.trans hB3)
      clear hB3
      cases z with
      | error e =>
        simp only at hr
        subst hr
        simp only [andL, preL] at hx2
        subst hx2
        go_wp2
        exact ⟨rfl, HB3.out, rfl⟩
      | ok z =>
        obtain ⟨b3, N3, T3⟩ := z
        obtain ⟨rfl, hS3⟩ := hr
        have q2 := hfw b3 N3 T3 rfl
        have HS3 := Lib.hid hS3
        simp only [andL, preL_preL] at hx2
        have HX3 := Lib.hid hx2
        clear hS3 hx2 hfw
        go_wp2
        go_roundw
        case rel =>
          refine ⟨j + 1, r3, ys', b1 ++ b3, N3, T3, by go_num, by omega, HD.out, HC3.out, HW3.out, by omega, ?_, HB3.out, HX3.out, by rw [List.length_append]; omega⟩
          have := HS3.out
          rwa [List.append_assoc] at this
        case measure => simp [intOf]; omega
theorem rowL_all : ∀ (n : Nat), n ≤ 1000000 → ∀ r : Row, r.sz ≤ n → wf true r → fullR r → RowL r
  | 0, _, r, hr, hw, hf => layRow_of 0 (by omega) (fun i hi _ _ => absurd hi (by omega)) r hr hw hf
  | n + 1, hn, r, hr, hw, hf => layRow_of (n + 1) hn (fun i hi hwi hfi => rowL_all n (by omega) i (by omega) hwi hfi) r hr hw hf
end Go.Proofs.YtakfpfnaogdmlaaDoor
