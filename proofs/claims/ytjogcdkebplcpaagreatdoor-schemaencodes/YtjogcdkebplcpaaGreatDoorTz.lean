/-
  Several texts in one (Tx, Ty): parts of a walk. Their conditions: as each says.
-/
import Derived.Test.YtjogcdkebplcpaaGreatDoorTw
import Derived.Test.YtjogcdkebplcpaaGreatDoorPs
namespace Go.Proofs.YtjogcdkebplcpaaGreatDoor
open Go.RowKit Sch
theorem len_sz : ∀ r : Row, r.len ≤ r.sz
  | .nil => by simp [Row.len]
  | .one _ r => by have := len_sz r; simp only [Row.len, Sch.Row.sz]; omega
  | .num _ _ r => by have := len_sz r; simp only [Row.len, Sch.Row.sz]; omega
  | .opt _ _ r => by have := len_sz r; simp only [Row.len, Sch.Row.sz]; omega
  | .ch _ r => by have := len_sz r; simp only [Row.len, Sch.Row.sz]; omega
  | .arm _ _ r => by have := len_sz r; simp only [Row.len, Sch.Row.sz]; omega
/-- What the taker does at a sign whose cells are these. -/
def SgC (B0 : Nat) (w : World) (s : Nat) (cs : Array Value) (f : List UInt8 → Tr) : Prop :=
  ∀ (p q : Nat) (N : List Int) (T : List ByteArray) (l : List UInt8) (w' : World), Below B0 w w' → TkS B0 p q N T l 0 w' → l.length ≤ 65536 → N.length + T.length + s * (l.length / 4 + 1) ≤ 1000000000 →
    Calls Tryz.prog 47 #[.pointer (some ⟨p, 0, none⟩), .agg cs] w' (TkTo B0 p q N T w' (f l))
theorem node (n : Nat) (hn1 : n ≤ 1000000) (IH : ∀ i, i.sz < n → wf true i → RowT i) (B0 : Nat) (w : World) (r : Row) (hw : wf true r) (hn : r.sz ≤ n) (hne : r ≠ .nil) (ys : List Value) (hc : cellsL w (Lo B0) r ys) :
    ∃ (c k : Int) (o1 : Option Addr) (L1 c1 : Nat) (o2 : Option Addr) (L2 c2 : Nat) (ys' : List Value) (r3 : Row) (f : List UInt8 → Tr) (s : Nat),
      ys = .int .u8 c :: .int .i64 k :: .slice o1 L1 c1 :: .slice o2 L2 c2 :: ys' ∧ cellsL w (Lo B0) r3 ys' ∧ wf true r3 ∧ r.len = r3.len + 1 ∧ r.sz = s + r3.sz ∧ (∀ l, tk none r l = andT (f l) (tk none r3)) ∧ (∀ l, Few s l (f l)) ∧
      SgC B0 w s #[.int .u8 c, .int .i64 k, .slice o1 L1 c1, .slice o2 L2 c2] f := by
  cases r with
  | nil => exact absurd rfl hne
  | arm k i r => exact absurd hw (by simp [wf])
  | one c r =>
    obtain ⟨ys', e, hc2⟩ := hc
    obtain ⟨hcc, hw2⟩ := hw
    refine ⟨_, _, _, _, _, _, _, _, ys', r, oneT c, 1, e, hc2, hw2, rfl, rfl, fun l => rfl, fun l => ?_, ?_⟩
    · refine few_ofN ?_
      split
      · exact numR_len 4 l 0
      · split
        · exact numR_len 8 l 0
        · exact boolR_len l
    · intro p q N T l w' _ hS hl hK
      have hN : N.length ≤ 1000000000 := by omega
      simp only [isOne, Bool.or_eq_true, beq_iff_eq] at hcc
      rcases hcc with (rfl | rfl) | rfl
      · exact sign_u B0 p q N T l w' hS hl hN _ rfl
      · exact sign_q B0 p q N T l w' hS hl hN _ rfl
      · exact sign_b B0 p q N T l w' hS hl hN _ rfl
  | num c k r =>
    obtain ⟨ys', e, hc2⟩ := hc
    obtain ⟨hcc, hk, hw2⟩ := hw
    refine ⟨_, _, _, _, _, _, _, _, ys', r, numT c k, 1, e, hc2, hw2, rfl, rfl, fun l => rfl, fun l => ?_, ?_⟩
    · refine few_ofT ?_
      split
      · exact opqR_len _ l 0
      · exact fixR_len _ l 0
    · intro p q N T l w' _ hS hl hK
      have hT : T.length ≤ 1000000000 := by omega
      simp only [isNum, Bool.or_eq_true, beq_iff_eq] at hcc
      rcases hcc with rfl | rfl
      · exact sign_o k hk B0 p q N T l w' hS hl hT _ rfl
      · exact sign_f k hk B0 p q N T l w' hS hl hT _ rfl
  | opt c i r =>
    obtain ⟨v, us, ys', e, ⟨u1, u2, u3⟩, hc2⟩ := hc
    obtain ⟨hcc, hwi, hw2⟩ := hw
    obtain ⟨so, sc, rfl⟩ : ∃ o c, v = .slice o i.len c := SlR.slice (w := w) (A := Lo B0) (e := 92) (sz := 4) ⟨us, u1, u2, u3⟩
    have hR : RowT i := IH i (by simp only [Sch.Row.sz] at hn; omega) hwi
    refine ⟨_, _, _, _, _, _, _, _, ys', r, fun l => if c = 63 then maybeT (tk none i) l else timesT (tk none i) l, 1 + i.sz, e, hc2, hw2, rfl, rfl, fun l => rfl, fun l => ?_, ?_⟩
    · have := few_tk (.opt c i .nil) none l
      have e2 : tk none (.opt c i .nil) l = (if c = 63 then maybeT (tk none i) l else timesT (tk none i) l) := by
        simp only [tk]
        generalize (if c = 63 then maybeT (tk none i) l else timesT (tk none i) l) = z
        cases z with
        | error e => rfl
        | ok y => obtain ⟨a, b, d⟩ := y; simp [andT, pre]
      rw [e2] at this
      exact this
    · intro p q N T l w' hB hS hl hK
      have hv : SlR w' (Lo B0) 92 4 (.slice so i.len sc) i := SlR.low (w := w) ⟨us, u1, u2, u3⟩ hB
      simp only [isOpt, Bool.or_eq_true, beq_iff_eq] at hcc
      rcases hcc with rfl | rfl
      · exact sign_maybe i hR so sc B0 p q N T l w' hv hS hl hK _ rfl
      · exact sign_times i hR so sc B0 p q N T l w' hv hS hl hK _ rfl
  | ch a r =>
    obtain ⟨v, us, ys', e, ⟨u1, u2, u3⟩, hc2⟩ := hc
    obtain ⟨hwa, hw2⟩ := hw
    obtain ⟨so, sc, rfl⟩ : ∃ o c, v = .slice o a.len c := SlR.slice (w := w) (A := Lo B0) (e := 114) (sz := 2) ⟨us, u1, u2, u3⟩
    have hsa := len_sz a
    refine ⟨_, _, _, _, _, _, _, _, ys', r, armT (fun n l1 => tk (some n) a l1), 1 + a.sz, e, hc2, hw2, rfl, rfl, fun l => rfl, fun l => ?_, ?_⟩
    · exact few_and (few_ofN (numR_len 4 l 0)) fun l1 _ => few_tk a (some _) l1
    · intro p q N T l w' hB hS hl hK
      have hv : SlR w' (Lo B0) 114 2 (.slice so a.len sc) a := SlR.low (w := w) ⟨us, u1, u2, u3⟩ hB
      exact sign_ch a (fun i hi hs => IH i (by simp only [Sch.Row.sz] at hn; omega) hi) hwa (by simp only [Sch.Row.sz] at hn; omega) so sc B0 p q N T l w' hv hS hl hK _ rfl
set_option maxRecDepth 100000 in
set_option maxHeartbeats 1000000 in
theorem takeRow_of (n : Nat) (hn1 : n ≤ 1000000) (IH : ∀ i, i.sz < n → wf true i → RowT i) (r : Row) (hn : r.sz ≤ n) (hw : wf true r) : RowT r := by
  intro B0 p q N T l v w hv hS hl hK
  obtain ⟨zs, o1, o2, o3⟩ := hv
  obtain ⟨ao, ac, rfl⟩ : ∃ o c, v = .slice o r.len c := SlR.slice ⟨zs, o1, o2, o3⟩
  have O1 := Lib.hid o1
  have O2 := Lib.hid o2
  have O3 := Lib.hid o3
  have HS := Lib.hid hS
  have HW := Lib.hid hw
  have HIH := Lib.hid IH
  have hlz := len_sz r
  clear o1 o2 o3 hS hw IH
  obtain ⟨x, hx⟩ : ∃ x, tk none r l = x := ⟨_, rfl⟩
  rw [hx]
  have HX := Lib.hid hx
  clear hx
  go_enter Tryz.func24, Tryz.ntmps24
  go_wp2
  go_loopw [8] (fun x8 wr => ∃ (j : Nat) (r2 : Row) (ys : List Value) (n1 : List Int) (t1 : List ByteArray) (l1 : List UInt8), x8 = .int .i64 j ∧ j + r2.len = r.len ∧ zs.drop (4 * j) = ys ∧ cellsL w (Lo B0) r2 ys ∧ wf true r2 ∧ r2.sz ≤ r.sz ∧ TkS B0 p q (N ++ n1) (T ++ t1) l1 0 wr ∧ FrT B0 w wr ∧ x = pre n1 t1 (tk none r2 l1) ∧ l1.length ≤ l.length ∧ N.length + n1.length + (T.length + t1.length) + r2.sz * (l1.length / 4 + 1) ≤ 1000000000) (fun x8 _ => r.len - (intOf x8).toNat)
  case atStart => exact ⟨0, r, zs, [], [], l, rfl, by omega, by simp, O2.out, HW.out, Nat.le_refl _, by simpa using HS.out, FrT.refl _ _, by rw [pre_nil]; exact HX.out.symm, Nat.le_refl _, by simp; omega⟩
  case round =>
    obtain ⟨j, r2, ys, n1, t1, l1, rfl, hj, hys, hc, hw2, hsz, hS1, hF1, hx1, hl1, hK1⟩ := hrel
    have HS1 := Lib.hid hS1
    have HF1 := Lib.hid hF1
    have HX1 := Lib.hid hx1
    have hp1 := hS1.plt
    clear hS1 hF1 hx1
    by_cases hne : r2 = .nil
    · subst hne
      have hjl : ¬ j < r.len := by simp [Row.len] at hj; omega
      have hx := HX1.out
      simp only [tk, pre, List.append_nil] at hx
      subst hx
      clear hc hys
      go_wp2
      go_end0
      exact ⟨HF1.out, rfl, HS1.out⟩
    · obtain ⟨c, k, p1, L1, c1, p2, L2, c2, ys', r3, f, s, e1, hc3, hw3, hlen, hsz3, htk, hfew, hsg⟩ := node n hn1 HIH.out B0 w r2 hw2 (by omega) hne ys hc
      have hjl : j < r.len := by omega
      obtain ⟨g, cap, hv, _, hgl⟩ := O1.out.form (by omega)
      have hao : ao = some ⟨g, 0, none⟩ := by injection hv
      subst hao
      clear hv
      have hgB : g < B0 := O3.out g rfl
      have hbl : wr.heap[g]? = w.heap[g]? := HF1.out.low.block g hgB
      have z0 : zs[j * 4]? = some (.int .u8 c) := by
        have : (zs.drop (4 * j))[0]? = some (.int .u8 c) := by rw [hys, e1]; rfl
        simpa [List.getElem?_drop, Nat.mul_comm] using this
      have z1 : zs[j * 4 + 1]? = some (.int .i64 k) := by
        have : (zs.drop (4 * j))[1]? = some (.int .i64 k) := by rw [hys, e1]; rfl
        simpa [List.getElem?_drop, Nat.mul_comm] using this
      have z2 : zs[j * 4 + 2]? = some (.slice p1 L1 c1) := by
        have : (zs.drop (4 * j))[2]? = some (.slice p1 L1 c1) := by rw [hys, e1]; rfl
        simpa [List.getElem?_drop, Nat.mul_comm] using this
      have z3 : zs[j * 4 + 3]? = some (.slice p2 L2 c2) := by
        have : (zs.drop (4 * j))[3]? = some (.slice p2 L2 c2) := by rw [hys, e1]; rfl
        simpa [List.getElem?_drop, Nat.mul_comm] using this
      have d0 : wr.cell? ⟨g, j * 4, none⟩ = some (.int .u8 c) := (World.cell?_of_block hbl).trans (cellAt0 O1.out _ _ z0)
      have d1 : wr.cell? ⟨g, j * 4 + 1, none⟩ = some (.int .i64 k) := (World.cell?_of_block hbl).trans (cellAt0 O1.out _ _ z1)
      have d2 : wr.cell? ⟨g, j * 4 + 2, none⟩ = some (.slice p1 L1 c1) := (World.cell?_of_block hbl).trans (cellAt0 O1.out _ _ z2)
      have d3 : wr.cell? ⟨g, j * 4 + 3, none⟩ = some (.slice p2 L2 c2) := (World.cell?_of_block hbl).trans (cellAt0 O1.out _ _ z3)
      have hd : zs.drop (4 * (j + 1)) = ys' := by
        have : (zs.drop (4 * j)).drop 4 = ys' := by rw [hys, e1]; rfl
        rwa [List.drop_drop, show 4 * j + 4 = 4 * (j + 1) by omega] at this
      have HD := Lib.hid hd
      have HC3 := Lib.hid hc3
      have HW3 := Lib.hid hw3
      have HSG := Lib.hid hsg
      have hx := HX1.out
      rw [htk] at hx
      have HX2 := Lib.hid hx
      have HFW := Lib.hid (hfew l1)
      have hmul : r2.sz * (l1.length / 4 + 1) = s * (l1.length / 4 + 1) + r3.sz * (l1.length / 4 + 1) := by rw [hsz3, Nat.add_mul]
      clear hd hc3 hw3 hsg hx htk hfew z0 z1 z2 z3 hbl hys e1 hc hw2 hne
      go_wp2_with fail
      have hB2 : FrT B0 w (wr.alloc (.cells #[.int .u8 c, .int .i64 k, .slice p1 L1 c1, .slice p2 L2 c2] 92)) := HF1.out.alloc (by omega) _
      have hS2 := HS1.out.alloc (.cells #[.int .u8 c, .int .i64 k, .slice p1 L1 c1, .slice p2 L2 c2] 92)
      generalize wr.alloc (.cells #[.int .u8 c, .int .i64 k, .slice p1 L1 c1, .slice p2 L2 c2] 92) = w2 at *
      have HB2 := Lib.hid hB2
      refine (HSG.out p q (N ++ n1) (T ++ t1) l1 w2 hB2.low hS2 (by omega) (by simp only [List.length_append]; omega)).mono ?_
      clear hB2 hS2
      have hfw := HFW.out
      have hx2 := HX2.out
      generalize f l1 = z at *
      rintro rr w3 ⟨hB3, hr⟩
      have HB3 := Lib.hid (HB2.out.trans hB3)
      clear hB3
      cases z with
      | error e =>
        simp only at hr
        subst hr
        simp only [andT, pre] at hx2
        subst hx2
        go_wp2
        exact ⟨rfl, HB3.out, rfl⟩
      | ok z =>
        obtain ⟨n3, t3, l3⟩ := z
        obtain ⟨rfl, hS3⟩ := hr
        obtain ⟨q1, q2⟩ := hfw n3 t3 l3 rfl
        have HS3 := Lib.hid hS3
        simp only [andT, pre_pre] at hx2
        have HX3 := Lib.hid hx2
        have m1 : s * ((l1.length - l3.length) / 4 + 1) ≤ s * (l1.length / 4 + 1) := Nat.mul_le_mul_left _ (by omega)
        have m2 : r3.sz * (l3.length / 4 + 1) ≤ r3.sz * (l1.length / 4 + 1) := Nat.mul_le_mul_left _ (by omega)
        clear hS3 hx2 hfw
        go_wp2
        go_roundw
        case rel =>
          refine ⟨j + 1, r3, ys', n1 ++ n3, t1 ++ t3, l3, by go_num, by omega, HD.out, HC3.out, HW3.out, by omega, ?_, HB3.out, HX3.out, by omega, by simp only [List.length_append]; omega⟩
          have := HS3.out
          rwa [List.append_assoc, List.append_assoc] at this
        case measure => simp [intOf]; omega
theorem rowT_all : ∀ (n : Nat), n ≤ 1000000 → ∀ r : Row, r.sz ≤ n → wf true r → RowT r
  | 0, _, r, hr, hw => takeRow_of 0 (by omega) (fun i hi _ => absurd hi (by omega)) r hr hw
  | n + 1, hn, r, hr, hw => takeRow_of (n + 1) hn (fun i hi hwi => rowT_all n (by omega) i (by omega) hwi) r hr hw
end Go.Proofs.YtjogcdkebplcpaaGreatDoor
namespace Go.Proofs.YtjogcdkebplcpaaGreatDoor
open Go.RowKit Sch
theorem num5_le {t : List UInt8} {n : Nat} {r : List UInt8} (h : num5 t = some (n, r)) : n ≤ 99999 := by
  unfold num5 at h
  split at h
  · cases h
  · simp only [Option.some.injEq, Prod.mk.injEq] at h
    obtain ⟨rfl, _⟩ := h
    have h1 := decOf_lt (digs t) (fun c hc => by unfold digs at hc; exact (List.all_eq_true.1 (List.all_takeWhile (l := t.take 5) (p := isDig))) c hc)
    have h2 : (digs t).length ≤ 5 := by
      unfold digs
      have h3 := (List.takeWhile_sublist (p := isDig) (l := t.take 5)).length_le
      simp at h3
      omega
    have h4 : 10 ^ (digs t).length ≤ 10 ^ 5 := Nat.pow_le_pow_right (by decide) h2
    omega
theorem wf_pG : ∀ (f : Nat) (m : Bool) (n : Nat) (seen : List Int) (t : List UInt8) (r : Row) (t' : List UInt8), pG num5 f m n seen t = some (r, t') → wf m r ∧ r.sz + t'.length ≤ t.length
  | 0, _, _, _, _, _, _, h => by simp [pG] at h
  | f + 1, true, n, seen, t, r, t', h => by
    have ih := wf_pG f
    unfold pG at h
    split at h
    · simp at h; obtain ⟨rfl, rfl⟩ := h; simp [wf, Sch.Row.sz]
    · rename_i c t1
      split at h
      · rename_i hc
        simp at h; obtain ⟨a, h1, rfl⟩ := h; have := ih _ _ _ _ _ _ h1; simp only [wf, Sch.Row.sz, List.length_cons]; exact ⟨⟨hc, this.1⟩, by omega⟩
      · split at h
        · rename_i hc
          split at h
          · cases h
          · rename_i k t2 h2
            simp at h; obtain ⟨a, h1, rfl⟩ := h; have := ih _ _ _ _ _ _ h1; have := num5_lt h2; have hk := num5_le h2; simp only [wf, Sch.Row.sz, List.length_cons]; exact ⟨⟨hc, hk, by simp_all⟩, by omega⟩
        · split at h
          · rename_i hc
            split at h
            · cases h
            · rename_i d t2
              split at h
              · cases h
              · split at h
                · rename_i i e t3 h3
                  split at h
                  · cases h
                  · simp at h; obtain ⟨a, h1, rfl⟩ := h; have ha := ih _ _ _ _ _ _ h1; have hb := ih _ _ _ _ _ _ h3; have hb2 := hb.2; simp only [List.length_cons] at hb2; simp only [wf, Sch.Row.sz, List.length_cons]; exact ⟨⟨hc, hb.1, ha.1⟩, by have := ha.2; omega⟩
                · cases h
          · split at h
            · split at h
              · cases h
              · split at h
                · rename_i a t2 h2
                  simp at h; obtain ⟨b, h1, rfl⟩ := h; have ha := ih _ _ _ _ _ _ h1; have hb := ih _ _ _ _ _ _ h2; simp only [wf, Sch.Row.sz, List.length_cons]; exact ⟨⟨hb.1, ha.1⟩, by have := ha.2; have := hb.2; omega⟩
                · cases h
            · simp at h; obtain ⟨rfl, rfl⟩ := h; simp [wf, Sch.Row.sz]
  | f + 1, false, n, seen, t, r, t', h => by
    have ih := wf_pG f
    unfold pG at h
    split at h
    · cases h
    · rename_i k t1 hk
      have := key_lt num5_short hk
      split at h
      · rename_i i d t2 h2
        have hi := ih _ _ _ _ _ _ h2
        have hi2 := hi.2
        simp only [List.length_cons] at hi2
        split at h
        · cases h
        · split at h
          · simp at h; obtain ⟨b, h1, rfl⟩ := h; have ha := ih _ _ _ _ _ _ h1; simp only [wf, Sch.Row.sz]; exact ⟨⟨hi.1, ha.1⟩, by have := ha.2; omega⟩
          · split at h
            · simp at h; obtain ⟨rfl, rfl⟩ := h; simp only [wf, Sch.Row.sz]; exact ⟨⟨hi.1, trivial⟩, by omega⟩
            · cases h
      · cases h
theorem wf_form {t : List UInt8} {r : Row} (h : form num5 t = some r) : wf true r ∧ r.sz ≤ 1000 := by
  unfold form at h
  split at h
  · cases h
  · rename_i hl
    split at h
    · rename_i r' hp
      simp only [Option.some.injEq] at h
      subst h
      have := wf_pG _ _ _ _ _ _ _ hp
      exact ⟨this.1, by have := this.2; simp at this; omega⟩
    · cases h
theorem _root_.Go.World.ownsRow.of_le {w : World} {B B' e sz : Nat} {v : Value} {n : Nat} {xs : List Value} (h : w.ownsRow B e sz v n xs) (hB : B' ≤ B) : w.ownsRow B' e sz v n xs := by
  refine ⟨h.1, ?_⟩
  rcases h.2 with e | ⟨g, cap, cur, e, hg, r⟩
  · exact .inl e
  · exact .inr ⟨g, cap, cur, e, Nat.le_trans hB hg, r⟩
/-- The value that is all of the bytes. -/
def takenO (r : Row) (l : List UInt8) : Except Int (List Int × List ByteArray) :=
  match tk none r l with
  | .error e => .error e
  | .ok (n, t, l') => if l' = [] then .ok (n, t) else .error 6
def ValAt (B : Nat) (n : List Int) (t : List ByteArray) (vN vT : Value) (w : World) : Prop := w.ownsRow B 3 1 vN n.length (ints n) ∧ w.ownsRow B 9 1 vT t.length (strs t)
def TnTo (w : World) (x : Except Int (List Int × List ByteArray)) (r : Ending) (w' : World) : Prop :=
  Below w.heap.size w w' ∧ match x with
    | .error e => r = Bad e
    | .ok (n, t) => ∃ vN vT, r = .returned (.agg #[vN, vT]) ∧ ValAt w.heap.size n t vN vT w'
theorem results_row1 {P : Program} {fn : Func} {p : Tmp} {ty : TypeId} (h : fn.results = #[.cell p ty]) (tmps : Array Value) (w : World) (g : Nat) (t : TypeId) (cs : Array Value) (fr : Nat × Nat) (d : TypeDesc)
    (hp : tmps.getD p undef = .pointer (some ⟨g, 0, none⟩)) (hg : w.heap[g]? = some (.cells cs t fr))
    (hu : P.underlying ty = some d) (hd : (match d with | .struct _ | .array _ _ => true | _ => false) = true) (hi : (P.info? ty).map (·.size) = some cs.size) :
    (results fn tmps).run P w = .ok (.agg cs) w := by
  have hp' : tmps[p]?.getD undef = .pointer (some ⟨g, 0, none⟩) := by simpa using hp
  simp [results, h, hp', asAddr, run_loadVar_row w g t ty cs fr d hg hu hd hi]
theorem owns_slice {w : World} {B e sz : Nat} {v : Value} {n : Nat} {xs : List Value} (h : w.ownsRow B e sz v n xs) : ∃ o c, v = .slice o n c := by
  rcases h.2 with ⟨e, e2⟩ | ⟨g, cap, cur, e, _⟩
  · exact ⟨none, 0, by rw [e, e2]⟩
  · exact ⟨_, _, e⟩
set_option maxRecDepth 100000 in
set_option maxHeartbeats 1000000 in
theorem taken_any (r : Row) (v : Value) (s : ByteArray) (w : World) (hv : SlR w (Lo w.heap.size) 92 4 v r) (hw : wf true r) (hz : r.sz ≤ 1000) (hs : s.size ≤ 65536) (x : Except Int (List Int × List ByteArray)) (hx : takenO r s.data.toList = x) :
    Calls Tryz.prog 15 #[v, .string s] w (TnTo w x) := by
  have HX := Lib.hid hx
  have HV := Lib.hid hv
  clear hx hv
  have hsl : s.data.toList.length = s.size := by simp
  have HB := Lib.hid ((Below.refl _ w).alloc (Nat.le_refl _) (.cells #[.slice none 0 0, .slice none 0 0] 26))
  have HK := Lib.hid (heap_alloc_new w (.cells #[.slice none 0 0, .slice none 0 0] 26))
  have hsz : (w.alloc (.cells #[.slice none 0 0, .slice none 0 0] 26)).heap.size = w.heap.size + 1 := by simp
  have HSZ := Lib.hid hsz
  clear hsz
  go_enter Tryz.func15, Tryz.ntmps15
  go_wp2_with fail
  generalize w.alloc (.cells #[.slice none 0 0, .slice none 0 0] 26) = w1 at *
  refine (X.open_any s w1 (by unfold maxLen; omega)).mono ?_
  rintro r1 w2 ⟨rfl, hR2, hB2, hs2⟩
  have HR2 := Lib.hid hR2
  have HB2 := Lib.hid hB2
  have HS2 := Lib.hid hs2
  clear hR2 hB2 hs2
  go_wp2_with fail
  have hsz := HSZ.out
  have hs2 := HS2.out
  have hB3 : Below w1.heap.size w1 (w2.alloc (.cells #[.pointer (some ⟨w1.heap.size + 1, 0, none⟩), .slice none 0 0, .slice none 0 0] 66)) := HB2.out.alloc (by omega) _
  have hS3 : TkS w1.heap.size w2.heap.size (w1.heap.size + 1) [] [] s.data.toList 0 (w2.alloc (.cells #[.pointer (some ⟨w1.heap.size + 1, 0, none⟩), .slice none 0 0, .slice none 0 0] 66)) :=
    ⟨⟨.slice none 0 0, .slice none 0 0, ⟨heap_alloc_new w2 _, ⟨by simp [ints], .inl ⟨rfl, rfl⟩⟩, ⟨by simp [strs], .inl ⟨rfl, rfl⟩⟩, by omega, by omega⟩⟩, rd_kept HR2.out fun k cur t fr _ hk => Below.heap_alloc _ _ _ (Array.getElem?_eq_some_iff.1 hk).1⟩
  generalize w2.alloc (.cells #[.pointer (some ⟨w1.heap.size + 1, 0, none⟩), .slice none 0 0, .slice none 0 0] 66) = w3 at *
  have HB3 := Lib.hid hB3
  have hv3 : SlR w3 (Lo w1.heap.size) 92 4 v r := (HV.out.kept (fun k hk => (by show k < w1.heap.size; have : k < w.heap.size := hk; omega)) fun k hk _ => (hB3.block k (by have : k < w.heap.size := hk; omega)).trans (HB.out.block k hk))
  refine (rowT_all 1000 (by omega) r hz hw w1.heap.size w2.heap.size (w1.heap.size + 1) [] [] s.data.toList v w3 hv3 hS3 (by omega) ?_).mono ?_
  · have h1 : r.sz * (s.data.toList.length / 4 + 1) ≤ 1000 * (65536 / 4 + 1) := Nat.mul_le_mul hz (by omega)
    simp only [List.length_nil]
    omega
  clear hB3 hS3 hv3 hsz hs2
  have hx := HX.out
  unfold takenO at hx
  generalize tk none r s.data.toList = y at *
  rintro r4 w4 ⟨hB4, hr⟩
  have hB5 := HB3.out.trans hB4.low
  have hk4 : w4.heap[w.heap.size]? = _ := (hB5.block w.heap.size (by have := HSZ.out; omega)).trans HK.out
  have HW := Lib.hid (HB.out.trans (hB5.mono (by have := HSZ.out; omega)))
  have HK4 := Lib.hid hk4
  clear hB4 hB5 hk4
  cases y with
  | error e =>
    simp only at hr hx
    subst hr hx
    go_wp2
    exact ⟨rfl, HW.out, rfl⟩
  | ok y =>
    obtain ⟨n, t, l'⟩ := y
    obtain ⟨rfl, ⟨vN, vT, hTB⟩, hR4⟩ := hr
    simp only [List.nil_append] at hTB
    obtain ⟨c0, c1, c2, f1, f2⟩ := hTB.cells
    have HR4 := Lib.hid hR4
    have HTB := Lib.hid hTB
    simp only at hx
    have HX4 := Lib.hid hx
    clear hR4 hTB hx
    go_wp2_with fail
    refine (X.end_any (w1.heap.size + 1) l' 0 w4 HR4.out).mono ?_
    rintro r5 w5 ⟨rfl, rfl⟩
    by_cases hl : l' = []
    · subst hl
      have hx := HX4.out
      rw [if_pos rfl] at hx
      subst hx
      have he : X.endR [] 0 = 0 := rfl
      rw [he]
      obtain ⟨on, cn, rfl⟩ := owns_slice HTB.out.n
      obtain ⟨ot, ct, rfl⟩ := owns_slice HTB.out.t
      have k0 : w4.cell? ⟨w.heap.size, 0, none⟩ = some (.slice none 0 0) := by rw [cell_of_row _ _ _ _ _ _ HK4.out]; rfl
      have k1 : w4.cell? ⟨w.heap.size, 1, none⟩ = some (.slice none 0 0) := by rw [cell_of_row _ _ _ _ _ _ HK4.out]; rfl
      have g0 : w4.frozen? ⟨w.heap.size, 0, none⟩ = false := Lib.frozen_of_heap HK4.out _
      have g1 : w4.frozen? ⟨w.heap.size, 1, none⟩ = false := Lib.frozen_of_heap HK4.out _
      go_wp2
      have ho : X.Only w.heap.size w4 ((w4.setCell ⟨w.heap.size, 0, none⟩ (.slice on n.length cn)).setCell ⟨w.heap.size, 1, none⟩ (.slice ot t.length ct)) := ((X.Only.refl w.heap.size w4).set 0 _).set 1 _
      have hk5 : ((w4.setCell ⟨w.heap.size, 0, none⟩ (.slice on n.length cn)).setCell ⟨w.heap.size, 1, none⟩ (.slice ot t.length ct)).heap[w.heap.size]? = some (.cells #[.slice on n.length cn, .slice ot t.length ct] 26 (0, 0)) := by
        simp [World.setCell, Array.getElem?_modify, HK4.out]
      generalize ((w4.setCell ⟨w.heap.size, 0, none⟩ (.slice on n.length cn)).setCell ⟨w.heap.size, 1, none⟩ (.slice ot t.length ct)) = w6 at *
      refine bodyPost_ret (results_row1 rfl _ _ w.heap.size 26 _ (0, 0) _ rfl hk5 Tryz.underlying26 rfl (by kernel_rfl)) rfl ?_
      refine ⟨HW.out.trans (ho.below (Nat.le_refl _)), _, _, rfl, ?_, ?_⟩
      · refine (ownsB_kept HTB.out.n fun k e => ho.block k fun e' => ?_).of_le (by have := HSZ.out; omega)
        obtain ⟨_, cur, hc⟩ := ownsB_type HTB.out.n e
        subst e'
        exact absurd (blk_type hc HK4.out) (by decide)
      · refine (ownsB_kept HTB.out.t fun k e => ho.block k fun e' => ?_).of_le (by have := HSZ.out; omega)
        obtain ⟨_, cur, hc⟩ := ownsB_type HTB.out.t e
        subst e'
        exact absurd (blk_type hc HK4.out) (by decide)
    · have hx := HX4.out
      rw [if_neg hl] at hx
      subst hx
      have he : X.endR l' 0 = 6 := by unfold X.endR; rw [if_pos rfl, if_neg (by simpa using hl)]
      rw [he]
      go_wp2_with fail
      refine (refuse_any 6 _).mono ?_
      rintro r6 w6 ⟨rfl, rfl⟩
      go_wp2
      exact ⟨rfl, HW.out, rfl⟩
end Go.Proofs.YtjogcdkebplcpaaGreatDoor
