/-
  One sign, as long as shorter rows are told. No condition but that.
-/
import Derived.Test.YtjogcdkebplcpaaGreatDoorCh
namespace Go.Proofs.YtjogcdkebplcpaaGreatDoor
open Go.RowKit Sch

def SignR (B : Nat) (x : Row) (v : Value) (w' : World) : Prop := ∃ (c : Int) (m : Int) (o1 : Option Addr) (l1 c1 : Nat) (o2 : Option Addr) (l2 c2 : Nat),
  v = .agg #[.int .u8 c, .int .i64 m, .slice o1 l1 c1, .slice o2 l2 c2] ∧ x.len = 1 ∧ cellsL w' (fun k => B ≤ k) x [.int .u8 c, .int .i64 m, .slice o1 l1 c1, .slice o2 l2 c2]

theorem FrP.far {p B : Nat} {w a b : World} (h : FrP p w a) (hB : w.heap.size ≤ B) (f : FrP B a b) : FrP p w b :=
  ⟨f.os.trans h.os, f.tape.trans h.tape, f.output.trans h.output, Nat.le_trans h.size f.size, fun k hk hp => (f.block k (Nat.lt_of_lt_of_le hk h.size) (by omega)).trans (h.block k hk hp)⟩
theorem SlR.far {B B' : Nat} {e sz : Nat} {r : Row} {v : Value} {a b : World} {p q : Nat} (h : SlR a (fun k => B' ≤ k) e sz v r) (hB : B ≤ B') (hp : p < B') (hq : q < B') (f : ∀ k, k ≠ p → k ≠ q → b.heap[k]? = a.heap[k]?) : SlR b (fun k => B ≤ k) e sz v r :=
  h.kept (fun k hk => by have : B' ≤ k := hk; show B ≤ k; omega) fun k hk _ => f k (by have : B' ≤ k := hk; omega) (by have : B' ≤ k := hk; omega)
theorem set_far (w : World) (B o : Nat) (v : Value) (k : Nat) (hk : k ≠ B) : (w.setCell ⟨B, o, none⟩ v).heap[k]? = w.heap[k]? := Below.heap_setCell _ _ _ _ hk
theorem row_set {w : World} {B : Nat} {cs : Array Value} {t : Nat} (o : Nat) (v : Value) (h : w.heap[B]? = some (.cells cs t (0, 0))) : (w.setCell ⟨B, o, none⟩ v).heap[B]? = some (.cells (cs.setIfInBounds o v) t (0, 0)) := by
  simp [World.setCell, Array.getElem?_modify, h]

/-- The sign's own two blocks, laid. -/
theorem laid2 (w : World) (p : Nat) (c : UInt8) (t1 : List UInt8) (n : Nat) (h : Pa w p (c :: t1) n) (a b : Obj) (w' : World) (hw : w' = ((w.setCell ⟨p, 0, none⟩ (.string ⟨t1.toArray⟩)).alloc a).alloc b) :
    Pa w' p t1 n ∧ FrP p w w' ∧ w'.heap[w.heap.size]? = some a ∧ w'.heap[w.heap.size + 1]? = some b ∧ w'.heap.size = w.heap.size + 2 := by
  subst hw
  have hpl := h.lt
  have hs : (w.setCell ⟨p, 0, none⟩ (.string ⟨t1.toArray⟩)).heap.size = w.heap.size := by simp [World.setCell]
  refine ⟨?_, (((FrP.refl p w).set 0 _).alloc _).alloc _, ?_, ?_, ?_⟩
  · exact (Below.heap_alloc _ _ _ (by simp; omega)).trans ((Below.heap_alloc _ _ _ (by omega)).trans (h.set0 t1))
  · rw [Below.heap_alloc _ _ _ (by simp), ← hs]; exact heap_alloc_new _ _
  · have e := heap_alloc_new ((w.setCell ⟨p, 0, none⟩ (.string ⟨t1.toArray⟩)).alloc a) b
    have e2 : ((w.setCell ⟨p, 0, none⟩ (.string ⟨t1.toArray⟩)).alloc a).heap.size = w.heap.size + 1 := by rw [← hs]; simp
    rwa [e2] at e
  · simp

/-- The sign's end: its field laid, and all of it laid over the result. -/
theorem fin5 (p : Nat) (w wc : World) (o : Nat) (vf va vb vc vd : Value) (hF : FrP p w wc) (hB0 : wc.heap[w.heap.size]? = some (.cells #[.int .u8 0, .int .i64 0, nilS, nilS] 92 (0, 0))) (W : World)
    (hW : W = ((((wc.setCell ⟨w.heap.size + 1, o, none⟩ vf).setCell ⟨w.heap.size, 0, none⟩ va).setCell ⟨w.heap.size, 1, none⟩ vb).setCell ⟨w.heap.size, 2, none⟩ vc).setCell ⟨w.heap.size, 3, none⟩ vd) :
    W.heap[w.heap.size]? = some (.cells #[va, vb, vc, vd] 92 (0, 0)) ∧ (∀ b, b ≠ w.heap.size → b ≠ w.heap.size + 1 → W.heap[b]? = wc.heap[b]?) ∧ FrP p w W := by
  subst hW
  have h1 : (wc.setCell ⟨w.heap.size + 1, o, none⟩ vf).heap[w.heap.size]? = some (.cells #[.int .u8 0, .int .i64 0, nilS, nilS] 92 (0, 0)) := (set_far _ _ _ _ _ (by omega)).trans hB0
  refine ⟨row_set 3 vd (row_set 2 vc (row_set 1 vb (row_set 0 va h1))), fun b h0 h1 => ?_, ?_⟩
  · rw [set_far _ _ _ _ _ h0, set_far _ _ _ _ _ h0, set_far _ _ _ _ _ h0, set_far _ _ _ _ _ h0, set_far _ _ _ _ _ h1]
  · exact ((((hF.far (Nat.le_succ _) ((FrP.refl _ _).set o vf)).far (Nat.le_refl _) ((FrP.refl _ _).set 0 va)).far (Nat.le_refl _) ((FrP.refl _ _).set 1 vb)).far (Nat.le_refl _) ((FrP.refl _ _).set 2 vc)).far (Nat.le_refl _) ((FrP.refl _ _).set 3 vd)

set_option maxRecDepth 100000 in
set_option maxHeartbeats 600000 in
theorem sign_117 (p : Nat) (t1 : List UInt8) (n f : Nat) (w : World) (h : Pa w p (117 :: t1) n) (ht : t1.length + 1 ≤ 1000) :
    Calls Tryz.prog 46 #[.pointer (some ⟨p, 0, none⟩)] w (PPost p w n (sg num5 f n 117 t1) (SignR w.heap.size)) := by
  have hpl := h.lt
  obtain ⟨c0, _, f0, _⟩ := h.cells
  have H := Lib.hid h
  obtain ⟨S, hS⟩ : ∃ S : ByteArray, S = ⟨(117 :: t1).toArray⟩ := ⟨_, rfl⟩
  have hsz : S.size = t1.length + 1 := by rw [hS]; show (117 :: t1).toArray.size = _; simp
  have hpos : 0 < S.size := by omega
  have hle : S.size ≤ 1000 := by omega
  have hat : S[0] = 117 := by subst hS; rfl
  have hx : S.extract 1 S.size = ⟨t1.toArray⟩ := by rw [hsz, hS]; exact extract_cons 117 t1
  rw [← hS] at c0
  have HS := Lib.hid hS
  have HSZ := Lib.hid hsz
  clear h hS hsz
  go_enter Tryz.func46, Tryz.ntmps46
  go_wp2
  obtain ⟨q1, q2, q3, q4, q5⟩ := laid2 w p 117 t1 n H.out _ _ _ rfl
  refine bodyPost_ret (results_cell_row rfl _ _ w.heap.size 92 _ (0, 0) _ rfl q3 Tryz.underlying92 rfl (by kernel_rfl)) rfl ?_
  exact PPost.some (a := .one 117 .nil) (t' := t1) rfl rfl ⟨_, _, _, _, _, _, _, _, rfl, rfl, [], rfl, rfl⟩ q1 q2

set_option maxRecDepth 100000 in
set_option maxHeartbeats 600000 in
theorem sign_113 (p : Nat) (t1 : List UInt8) (n f : Nat) (w : World) (h : Pa w p (113 :: t1) n) (ht : t1.length + 1 ≤ 1000) :
    Calls Tryz.prog 46 #[.pointer (some ⟨p, 0, none⟩)] w (PPost p w n (sg num5 f n 113 t1) (SignR w.heap.size)) := by
  have hpl := h.lt
  obtain ⟨c0, _, f0, _⟩ := h.cells
  have H := Lib.hid h
  obtain ⟨S, hS⟩ : ∃ S : ByteArray, S = ⟨(113 :: t1).toArray⟩ := ⟨_, rfl⟩
  have hsz : S.size = t1.length + 1 := by rw [hS]; show (113 :: t1).toArray.size = _; simp
  have hpos : 0 < S.size := by omega
  have hle : S.size ≤ 1000 := by omega
  have hat : S[0] = 113 := by subst hS; rfl
  have hx : S.extract 1 S.size = ⟨t1.toArray⟩ := by rw [hsz, hS]; exact extract_cons 113 t1
  rw [← hS] at c0
  have HS := Lib.hid hS
  have HSZ := Lib.hid hsz
  clear h hS hsz
  go_enter Tryz.func46, Tryz.ntmps46
  go_wp2
  obtain ⟨q1, q2, q3, q4, q5⟩ := laid2 w p 113 t1 n H.out _ _ _ rfl
  refine bodyPost_ret (results_cell_row rfl _ _ w.heap.size 92 _ (0, 0) _ rfl q3 Tryz.underlying92 rfl (by kernel_rfl)) rfl ?_
  exact PPost.some (a := .one 113 .nil) (t' := t1) rfl rfl ⟨_, _, _, _, _, _, _, _, rfl, rfl, [], rfl, rfl⟩ q1 q2

set_option maxRecDepth 100000 in
set_option maxHeartbeats 600000 in
theorem sign_98 (p : Nat) (t1 : List UInt8) (n f : Nat) (w : World) (h : Pa w p (98 :: t1) n) (ht : t1.length + 1 ≤ 1000) :
    Calls Tryz.prog 46 #[.pointer (some ⟨p, 0, none⟩)] w (PPost p w n (sg num5 f n 98 t1) (SignR w.heap.size)) := by
  have hpl := h.lt
  obtain ⟨c0, _, f0, _⟩ := h.cells
  have H := Lib.hid h
  obtain ⟨S, hS⟩ : ∃ S : ByteArray, S = ⟨(98 :: t1).toArray⟩ := ⟨_, rfl⟩
  have hsz : S.size = t1.length + 1 := by rw [hS]; show (98 :: t1).toArray.size = _; simp
  have hpos : 0 < S.size := by omega
  have hle : S.size ≤ 1000 := by omega
  have hat : S[0] = 98 := by subst hS; rfl
  have hx : S.extract 1 S.size = ⟨t1.toArray⟩ := by rw [hsz, hS]; exact extract_cons 98 t1
  rw [← hS] at c0
  have HS := Lib.hid hS
  have HSZ := Lib.hid hsz
  clear h hS hsz
  go_enter Tryz.func46, Tryz.ntmps46
  go_wp2
  obtain ⟨q1, q2, q3, q4, q5⟩ := laid2 w p 98 t1 n H.out _ _ _ rfl
  refine bodyPost_ret (results_cell_row rfl _ _ w.heap.size 92 _ (0, 0) _ rfl q3 Tryz.underlying92 rfl (by kernel_rfl)) rfl ?_
  exact PPost.some (a := .one 98 .nil) (t' := t1) rfl rfl ⟨_, _, _, _, _, _, _, _, rfl, rfl, [], rfl, rfl⟩ q1 q2

set_option maxRecDepth 100000 in
set_option maxHeartbeats 600000 in
theorem sign_111 (p : Nat) (t1 : List UInt8) (n f : Nat) (w : World) (h : Pa w p (111 :: t1) n) (ht : t1.length + 1 ≤ 1000) :
    Calls Tryz.prog 46 #[.pointer (some ⟨p, 0, none⟩)] w (PPost p w n (sg num5 f n 111 t1) (SignR w.heap.size)) := by
  have hpl := h.lt
  obtain ⟨c0, _, f0, _⟩ := h.cells
  have H := Lib.hid h
  obtain ⟨S, hS⟩ : ∃ S : ByteArray, S = ⟨(111 :: t1).toArray⟩ := ⟨_, rfl⟩
  have hsz : S.size = t1.length + 1 := by rw [hS]; show (111 :: t1).toArray.size = _; simp
  have hpos : 0 < S.size := by omega
  have hle : S.size ≤ 1000 := by omega
  have hat : S[0] = 111 := by subst hS; rfl
  have hx : S.extract 1 S.size = ⟨t1.toArray⟩ := by rw [hsz, hS]; exact extract_cons 111 t1
  rw [← hS] at c0
  have HS := Lib.hid hS
  have HSZ := Lib.hid hsz
  clear h hS hsz
  go_enter Tryz.func46, Tryz.ntmps46
  go_wp2_with fail
  obtain ⟨q1, q2, q3, q4, q5⟩ := laid2 w p 111 t1 n H.out (.cells #[.int .u8 0, .int .i64 0, nilS, nilS] 92 (0, 0)) (.cells #[.int .u8 111, .int .i64 0, nilS, nilS] 92 (0, 0)) _ rfl
  generalize ((w.setCell ⟨p, 0, none⟩ (.string ⟨t1.toArray⟩)).alloc (.cells #[.int .u8 0, .int .i64 0, nilS, nilS] 92 (0, 0))).alloc (.cells #[.int .u8 111, .int .i64 0, nilS, nilS] 92 (0, 0)) = wb at *
  have Q2 := Lib.hid q2
  have Q3 := Lib.hid q3
  have Q4 := Lib.hid q4
  have Q5 := Lib.hid q5
  clear q2 q3 q4
  refine (number_any p t1 n wb q1 (by omega)).mono ?_
  rintro rr wc ⟨hF1, h1⟩
  have hs1 := hF1.size
  have hB0 : wc.heap[w.heap.size]? = _ := (hF1.block _ (by omega) (by omega)).trans Q3.out
  have hB1 : wc.heap[w.heap.size + 1]? = _ := (hF1.block _ (by omega) (by omega)).trans Q4.out
  have HF1 := Lib.hid hF1
  clear hF1 q1
  generalize hx : num5 t1 = x at h1
  have HX := Lib.hid hx
  clear hx
  cases x with
  | none =>
    simp only at h1
    subst h1
    clear hB0 hB1
    go_wp2
    exact ⟨rfl, PPost.none (by simp [sg, HX.out, isOne, isNum]) rfl (Q2.out.trans HF1.out)⟩
  | some y =>
    obtain ⟨k, t3⟩ := y
    obtain ⟨v, rfl, hv, h3⟩ := h1
    have e0 := cell_of_row wc _ 0 _ _ _ hB1
    have e1 := cell_of_row wc _ 1 _ _ _ hB1
    have e2 := cell_of_row wc _ 2 _ _ _ hB1
    have e3 := cell_of_row wc _ 3 _ _ _ hB1
    have k0 := Lib.frozen_of_heap hB1 0
    have k1 := Lib.frozen_of_heap hB1 1
    have k2 := Lib.frozen_of_heap hB1 2
    have k3 := Lib.frozen_of_heap hB1 3
    have g0 := cell_of_row wc _ 0 _ _ _ hB0
    have g1 := cell_of_row wc _ 1 _ _ _ hB0
    have g2 := cell_of_row wc _ 2 _ _ _ hB0
    have g3 := cell_of_row wc _ 3 _ _ _ hB0
    have m0 := Lib.frozen_of_heap hB0 0
    have m1 := Lib.frozen_of_heap hB0 1
    have m2 := Lib.frozen_of_heap hB0 2
    have m3 := Lib.frozen_of_heap hB0 3
    have HB0 := Lib.hid hB0
    have HB1 := Lib.hid hB1
    have H3 := Lib.hid h3
    clear hB0 hB1 h3
    subst hv
    go_wp2
    obtain ⟨q6, q7, q8⟩ := fin5 p w wc 1 (.int .i64 (k : Int)) (.int .u8 111) (.int .i64 (k : Int)) nilS nilS (Q2.out.trans HF1.out) HB0.out _ rfl
    refine bodyPost_ret (results_cell_row rfl _ _ w.heap.size 92 _ (0, 0) _ rfl q6 Tryz.underlying92 rfl (by kernel_rfl)) rfl ?_
    generalize ((((wc.setCell ⟨w.heap.size + 1, 1, none⟩ (.int .i64 (k : Int))).setCell ⟨w.heap.size, 0, none⟩ (.int .u8 111)).setCell ⟨w.heap.size, 1, none⟩ (.int .i64 (k : Int))).setCell ⟨w.heap.size, 2, none⟩ nilS).setCell ⟨w.heap.size, 3, none⟩ nilS = W at *
    refine PPost.some (a := .num 111 k .nil) (t' := t3) (by simp [sg, HX.out, isOne, isNum]) rfl ?_ (H3.out.kept (q7 p (by omega) (by omega))) q8
    exact ⟨_, _, _, _, _, _, _, _, rfl, rfl, [], rfl, rfl⟩

set_option maxRecDepth 100000 in
set_option maxHeartbeats 600000 in
theorem sign_102 (p : Nat) (t1 : List UInt8) (n f : Nat) (w : World) (h : Pa w p (102 :: t1) n) (ht : t1.length + 1 ≤ 1000) :
    Calls Tryz.prog 46 #[.pointer (some ⟨p, 0, none⟩)] w (PPost p w n (sg num5 f n 102 t1) (SignR w.heap.size)) := by
  have hpl := h.lt
  obtain ⟨c0, _, f0, _⟩ := h.cells
  have H := Lib.hid h
  obtain ⟨S, hS⟩ : ∃ S : ByteArray, S = ⟨(102 :: t1).toArray⟩ := ⟨_, rfl⟩
  have hsz : S.size = t1.length + 1 := by rw [hS]; show (102 :: t1).toArray.size = _; simp
  have hpos : 0 < S.size := by omega
  have hle : S.size ≤ 1000 := by omega
  have hat : S[0] = 102 := by subst hS; rfl
  have hx : S.extract 1 S.size = ⟨t1.toArray⟩ := by rw [hsz, hS]; exact extract_cons 102 t1
  rw [← hS] at c0
  have HS := Lib.hid hS
  have HSZ := Lib.hid hsz
  clear h hS hsz
  go_enter Tryz.func46, Tryz.ntmps46
  go_wp2_with fail
  obtain ⟨q1, q2, q3, q4, q5⟩ := laid2 w p 102 t1 n H.out (.cells #[.int .u8 0, .int .i64 0, nilS, nilS] 92 (0, 0)) (.cells #[.int .u8 102, .int .i64 0, nilS, nilS] 92 (0, 0)) _ rfl
  generalize ((w.setCell ⟨p, 0, none⟩ (.string ⟨t1.toArray⟩)).alloc (.cells #[.int .u8 0, .int .i64 0, nilS, nilS] 92 (0, 0))).alloc (.cells #[.int .u8 102, .int .i64 0, nilS, nilS] 92 (0, 0)) = wb at *
  have Q2 := Lib.hid q2
  have Q3 := Lib.hid q3
  have Q4 := Lib.hid q4
  have Q5 := Lib.hid q5
  clear q2 q3 q4
  refine (number_any p t1 n wb q1 (by omega)).mono ?_
  rintro rr wc ⟨hF1, h1⟩
  have hs1 := hF1.size
  have hB0 : wc.heap[w.heap.size]? = _ := (hF1.block _ (by omega) (by omega)).trans Q3.out
  have hB1 : wc.heap[w.heap.size + 1]? = _ := (hF1.block _ (by omega) (by omega)).trans Q4.out
  have HF1 := Lib.hid hF1
  clear hF1 q1
  generalize hx : num5 t1 = x at h1
  have HX := Lib.hid hx
  clear hx
  cases x with
  | none =>
    simp only at h1
    subst h1
    clear hB0 hB1
    go_wp2
    exact ⟨rfl, PPost.none (by simp [sg, HX.out, isOne, isNum]) rfl (Q2.out.trans HF1.out)⟩
  | some y =>
    obtain ⟨k, t3⟩ := y
    obtain ⟨v, rfl, hv, h3⟩ := h1
    have e0 := cell_of_row wc _ 0 _ _ _ hB1
    have e1 := cell_of_row wc _ 1 _ _ _ hB1
    have e2 := cell_of_row wc _ 2 _ _ _ hB1
    have e3 := cell_of_row wc _ 3 _ _ _ hB1
    have k0 := Lib.frozen_of_heap hB1 0
    have k1 := Lib.frozen_of_heap hB1 1
    have k2 := Lib.frozen_of_heap hB1 2
    have k3 := Lib.frozen_of_heap hB1 3
    have g0 := cell_of_row wc _ 0 _ _ _ hB0
    have g1 := cell_of_row wc _ 1 _ _ _ hB0
    have g2 := cell_of_row wc _ 2 _ _ _ hB0
    have g3 := cell_of_row wc _ 3 _ _ _ hB0
    have m0 := Lib.frozen_of_heap hB0 0
    have m1 := Lib.frozen_of_heap hB0 1
    have m2 := Lib.frozen_of_heap hB0 2
    have m3 := Lib.frozen_of_heap hB0 3
    have HB0 := Lib.hid hB0
    have HB1 := Lib.hid hB1
    have H3 := Lib.hid h3
    clear hB0 hB1 h3
    subst hv
    go_wp2
    obtain ⟨q6, q7, q8⟩ := fin5 p w wc 1 (.int .i64 (k : Int)) (.int .u8 102) (.int .i64 (k : Int)) nilS nilS (Q2.out.trans HF1.out) HB0.out _ rfl
    refine bodyPost_ret (results_cell_row rfl _ _ w.heap.size 92 _ (0, 0) _ rfl q6 Tryz.underlying92 rfl (by kernel_rfl)) rfl ?_
    generalize ((((wc.setCell ⟨w.heap.size + 1, 1, none⟩ (.int .i64 (k : Int))).setCell ⟨w.heap.size, 0, none⟩ (.int .u8 102)).setCell ⟨w.heap.size, 1, none⟩ (.int .i64 (k : Int))).setCell ⟨w.heap.size, 2, none⟩ nilS).setCell ⟨w.heap.size, 3, none⟩ nilS = W at *
    refine PPost.some (a := .num 102 k .nil) (t' := t3) (by simp [sg, HX.out, isOne, isNum]) rfl ?_ (H3.out.kept (q7 p (by omega) (by omega))) q8
    exact ⟨_, _, _, _, _, _, _, _, rfl, rfl, [], rfl, rfl⟩

set_option maxRecDepth 100000 in
set_option maxHeartbeats 600000 in
theorem sign_63 (N : Nat) (HR : RowC N) (p : Nat) (t1 : List UInt8) (n f : Nat) (w : World) (h : Pa w p (63 :: t1) n) (ht : t1.length + 1 ≤ 1000) (hN : t1.length ≤ N + 1) (hn : n ≤ 16) (hf : t1.length ≤ f) :
    Calls Tryz.prog 46 #[.pointer (some ⟨p, 0, none⟩)] w (PPost p w n (sg num5 f n 63 t1) (SignR w.heap.size)) := by
  have hpl := h.lt
  obtain ⟨c0, _, f0, _⟩ := h.cells
  have H := Lib.hid h
  obtain ⟨S, hS⟩ : ∃ S : ByteArray, S = ⟨(63 :: t1).toArray⟩ := ⟨_, rfl⟩
  have hsz : S.size = t1.length + 1 := by rw [hS]; show (63 :: t1).toArray.size = _; simp
  have hpos : 0 < S.size := by omega
  have hle : S.size ≤ 1000 := by omega
  have hat : S[0] = 63 := by subst hS; rfl
  have hx : S.extract 1 S.size = ⟨t1.toArray⟩ := by rw [hsz, hS]; exact extract_cons 63 t1
  rw [← hS] at c0
  have HS := Lib.hid hS
  have HSZ := Lib.hid hsz
  clear h hS hsz
  go_enter Tryz.func46, Tryz.ntmps46
  go_wp2_with fail
  obtain ⟨q1, q2, q3, q4, q5⟩ := laid2 w p 63 t1 n H.out (.cells #[.int .u8 0, .int .i64 0, nilS, nilS] 92 (0, 0)) (.cells #[.int .u8 63, .int .i64 0, nilS, nilS] 92 (0, 0)) _ rfl
  generalize ((w.setCell ⟨p, 0, none⟩ (.string ⟨t1.toArray⟩)).alloc (.cells #[.int .u8 0, .int .i64 0, nilS, nilS] 92 (0, 0))).alloc (.cells #[.int .u8 63, .int .i64 0, nilS, nilS] 92 (0, 0)) = wb at *
  have Q2 := Lib.hid q2
  have Q3 := Lib.hid q3
  have Q4 := Lib.hid q4
  have Q5 := Lib.hid q5
  clear q2 q3 q4
  refine (bracket_of N HR p t1 n f wb q1 hN (by omega) hn hf).mono ?_
  rintro rr wc ⟨hF1, h1⟩
  have hs1 := hF1.size
  have hB0 : wc.heap[w.heap.size]? = _ := (hF1.block _ (by omega) (by omega)).trans Q3.out
  have hB1 : wc.heap[w.heap.size + 1]? = _ := (hF1.block _ (by omega) (by omega)).trans Q4.out
  have HF1 := Lib.hid hF1
  clear hF1 q1
  generalize hx : bk num5 f n t1 = x at h1
  have HX := Lib.hid hx
  clear hx
  cases x with
  | none =>
    simp only at h1
    subst h1
    clear hB0 hB1
    go_wp2
    exact ⟨rfl, PPost.none (by simp [sg, HX.out, isOne, isNum, isOpt]) rfl (Q2.out.trans HF1.out)⟩
  | some y =>
    obtain ⟨k, t3⟩ := y
    obtain ⟨v, rfl, hv, h3⟩ := h1
    have e0 := cell_of_row wc _ 0 _ _ _ hB1
    have e1 := cell_of_row wc _ 1 _ _ _ hB1
    have e2 := cell_of_row wc _ 2 _ _ _ hB1
    have e3 := cell_of_row wc _ 3 _ _ _ hB1
    have k0 := Lib.frozen_of_heap hB1 0
    have k1 := Lib.frozen_of_heap hB1 1
    have k2 := Lib.frozen_of_heap hB1 2
    have k3 := Lib.frozen_of_heap hB1 3
    have g0 := cell_of_row wc _ 0 _ _ _ hB0
    have g1 := cell_of_row wc _ 1 _ _ _ hB0
    have g2 := cell_of_row wc _ 2 _ _ _ hB0
    have g3 := cell_of_row wc _ 3 _ _ _ hB0
    have m0 := Lib.frozen_of_heap hB0 0
    have m1 := Lib.frozen_of_heap hB0 1
    have m2 := Lib.frozen_of_heap hB0 2
    have m3 := Lib.frozen_of_heap hB0 3
    have HB0 := Lib.hid hB0
    have HB1 := Lib.hid hB1
    have H3 := Lib.hid h3
    clear hB0 hB1 h3
    obtain ⟨so, sc, rfl⟩ := hv.slice
    have HV := Lib.hid hv
    clear hv
    go_wp2
    obtain ⟨q6, q7, q8⟩ := fin5 p w wc 2 (.slice so k.len sc) (.int .u8 63) (.int .i64 0) (.slice so k.len sc) nilS (Q2.out.trans HF1.out) HB0.out _ rfl
    refine bodyPost_ret (results_cell_row rfl _ _ w.heap.size 92 _ (0, 0) _ rfl q6 Tryz.underlying92 rfl (by kernel_rfl)) rfl ?_
    generalize ((((wc.setCell ⟨w.heap.size + 1, 2, none⟩ (.slice so k.len sc)).setCell ⟨w.heap.size, 0, none⟩ (.int .u8 63)).setCell ⟨w.heap.size, 1, none⟩ (.int .i64 0)).setCell ⟨w.heap.size, 2, none⟩ (.slice so k.len sc)).setCell ⟨w.heap.size, 3, none⟩ nilS = W at *
    refine PPost.some (a := .opt 63 k .nil) (t' := t3) (by simp [sg, HX.out, isOne, isNum, isOpt]) rfl ?_ (H3.out.kept (q7 p (by omega) (by omega))) q8
    obtain ⟨zs, u1, u2, u3⟩ := SlR.far (B := w.heap.size) (p := w.heap.size) (q := w.heap.size + 1) HV.out (by omega) (by omega) (by omega) q7
    exact ⟨_, _, _, _, _, _, _, _, rfl, rfl, _, zs, [], rfl, ⟨u1, u2, u3⟩, rfl⟩

set_option maxRecDepth 100000 in
set_option maxHeartbeats 600000 in
theorem sign_42 (N : Nat) (HR : RowC N) (p : Nat) (t1 : List UInt8) (n f : Nat) (w : World) (h : Pa w p (42 :: t1) n) (ht : t1.length + 1 ≤ 1000) (hN : t1.length ≤ N + 1) (hn : n ≤ 16) (hf : t1.length ≤ f) :
    Calls Tryz.prog 46 #[.pointer (some ⟨p, 0, none⟩)] w (PPost p w n (sg num5 f n 42 t1) (SignR w.heap.size)) := by
  have hpl := h.lt
  obtain ⟨c0, _, f0, _⟩ := h.cells
  have H := Lib.hid h
  obtain ⟨S, hS⟩ : ∃ S : ByteArray, S = ⟨(42 :: t1).toArray⟩ := ⟨_, rfl⟩
  have hsz : S.size = t1.length + 1 := by rw [hS]; show (42 :: t1).toArray.size = _; simp
  have hpos : 0 < S.size := by omega
  have hle : S.size ≤ 1000 := by omega
  have hat : S[0] = 42 := by subst hS; rfl
  have hx : S.extract 1 S.size = ⟨t1.toArray⟩ := by rw [hsz, hS]; exact extract_cons 42 t1
  rw [← hS] at c0
  have HS := Lib.hid hS
  have HSZ := Lib.hid hsz
  clear h hS hsz
  go_enter Tryz.func46, Tryz.ntmps46
  go_wp2_with fail
  obtain ⟨q1, q2, q3, q4, q5⟩ := laid2 w p 42 t1 n H.out (.cells #[.int .u8 0, .int .i64 0, nilS, nilS] 92 (0, 0)) (.cells #[.int .u8 42, .int .i64 0, nilS, nilS] 92 (0, 0)) _ rfl
  generalize ((w.setCell ⟨p, 0, none⟩ (.string ⟨t1.toArray⟩)).alloc (.cells #[.int .u8 0, .int .i64 0, nilS, nilS] 92 (0, 0))).alloc (.cells #[.int .u8 42, .int .i64 0, nilS, nilS] 92 (0, 0)) = wb at *
  have Q2 := Lib.hid q2
  have Q3 := Lib.hid q3
  have Q4 := Lib.hid q4
  have Q5 := Lib.hid q5
  clear q2 q3 q4
  refine (bracket_of N HR p t1 n f wb q1 hN (by omega) hn hf).mono ?_
  rintro rr wc ⟨hF1, h1⟩
  have hs1 := hF1.size
  have hB0 : wc.heap[w.heap.size]? = _ := (hF1.block _ (by omega) (by omega)).trans Q3.out
  have hB1 : wc.heap[w.heap.size + 1]? = _ := (hF1.block _ (by omega) (by omega)).trans Q4.out
  have HF1 := Lib.hid hF1
  clear hF1 q1
  generalize hx : bk num5 f n t1 = x at h1
  have HX := Lib.hid hx
  clear hx
  cases x with
  | none =>
    simp only at h1
    subst h1
    clear hB0 hB1
    go_wp2
    exact ⟨rfl, PPost.none (by simp [sg, HX.out, isOne, isNum, isOpt]) rfl (Q2.out.trans HF1.out)⟩
  | some y =>
    obtain ⟨k, t3⟩ := y
    obtain ⟨v, rfl, hv, h3⟩ := h1
    have e0 := cell_of_row wc _ 0 _ _ _ hB1
    have e1 := cell_of_row wc _ 1 _ _ _ hB1
    have e2 := cell_of_row wc _ 2 _ _ _ hB1
    have e3 := cell_of_row wc _ 3 _ _ _ hB1
    have k0 := Lib.frozen_of_heap hB1 0
    have k1 := Lib.frozen_of_heap hB1 1
    have k2 := Lib.frozen_of_heap hB1 2
    have k3 := Lib.frozen_of_heap hB1 3
    have g0 := cell_of_row wc _ 0 _ _ _ hB0
    have g1 := cell_of_row wc _ 1 _ _ _ hB0
    have g2 := cell_of_row wc _ 2 _ _ _ hB0
    have g3 := cell_of_row wc _ 3 _ _ _ hB0
    have m0 := Lib.frozen_of_heap hB0 0
    have m1 := Lib.frozen_of_heap hB0 1
    have m2 := Lib.frozen_of_heap hB0 2
    have m3 := Lib.frozen_of_heap hB0 3
    have HB0 := Lib.hid hB0
    have HB1 := Lib.hid hB1
    have H3 := Lib.hid h3
    clear hB0 hB1 h3
    obtain ⟨so, sc, rfl⟩ := hv.slice
    have HV := Lib.hid hv
    clear hv
    by_cases hem : k.len = 0
    · have hemp : k.empty = true := by cases k <;> simp [Row.len] at hem; rfl
      have HE := Lib.hid hemp
      clear hemp
      go_wp2_with fail
      refine (refuse_any 1 _).mono ?_
      rintro r w' ⟨rfl, rfl⟩
      go_wp2
      exact ⟨rfl, PPost.none (by simp [sg, HX.out, isOne, isNum, isOpt, HE.out]) rfl ((Q2.out.trans HF1.out).far (Nat.le_succ _) ((FrP.refl _ _).set 2 _))⟩
    have hemp : k.empty = false := by cases k <;> simp [Row.len] at hem <;> rfl
    have HE := Lib.hid hemp
    clear hemp
    go_wp2
    obtain ⟨q6, q7, q8⟩ := fin5 p w wc 2 (.slice so k.len sc) (.int .u8 42) (.int .i64 0) (.slice so k.len sc) nilS (Q2.out.trans HF1.out) HB0.out _ rfl
    refine bodyPost_ret (results_cell_row rfl _ _ w.heap.size 92 _ (0, 0) _ rfl q6 Tryz.underlying92 rfl (by kernel_rfl)) rfl ?_
    generalize ((((wc.setCell ⟨w.heap.size + 1, 2, none⟩ (.slice so k.len sc)).setCell ⟨w.heap.size, 0, none⟩ (.int .u8 42)).setCell ⟨w.heap.size, 1, none⟩ (.int .i64 0)).setCell ⟨w.heap.size, 2, none⟩ (.slice so k.len sc)).setCell ⟨w.heap.size, 3, none⟩ nilS = W at *
    refine PPost.some (a := .opt 42 k .nil) (t' := t3) (by simp [sg, HX.out, isOne, isNum, isOpt, HE.out]) rfl ?_ (H3.out.kept (q7 p (by omega) (by omega))) q8
    obtain ⟨zs, u1, u2, u3⟩ := SlR.far (B := w.heap.size) (p := w.heap.size) (q := w.heap.size + 1) HV.out (by omega) (by omega) (by omega) q7
    exact ⟨_, _, _, _, _, _, _, _, rfl, rfl, _, zs, [], rfl, ⟨u1, u2, u3⟩, rfl⟩

set_option maxRecDepth 100000 in
set_option maxHeartbeats 600000 in
theorem sign_60 (N : Nat) (HR : RowC N) (p : Nat) (t1 : List UInt8) (n f : Nat) (w : World) (h : Pa w p (60 :: t1) n) (ht : t1.length + 1 ≤ 1000) (hN : t1.length ≤ N + 2) (hn : n ≤ 16) (hf : t1.length < f) :
    Calls Tryz.prog 46 #[.pointer (some ⟨p, 0, none⟩)] w (PPost p w n (sg num5 f n 60 t1) (SignR w.heap.size)) := by
  have hpl := h.lt
  obtain ⟨c0, _, f0, _⟩ := h.cells
  have H := Lib.hid h
  obtain ⟨S, hS⟩ : ∃ S : ByteArray, S = ⟨(60 :: t1).toArray⟩ := ⟨_, rfl⟩
  have hsz : S.size = t1.length + 1 := by rw [hS]; show (60 :: t1).toArray.size = _; simp
  have hpos : 0 < S.size := by omega
  have hle : S.size ≤ 1000 := by omega
  have hat : S[0] = 60 := by subst hS; rfl
  have hx : S.extract 1 S.size = ⟨t1.toArray⟩ := by rw [hsz, hS]; exact extract_cons 60 t1
  rw [← hS] at c0
  have HS := Lib.hid hS
  have HSZ := Lib.hid hsz
  clear h hS hsz
  obtain ⟨x00, hx00⟩ : ∃ x00, x00 = (if 16 ≤ n then none else pG num5 f false (n + 1) [] t1) := ⟨_, rfl⟩
  have hcall : ∀ wb, Pa wb p t1 n → Calls Tryz.prog 54 #[.pointer (some ⟨p, 0, none⟩)] wb (PPost p wb n x00 (ArmsR wb.heap.size)) := by
    intro wb hb
    by_cases h16 : 16 ≤ n
    · rw [hx00, if_pos h16]; exact choice_bad p t1 n wb hb h16 hn
    · rw [hx00, if_neg h16]
      exact choice_ok N HR p t1 n wb hb hN (by omega) (by omega) _ (pG_fuel num5_short _ _ _ _ _ _ hf (by omega))
  have hsg : sg num5 f n 60 t1 = x00.map fun q => (.ch q.1 .nil, q.2) := by
    rw [hx00]
    simp only [sg, isOne, isNum, isOpt]
    by_cases h16 : 16 ≤ n
    · simp [h16]
    · simp [h16]
  have HX0 := Lib.hid hsg
  have HCALL := Lib.hid hcall
  clear hsg hcall hx00
  go_enter Tryz.func46, Tryz.ntmps46
  go_wp2_with fail
  obtain ⟨q1, q2, q3, q4, q5⟩ := laid2 w p 60 t1 n H.out (.cells #[.int .u8 0, .int .i64 0, nilS, nilS] 92 (0, 0)) (.cells #[.int .u8 60, .int .i64 0, nilS, nilS] 92 (0, 0)) _ rfl
  generalize ((w.setCell ⟨p, 0, none⟩ (.string ⟨t1.toArray⟩)).alloc (.cells #[.int .u8 0, .int .i64 0, nilS, nilS] 92 (0, 0))).alloc (.cells #[.int .u8 60, .int .i64 0, nilS, nilS] 92 (0, 0)) = wb at *
  have Q2 := Lib.hid q2
  have Q3 := Lib.hid q3
  have Q4 := Lib.hid q4
  have Q5 := Lib.hid q5
  clear q2 q3 q4
  refine (HCALL.out wb q1).mono ?_
  rintro rr wc ⟨hF1, h1⟩
  have hs1 := hF1.size
  have hB0 : wc.heap[w.heap.size]? = _ := (hF1.block _ (by omega) (by omega)).trans Q3.out
  have hB1 : wc.heap[w.heap.size + 1]? = _ := (hF1.block _ (by omega) (by omega)).trans Q4.out
  have HF1 := Lib.hid hF1
  clear hF1 q1
  generalize hx : x00 = x at h1
  have HX := Lib.hid hx
  clear hx
  cases x with
  | none =>
    simp only at h1
    subst h1
    clear hB0 hB1
    go_wp2
    exact ⟨rfl, PPost.none (by rw [HX0.out, HX.out]; rfl) rfl (Q2.out.trans HF1.out)⟩
  | some y =>
    obtain ⟨k, t3⟩ := y
    obtain ⟨v, rfl, hv, h3⟩ := h1
    have e0 := cell_of_row wc _ 0 _ _ _ hB1
    have e1 := cell_of_row wc _ 1 _ _ _ hB1
    have e2 := cell_of_row wc _ 2 _ _ _ hB1
    have e3 := cell_of_row wc _ 3 _ _ _ hB1
    have k0 := Lib.frozen_of_heap hB1 0
    have k1 := Lib.frozen_of_heap hB1 1
    have k2 := Lib.frozen_of_heap hB1 2
    have k3 := Lib.frozen_of_heap hB1 3
    have g0 := cell_of_row wc _ 0 _ _ _ hB0
    have g1 := cell_of_row wc _ 1 _ _ _ hB0
    have g2 := cell_of_row wc _ 2 _ _ _ hB0
    have g3 := cell_of_row wc _ 3 _ _ _ hB0
    have m0 := Lib.frozen_of_heap hB0 0
    have m1 := Lib.frozen_of_heap hB0 1
    have m2 := Lib.frozen_of_heap hB0 2
    have m3 := Lib.frozen_of_heap hB0 3
    have HB0 := Lib.hid hB0
    have HB1 := Lib.hid hB1
    have H3 := Lib.hid h3
    clear hB0 hB1 h3
    obtain ⟨so, sc, rfl⟩ := hv.slice
    have HV := Lib.hid hv
    clear hv
    go_wp2
    obtain ⟨q6, q7, q8⟩ := fin5 p w wc 3 (.slice so k.len sc) (.int .u8 60) (.int .i64 0) nilS (.slice so k.len sc) (Q2.out.trans HF1.out) HB0.out _ rfl
    refine bodyPost_ret (results_cell_row rfl _ _ w.heap.size 92 _ (0, 0) _ rfl q6 Tryz.underlying92 rfl (by kernel_rfl)) rfl ?_
    generalize ((((wc.setCell ⟨w.heap.size + 1, 3, none⟩ (.slice so k.len sc)).setCell ⟨w.heap.size, 0, none⟩ (.int .u8 60)).setCell ⟨w.heap.size, 1, none⟩ (.int .i64 0)).setCell ⟨w.heap.size, 2, none⟩ nilS).setCell ⟨w.heap.size, 3, none⟩ (.slice so k.len sc) = W at *
    refine PPost.some (a := .ch k .nil) (t' := t3) (by rw [HX0.out, HX.out]; rfl) rfl ?_ (H3.out.kept (q7 p (by omega) (by omega))) q8
    obtain ⟨zs, u1, u2, u3⟩ := SlR.far (B := w.heap.size) (p := w.heap.size) (q := w.heap.size + 1) HV.out (by omega) (by omega) (by omega) q7
    exact ⟨_, _, _, _, _, _, _, _, rfl, rfl, _, zs, [], rfl, ⟨u1, u2, u3⟩, rfl⟩
end Go.Proofs.YtjogcdkebplcpaaGreatDoor
