/-
  What the document's Write does and answers. Its conditions: a disk as it may be, room in its lists.
-/
import Derived.Test.YthomjcndaddbbaaRops
namespace Go.Proofs.Ythomjcndaddbbaa
open Go.RowKit
theorem info9' : (Try.prog.info? 9).map (fun i => (i.zero, i.size, i.bytes)) = some (some (.string ⟨#[]⟩), 1, 16) := by kernel_rfl
theorem info3 : (Try.prog.info? 3).map (fun i => (i.zero, i.size, i.bytes)) = some (some (.int .i64 0), 1, 8) := by kernel_rfl
section
variable {w : World} {q : Nat} {vl vp vt : Value} {r : Rk}

/-- A place more. -/
theorem RDisk.pushP {w0 w1 : World} {g cap n : Nat} (h : RDisk w q vl vp vt r) (hg0 : w.grownBy w0 none) (hgrow : w0.grownBy w1 vp.ownBlock) (hat : vp.ownBlock = some g ∨ w.heap.size ≤ g)
    (hown : w1.ownsRow 0 3 1 (.slice (some ⟨g, 0, none⟩) (r.P.length + 1) cap) (r.P.length + 1) (nums r.P ++ [.int .i64 (n : Int)])) :
    RDisk (w1.setCell ⟨q, 1, none⟩ (.slice (some ⟨g, 0, none⟩) (r.P.length + 1) cap)) q vl (.slice (some ⟨g, 0, none⟩) (r.P.length + 1) cap) vt { r with P := r.P ++ [n] } ∧
    Fr (RFoot q vl vp vt) w (w1.setCell ⟨q, 1, none⟩ (.slice (some ⟨g, 0, none⟩) (r.P.length + 1) cap)) ∧ Sub (RFoot q vl vp vt) (RFoot q vl (.slice (some ⟨g, 0, none⟩) (r.P.length + 1) cap) vt) w := by
  have hk : ∀ k, k < w.heap.size → some k ≠ vp.ownBlock → w1.heap[k]? = w.heap[k]? := fun k hk hv => (hgrow.block k (by have := hg0.size; omega) hv).trans (hg0.block k hk (by simp))
  have hgq : g ≠ q := by
    rcases hat with e | e
    · intro e2; exact h.qp (by rw [e, e2])
    · have := h.lt; omega
  have hset : ∀ k, k ≠ q → (w1.setCell ⟨q, 1, none⟩ (.slice (some ⟨g, 0, none⟩) (r.P.length + 1) cap)).heap[k]? = w1.heap[k]? := fun k hk => Below.heap_setCell _ _ _ _ hk
  have hall : ∀ k, k < w.heap.size → some k ≠ vp.ownBlock → k ≠ q → (w1.setCell ⟨q, 1, none⟩ (.slice (some ⟨g, 0, none⟩) (r.P.length + 1) cap)).heap[k]? = w.heap[k]? := fun k a b c => (hset k c).trans (hk k a b)
  refine ⟨⟨?_, ?_, ?_, ?_, h.apart⟩, ⟨hgrow.os.trans hg0.os, hgrow.tape.trans hg0.tape, hgrow.output.trans hg0.output, ?_, ?_⟩, ?_⟩
  · rw [heap_set _ ((hk _ h.lt h.qp).trans h.head)]; rfl
  · refine ownsRow_of h.rowL fun k hk2 => hall k (owned_lt h.rowL hk2) (h.lp hk2) (fun e => h.ql (by rw [hk2, e]))
  · have e : (r.P ++ [n]).length = r.P.length + 1 := by simp
    show World.ownsRow _ 0 3 1 _ (r.P ++ [n]).length (nums (r.P ++ [n]))
    rw [e, show nums (r.P ++ [n]) = nums r.P ++ [.int .i64 (n : Int)] from by simp [nums]]
    refine ownsRow_of hown fun k hk2 => hset k ?_
    have : g = k := by simpa [Value.ownBlock] using hk2
    rw [← this]; exact hgq
  · refine ownsRow_of h.rowT fun k hk2 => hall k (owned_lt h.rowT hk2) ?_ (fun e => h.qt (by rw [hk2, e]))
    intro e; exact (h.pt e.symm).1 hk2.symm
  · simp [World.setCell]; exact Nat.le_trans hg0.size hgrow.size
  · intro k hk2 hF
    exact hall k hk2 (fun e => hF (.inr (.inr (.inl e)))) (fun e => hF (.inl e))
  · rintro k (e | e | e | e)
    · exact .inl (.inl e)
    · exact .inl (.inr (.inl e))
    · have ek : k = g := by simpa [Value.ownBlock] using e
      rcases hat with e2 | e2
      · exact .inl (.inr (.inr (.inl (by rw [ek, e2]))))
      · right; omega
    · exact .inl (.inr (.inr (.inr e)))

/-- A text more. -/
theorem RDisk.pushT {w0 w1 : World} {g cap : Nat} {s : ByteArray} (h : RDisk w q vl vp vt r) (hg0 : w.grownBy w0 none) (hgrow : w0.grownBy w1 vt.ownBlock) (hat : vt.ownBlock = some g ∨ w.heap.size ≤ g)
    (hown : w1.ownsRow 0 9 1 (.slice (some ⟨g, 0, none⟩) (r.T.length + 1) cap) (r.T.length + 1) (strs r.T ++ [.string s])) :
    RDisk (w1.setCell ⟨q, 2, none⟩ (.slice (some ⟨g, 0, none⟩) (r.T.length + 1) cap)) q vl vp (.slice (some ⟨g, 0, none⟩) (r.T.length + 1) cap) { r with T := r.T ++ [s] } ∧
    Fr (RFoot q vl vp vt) w (w1.setCell ⟨q, 2, none⟩ (.slice (some ⟨g, 0, none⟩) (r.T.length + 1) cap)) ∧ Sub (RFoot q vl vp vt) (RFoot q vl vp (.slice (some ⟨g, 0, none⟩) (r.T.length + 1) cap)) w := by
  have hk : ∀ k, k < w.heap.size → some k ≠ vt.ownBlock → w1.heap[k]? = w.heap[k]? := fun k hk hv => (hgrow.block k (by have := hg0.size; omega) hv).trans (hg0.block k hk (by simp))
  have hgq : g ≠ q := by
    rcases hat with e | e
    · intro e2; exact h.qt (by rw [e, e2])
    · have := h.lt; omega
  have hset : ∀ k, k ≠ q → (w1.setCell ⟨q, 2, none⟩ (.slice (some ⟨g, 0, none⟩) (r.T.length + 1) cap)).heap[k]? = w1.heap[k]? := fun k hk => Below.heap_setCell _ _ _ _ hk
  have hall : ∀ k, k < w.heap.size → some k ≠ vt.ownBlock → k ≠ q → (w1.setCell ⟨q, 2, none⟩ (.slice (some ⟨g, 0, none⟩) (r.T.length + 1) cap)).heap[k]? = w.heap[k]? := fun k a b c => (hset k c).trans (hk k a b)
  refine ⟨⟨?_, ?_, ?_, ?_, ?_⟩, ⟨hgrow.os.trans hg0.os, hgrow.tape.trans hg0.tape, hgrow.output.trans hg0.output, ?_, ?_⟩, ?_⟩
  · rw [heap_set _ ((hk _ h.lt h.qt).trans h.head)]; rfl
  · refine ownsRow_of h.rowL fun k hk2 => hall k (owned_lt h.rowL hk2) (fun e => h.apart k hk2 e.symm) (fun e => h.ql (by rw [hk2, e]))
  · refine ownsRow_of h.rowP fun k hk2 => hall k (owned_lt h.rowP hk2) (h.pt hk2).1 (fun e => h.qp (by rw [hk2, e]))
  · have e : (r.T ++ [s]).length = r.T.length + 1 := by simp
    show World.ownsRow _ 0 9 1 _ (r.T ++ [s]).length (strs (r.T ++ [s]))
    rw [e, show strs (r.T ++ [s]) = strs r.T ++ [.string s] from by simp [strs]]
    refine ownsRow_of hown fun k hk2 => hset k ?_
    have : g = k := by simpa [Value.ownBlock] using hk2
    rw [← this]; exact hgq
  · intro k hk2 e
    have ek : g = k := by simpa [Value.ownBlock] using e
    rcases hat with e2 | e2
    · exact h.apart k hk2 (by rw [e2, ek])
    · have := owned_lt h.rowL hk2; omega
  · simp [World.setCell]; exact Nat.le_trans hg0.size hgrow.size
  · intro k hk2 hF
    exact hall k hk2 (fun e => hF (.inr (.inr (.inr e)))) (fun e => hF (.inl e))
  · rintro k (e | e | e | e)
    · exact .inl (.inl e)
    · exact .inl (.inr (.inl e))
    · exact .inl (.inr (.inr (.inl e)))
    · have ek : k = g := by simpa [Value.ownBlock] using e
      rcases hat with e2 | e2
      · exact .inl (.inr (.inr (.inr (by rw [ek, e2]))))
      · right; omega
end

section
variable {w : World} {q : Nat} {F : Nat → Prop} {d : Dk} {kp : Int}
set_option maxHeartbeats 400000 in
theorem rwrite_no (h : RDk w q F (Rk.of d kp)) (n : Int) (s : ByteArray) (hn : n < 0 ∨ (d.L.length : Int) ≤ n) : Calls Try.prog 12 #[.pointer (some ⟨q, 0, none⟩), .int .i64 n, .string s] w fun e w' => e = .returned (.int .i64 1) ∧ w = w' := by
  obtain ⟨vl, vp, vt, hR, rfl⟩ := h
  obtain ⟨lo, lc, rfl⟩ := slice_of hR.rowL (n := d.L.length) rfl
  have g0 := hR.cells.1
  clear hR
  by_cases h1 : n < 0
  · clear hn
    go_enter Try.func12, Try.ntmps12
    go_wp2
    go_ret
    exact ⟨rfl, rfl⟩
  · have h2 : (d.L.length : Int) ≤ n := by omega
    clear hn
    go_enter Try.func12, Try.ntmps12
    go_wp2
    go_ret
    exact ⟨rfl, rfl⟩
set_option maxHeartbeats 400000 in
theorem rwrite_long (h : RDk w q F (Rk.of d kp)) (n : Int) (s : ByteArray) (h0 : 0 ≤ n) (hn : n < d.L.length) (hs : 256 < s.size) : Calls Try.prog 12 #[.pointer (some ⟨q, 0, none⟩), .int .i64 n, .string s] w fun e w' => e = .returned (.int .i64 1) ∧ w = w' := by
  obtain ⟨vl, vp, vt, hR, rfl⟩ := h
  obtain ⟨lo, lc, rfl⟩ := slice_of hR.rowL (n := d.L.length) rfl
  have g0 := hR.cells.1
  clear hR
  go_enter Try.func12, Try.ntmps12
  go_wp2
  go_ret
  exact ⟨rfl, rfl⟩
set_option maxHeartbeats 400000 in
theorem rwrite_off (h : RDk w q F (Rk.of d kp)) (n : Int) (s : ByteArray) (h0 : 0 ≤ n) (hn : n < d.L.length) (hs : s.size ≤ 256) (ho : d.off = true) : Calls Try.prog 12 #[.pointer (some ⟨q, 0, none⟩), .int .i64 n, .string s] w fun e w' => e = .returned (.int .i64 20) ∧ w = w' := by
  obtain ⟨vl, vp, vt, hR, rfl⟩ := h
  obtain ⟨lo, lc, rfl⟩ := slice_of hR.rowL (n := d.L.length) rfl
  obtain ⟨g0, g1, g2, g3, g4, g5, g6, g7⟩ := hR.cells
  simp only [Rk.of, ho] at g5
  clear hR ho g1 g2 g3 g4 g6 g7
  go_enter Try.func12, Try.ntmps12
  go_wp2
  go_ret
  exact ⟨rfl, rfl⟩

set_option maxRecDepth 100000 in
set_option maxHeartbeats 1000000 in
theorem rwrite_ok (h : RDk w q F (Rk.of d kp)) (n : Nat) (s : ByteArray) (hn : n < d.L.length) (hs : s.size ≤ 256) (ho : d.off = false) (hok : d.Ok) (hql : d.Q.length < 5000000000000)
    (hfn : d.fails = false) (hw0 : 0 ≤ d.wr) (hw1 : d.wr < 9223372036854775807) :
    Calls Try.prog 12 #[.pointer (some ⟨q, 0, none⟩), .int .i64 n, .string s] w fun e w' => e = .returned (.int .i64 0) ∧ RTo w q F (Rk.of (d.queued n s).after.wrote kp) w' := by
  obtain ⟨i3, hi3, hz30, hz31, hz32⟩ := info_parts info3
  obtain ⟨i9, hi9, hz90, hz91, hz92⟩ := info_parts info9'
  have HF := Lib.hid hfn
  clear hfn
  have HOk := Lib.hid hok
  obtain ⟨vl, vp, vt, hR, rfl⟩ := h
  obtain ⟨lo, lc, rfl⟩ := slice_of hR.rowL (n := d.L.length) rfl
  obtain ⟨g0, g1, g2, g3, g4, g5, g6, g7⟩ := hR.cells
  simp only [Rk.of, ho] at g5
  have hf := hR.free
  have hqp := hR.qp
  have hql2 := hR.lt
  have HR := Lib.hid hR
  have hpl : (Rk.of d kp).P.length = d.Q.length := by simp [Rk.of]
  have hPo := hR.rowP
  rw [hpl] at hPo
  have HPL := Lib.hid hpl
  clear hR ho hok hpl g3 g4 g6 g7
  go_enter Try.func12, Try.ntmps12
  go_wp2_with (at_builtin; refine wpList_append_lies _ rfl (.tmp 31) (.tmp 33) 42 rfl 0 3 i3 _ 1 8 Try.underlying42 hi3 hz30 hz31 hz32 rfl (by omega) vp _ _ rfl (hPo.alloc _) ⟨w.heap.size, 0, none⟩ 1 1 [.int .i64 (n : Int)] rfl rfl (World.news_of_block (cs := #[.int .i64 (n : Int)]) (t := 3) (fr := (0, 0)) (heap_alloc_new w _)) (by simp [Value.oneCell']) (by omega) (by unfold maxLen; omega) (by omega) (by simp) (w.heap.size + 1) (by simp) ?_; intro g cap w1 hown1 hgrow hat hglt; have hfw : w1.frozen? ⟨q, 1, none⟩ = false := (hgrow.frozen_far _ (by simp; omega) hqp).trans ((World.frozen?_alloc_past _ _ _ hql2).trans (hf 1)); have hcw : w1.cell? ⟨q, 1, none⟩ = some vp := (hgrow.cell_far _ (by simp; omega) hqp).trans ((World.cell?_alloc_past _ _ _ hql2).trans g1))
  have hP := HR.out.pushP (n := n) (World.grownBy_alloc w _ none) hgrow (hat.imp id (fun e => by omega)) (by rw [HPL.out]; exact hown1)
  rw [HPL.out] at hP
  generalize (Value.slice (some ⟨g, 0, none⟩) (d.Q.length + 1) cap) = vp2 at *
  generalize w1.setCell ⟨q, 1, none⟩ vp2 = W at *
  obtain ⟨hR2, hF2, hS2⟩ := hP
  have HF2 := Lib.hid hF2
  have HS2 := Lib.hid hS2
  have HR2 := Lib.hid hR2
  have k2 := hR2.cells.2.2.1
  have kf := hR2.free 2
  have kqt := hR2.qt
  have klt := hR2.lt
  have hT : (Rk.of d kp).T.length = d.Q.length := by simp [Rk.of]
  have hTo := hR2.rowT
  simp only [hT] at hTo
  have HT := Lib.hid hT
  clear hF2 hS2 hR2 hT hown1 hgrow hat hglt hfw hcw hPo g0 g1 g2 g5 hf hqp hql2 HR HPL hi3 hz30 hz31 hz32
  go_wp2
  go_region_law (first
    | (refine step_append_lies _ (by rfl) _ _ _ (by rfl) 0 9 i9 _ 1 16 Try.underlying41 hi9 hz90 hz91 hz92 rfl (by omega) vt _ _ (by rfl) ((ownsRow_of hTo (fun g hg => hB3.block g (owned_lt hTo hg))).alloc _)
        ⟨w3.heap.size, 0, none⟩ 1 1 [.string (full s)] (by rfl) (by rfl) (World.news_of_block (cs := #[.string (full s)]) (t := 9) (fr := (0, 0)) (heap_alloc_new w3 _)) (by simp [Value.oneCell'])
        (by omega) (by unfold maxLen; omega) (by omega) (by simp) (w3.heap.size + 1) (by simp) ?_; intro g cap w6 hown1 hgrow hat hglt; have hfw : w6.frozen? ⟨q, 2, none⟩ = false := (hgrow.frozen_far _ (by simp; omega) kqt).trans ((World.frozen?_alloc_past _ _ _ kl3).trans kf3); have hcw : w6.cell? ⟨q, 2, none⟩ = some vt := (hgrow.cell_far _ (by simp; omega) kqt).trans ((World.cell?_alloc_past _ _ _ kl3).trans kc3))
    | (go_simp; go_at_call 25; refine (refFull_any s _ hs).mono ?_; rintro e w3 ⟨rfl, hB3⟩; have kc3 : w3.cell? ⟨q, 2, none⟩ = some vt := (hB3.cell (p := ⟨q, 2, none⟩) klt).trans k2; have kf3 : w3.frozen? ⟨q, 2, none⟩ = false := (hB3.frozen (p := ⟨q, 2, none⟩) klt).trans kf; have kl3 : q < w3.heap.size := by (have := hB3.size; simp at this; omega)))
  all_goals
    have hR3 := HR2.out.drew.below hB3
    have hT3 := hR3.pushT (s := full s) (World.grownBy_alloc w3 _ none) hgrow (hat.imp id (fun e => by omega)) (by simp only [HT.out]; exact hown1)
    simp only [HT.out] at hT3
    generalize (Value.slice (some ⟨g, 0, none⟩) (d.Q.length + 1) cap) = vt2 at *
    generalize w6.setCell ⟨q, 2, none⟩ vt2 = W6 at *
    obtain ⟨hR4, hF4, hS4⟩ := hT3
    have hBW : Fr (RFoot q (.slice lo d.L.length lc) vp2 vt) W w3 := Fr.ofBelow _ (((Below.refl _ _).drew).trans hB3)
    have HF4 := Lib.hid (HF2.out.trans HS2.out (hBW.trans (Sub.refl _ _) hF4))
    have HS4 := Lib.hid (HS2.out.trans (fun k hk => (hS4 k hk).imp id (fun e => by have := hBW.size; omega)) HF2.out.size)
    have HD4 : Hid (RDk W6 q (RFoot q (.slice lo d.L.length lc) vp2 vt2) (Rk.of (d.queued n s) kp)) := Lib.hid ⟨_, _, _, by simpa [Rk.of, Dk.queued] using hR4, rfl⟩
    clear hR3 hR4 hF4 hS4 hBW hown1 hgrow hat hglt hfw hcw hB3 kc3 kf3 kl3 k2 kf kqt klt hTo hi9 hz90 hz91 hz92
    go_wp2_with fail
    refine (rtorn_no HD4.out (Dk.queued_ok HOk.out n s hn).cut0 (Dk.queued_ok HOk.out n s hn).cut1 HF.out).mono ?_
    rintro e w8 ⟨rfl, F8, hD8, hF8, hS8⟩
    have HF8 := Lib.hid (HF4.out.trans HS4.out hF8)
    have HS8 := Lib.hid (HS4.out.trans hS8 HF4.out.size)
    obtain ⟨vl8, vp8, vt8, hR8, rfl⟩ := hD8
    have h6 := hR8.cells.2.2.2.2.2.2.1
    have hff := hR8.free 6
    simp only [Rk.of, show (d.queued n s).after.wr = d.wr from Dk.after_wr] at h6
    have HR8 := Lib.hid hR8
    clear hR8 hF8 hS8
    go_wp2
    go_ret
    refine ⟨rfl, _, ⟨_, _, _, HR8.out.setQ 6 _ vp8 vt8 (Rk.of (d.queued n s).after.wrote kp) rfl (.inl ⟨rfl, rfl⟩) (.inl ⟨rfl, rfl⟩) ?_, rfl⟩, HF8.out.trans HS8.out (Fr.setQ 6 _), HS8.out⟩
    simp only [Rk.of, Dk.wrote, show (d.queued n s).after.wr = d.wr from Dk.after_wr]
    rfl

set_option maxRecDepth 100000 in
set_option maxHeartbeats 1000000 in
theorem rwrite_cut (h : RDk w q F (Rk.of d kp)) (n : Nat) (s : ByteArray) (hn : n < d.L.length) (hs : s.size ≤ 256) (ho : d.off = false) (hok : d.Ok) (hql : d.Q.length < 5000000000000)
    (hfn : d.fails = true) (hkp : kp = d.keep) :
    Calls Try.prog 12 #[.pointer (some ⟨q, 0, none⟩), .int .i64 n, .string s] w fun e w' => e = .returned (.int .i64 20) ∧ RTo w q F (Rk.of (d.queued n s).after kp) w' := by
  obtain ⟨i3, hi3, hz30, hz31, hz32⟩ := info_parts info3
  obtain ⟨i9, hi9, hz90, hz91, hz92⟩ := info_parts info9'
  have HF := Lib.hid hfn
  clear hfn
  have HK := Lib.hid hkp
  clear hkp
  have HOk := Lib.hid hok
  obtain ⟨vl, vp, vt, hR, rfl⟩ := h
  obtain ⟨lo, lc, rfl⟩ := slice_of hR.rowL (n := d.L.length) rfl
  obtain ⟨g0, g1, g2, g3, g4, g5, g6, g7⟩ := hR.cells
  simp only [Rk.of, ho] at g5
  have hf := hR.free
  have hqp := hR.qp
  have hql2 := hR.lt
  have HR := Lib.hid hR
  have hpl : (Rk.of d kp).P.length = d.Q.length := by simp [Rk.of]
  have hPo := hR.rowP
  rw [hpl] at hPo
  have HPL := Lib.hid hpl
  clear hR ho hok hpl g3 g4 g6 g7
  go_enter Try.func12, Try.ntmps12
  go_wp2_with (at_builtin; refine wpList_append_lies _ rfl (.tmp 31) (.tmp 33) 42 rfl 0 3 i3 _ 1 8 Try.underlying42 hi3 hz30 hz31 hz32 rfl (by omega) vp _ _ rfl (hPo.alloc _) ⟨w.heap.size, 0, none⟩ 1 1 [.int .i64 (n : Int)] rfl rfl (World.news_of_block (cs := #[.int .i64 (n : Int)]) (t := 3) (fr := (0, 0)) (heap_alloc_new w _)) (by simp [Value.oneCell']) (by omega) (by unfold maxLen; omega) (by omega) (by simp) (w.heap.size + 1) (by simp) ?_; intro g cap w1 hown1 hgrow hat hglt; have hfw : w1.frozen? ⟨q, 1, none⟩ = false := (hgrow.frozen_far _ (by simp; omega) hqp).trans ((World.frozen?_alloc_past _ _ _ hql2).trans (hf 1)); have hcw : w1.cell? ⟨q, 1, none⟩ = some vp := (hgrow.cell_far _ (by simp; omega) hqp).trans ((World.cell?_alloc_past _ _ _ hql2).trans g1))
  have hP := HR.out.pushP (n := n) (World.grownBy_alloc w _ none) hgrow (hat.imp id (fun e => by omega)) (by rw [HPL.out]; exact hown1)
  rw [HPL.out] at hP
  generalize (Value.slice (some ⟨g, 0, none⟩) (d.Q.length + 1) cap) = vp2 at *
  generalize w1.setCell ⟨q, 1, none⟩ vp2 = W at *
  obtain ⟨hR2, hF2, hS2⟩ := hP
  have HF2 := Lib.hid hF2
  have HS2 := Lib.hid hS2
  have HR2 := Lib.hid hR2
  have k2 := hR2.cells.2.2.1
  have kf := hR2.free 2
  have kqt := hR2.qt
  have klt := hR2.lt
  have hT : (Rk.of d kp).T.length = d.Q.length := by simp [Rk.of]
  have hTo := hR2.rowT
  simp only [hT] at hTo
  have HT := Lib.hid hT
  clear hF2 hS2 hR2 hT hown1 hgrow hat hglt hfw hcw hPo g0 g1 g2 g5 hf hqp hql2 HR HPL hi3 hz30 hz31 hz32
  go_wp2
  go_region_law (first
    | (refine step_append_lies _ (by rfl) _ _ _ (by rfl) 0 9 i9 _ 1 16 Try.underlying41 hi9 hz90 hz91 hz92 rfl (by omega) vt _ _ (by rfl) ((ownsRow_of hTo (fun g hg => hB3.block g (owned_lt hTo hg))).alloc _)
        ⟨w3.heap.size, 0, none⟩ 1 1 [.string (full s)] (by rfl) (by rfl) (World.news_of_block (cs := #[.string (full s)]) (t := 9) (fr := (0, 0)) (heap_alloc_new w3 _)) (by simp [Value.oneCell'])
        (by omega) (by unfold maxLen; omega) (by omega) (by simp) (w3.heap.size + 1) (by simp) ?_; intro g cap w6 hown1 hgrow hat hglt; have hfw : w6.frozen? ⟨q, 2, none⟩ = false := (hgrow.frozen_far _ (by simp; omega) kqt).trans ((World.frozen?_alloc_past _ _ _ kl3).trans kf3); have hcw : w6.cell? ⟨q, 2, none⟩ = some vt := (hgrow.cell_far _ (by simp; omega) kqt).trans ((World.cell?_alloc_past _ _ _ kl3).trans kc3))
    | (go_simp; go_at_call 25; refine (refFull_any s _ hs).mono ?_; rintro e w3 ⟨rfl, hB3⟩; have kc3 : w3.cell? ⟨q, 2, none⟩ = some vt := (hB3.cell (p := ⟨q, 2, none⟩) klt).trans k2; have kf3 : w3.frozen? ⟨q, 2, none⟩ = false := (hB3.frozen (p := ⟨q, 2, none⟩) klt).trans kf; have kl3 : q < w3.heap.size := by (have := hB3.size; simp at this; omega)))
  all_goals
    have hR3 := HR2.out.drew.below hB3
    have hT3 := hR3.pushT (s := full s) (World.grownBy_alloc w3 _ none) hgrow (hat.imp id (fun e => by omega)) (by simp only [HT.out]; exact hown1)
    simp only [HT.out] at hT3
    generalize (Value.slice (some ⟨g, 0, none⟩) (d.Q.length + 1) cap) = vt2 at *
    generalize w6.setCell ⟨q, 2, none⟩ vt2 = W6 at *
    obtain ⟨hR4, hF4, hS4⟩ := hT3
    have hBW : Fr (RFoot q (.slice lo d.L.length lc) vp2 vt) W w3 := Fr.ofBelow _ (((Below.refl _ _).drew).trans hB3)
    have HF4 := Lib.hid (HF2.out.trans HS2.out (hBW.trans (Sub.refl _ _) hF4))
    have HS4 := Lib.hid (HS2.out.trans (fun k hk => (hS4 k hk).imp id (fun e => by have := hBW.size; omega)) HF2.out.size)
    have HD4 : Hid (RDk W6 q (RFoot q (.slice lo d.L.length lc) vp2 vt2) (Rk.of (d.queued n s) kp)) := Lib.hid ⟨_, _, _, by simpa [Rk.of, Dk.queued] using hR4, rfl⟩
    clear hR3 hR4 hF4 hS4 hBW hown1 hgrow hat hglt hfw hcw hB3 kc3 kf3 kl3 k2 kf kqt klt hTo hi9 hz90 hz91 hz92
    go_wp2_with fail
    refine (rtorn_yes HD4.out HK.out (Dk.queued_ok HOk.out n s hn).inQ HF.out).mono ?_
    rintro e w8 ⟨rfl, F8, hD8, hF8, hS8⟩
    have HF8 := Lib.hid (HF4.out.trans HS4.out hF8)
    have HS8 := Lib.hid (HS4.out.trans hS8 HF4.out.size)
    have HD8 := Lib.hid hD8
    clear hD8 hF8 hS8
    go_wp2
    go_ret
    exact ⟨rfl, F8, HD8.out, HF8.out, HS8.out⟩
end
end Go.Proofs.Ythomjcndaddbbaa
