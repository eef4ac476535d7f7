/-
  What Write, Flush and Crash do to a disk. Their conditions: a disk as it may be, room in its queue and its counts.
-/
import Derived.Test.YthomjcndaddbbaaLose
namespace Go.Proofs.Ythomjcndaddbbaa
open Go.RowKit
section
variable {w : World} {l : Loc} {v : Value} {d : Dk}

set_option maxHeartbeats 400000 in
theorem fails_zero (h : Disk w l v d) (hz : d.cut = 0) : Calls Try.prog 30 #[.pointer (some ⟨l.p, 0, none⟩)] w fun e w' => e = .returned (.bool false) ∧ w = w' := by
  obtain ⟨h0, h1, h2, h3, h4, h5, h6, h7⟩ := h.cells
  rw [hz] at h4
  clear h hz
  go_enter Try.func30, Try.ntmps30
  go_wp2
  go_ret
  exact ⟨rfl, rfl⟩

set_option maxHeartbeats 400000 in
theorem fails_more (h : Disk w l v d) (c : Int) (hc : d.cut = c) (hz : 1 < c) (hm : c ≤ 9223372036854775807) : Calls Try.prog 30 #[.pointer (some ⟨l.p, 0, none⟩)] w fun e w' => e = .returned (.bool false) ∧ DkTo w l v { d with cut := c - 1 } w' := by
  obtain ⟨h0, h1, h2, h3, h4, h5, h6, h7⟩ := h.cells
  rw [hc] at h4
  have hf := h.free
  have HH := Lib.hid h
  clear h hc
  have hne : (c == 0) = false := by simp; omega
  have hgt : 0 < c - 1 := by omega
  go_enter Try.func30, Try.ntmps30
  go_wp2
  go_ret
  refine ⟨rfl, v, ?_, Chg.setP 4 _ (.inr rfl)⟩
  exact HH.out.setP 4 _ v { d with cut := c - 1 } rfl rfl (.inl ⟨rfl, rfl⟩) rfl

set_option maxHeartbeats 400000 in
theorem fails_now (h : Disk w l v d) (hc : d.cut = 1) (hq : ∀ x ∈ d.Q, x.1 < d.L.length) : Calls Try.prog 30 #[.pointer (some ⟨l.p, 0, none⟩)] w fun e w' => e = .returned (.bool true) ∧ DkTo w l v { ({ d with cut := 0 } : Dk).lose d.keep with off := true } w' := by
  obtain ⟨h0, h1, h2, h3, h4, h5, h6, h7⟩ := h.cells
  rw [hc] at h4
  have hf := h.free
  have HQ := Lib.hid hq
  have H1 := Lib.hid (h.setP 4 (.int .i64 0) v { d with cut := 0 } rfl rfl (.inl ⟨rfl, rfl⟩) rfl)
  clear h hc hq
  go_enter Try.func30, Try.ntmps30
  go_wp2_with fail
  refine (lose_any H1.out HQ.out d.keep).mono ?_
  rintro e w2 ⟨rfl, v2, hD, hC⟩
  have HD := Lib.hid hD
  have HC := Lib.hid hC
  have hf2 := hD.free
  have h32 := hD.cells.2.2.2.1
  clear hD hC
  go_wp2
  go_ret
  refine ⟨rfl, v2, ?_, ?_⟩
  · exact HD.out.setP 3 (.bool true) v2 _ rfl rfl (.inl ⟨rfl, rfl⟩) rfl
  · exact ((Chg.setP 4 _ (.inr rfl)).trans HC.out).trans (Chg.setP 3 _ (.inr rfl))

theorem fails_no (h : Disk w l v d) (h0 : 0 ≤ d.cut) (h1 : d.cut ≤ 9223372036854775807) (hf : d.fails = false) : Calls Try.prog 30 #[.pointer (some ⟨l.p, 0, none⟩)] w fun e w' => e = .returned (.bool false) ∧ DkTo w l v d.after w' := by
  have hc : d.cut ≠ 1 := by intro e; simp [Dk.fails, e] at hf
  by_cases hz : d.cut = 0
  · refine (fails_zero h hz).mono ?_
    rintro e w' ⟨rfl, rfl⟩
    refine ⟨rfl, v, ?_, Chg.refl _ _ _⟩
    simpa [Dk.after, hz] using h
  · refine (fails_more h d.cut rfl (by omega) h1).mono ?_
    rintro e w' ⟨rfl, hd⟩
    refine ⟨rfl, ?_⟩
    simpa [Dk.after, hz, hc] using hd

theorem fails_yes (h : Disk w l v d) (hq : ∀ x ∈ d.Q, x.1 < d.L.length) (hf : d.fails = true) : Calls Try.prog 30 #[.pointer (some ⟨l.p, 0, none⟩)] w fun e w' => e = .returned (.bool true) ∧ DkTo w l v d.after w' := by
  have hc : d.cut = 1 := by simpa [Dk.fails] using hf
  refine (fails_now h hc hq).mono ?_
  rintro e w' ⟨rfl, hd⟩
  refine ⟨rfl, ?_⟩
  simpa [Dk.after, hc] using hd

set_option maxHeartbeats 400000 in
theorem crash_any (h : Disk w l v d) (hq : ∀ x ∈ d.Q, x.1 < d.L.length) (k : Int) : Calls Try.prog 18 #[.pointer (some ⟨l.p, 0, none⟩), .int .i64 k] w fun e w' => e = .returned (.tuple #[]) ∧ DkTo w l v (d.crash k) w' := by
  have HQ := Lib.hid hq
  have HH := Lib.hid h
  clear h hq
  go_enter Try.func18, Try.ntmps18
  go_wp2_with fail
  refine (lose_any HH.out HQ.out k).mono ?_
  rintro e w2 ⟨rfl, v2, hD, hC⟩
  have HD := Lib.hid hD
  have HC := Lib.hid hC
  clear hD hC
  go_wp2_with fail
  refine (on_any HD.out).mono ?_
  rintro e w3 ⟨rfl, v3, hD, hC⟩
  have HD3 := Lib.hid hD
  have HC3 := Lib.hid hC
  clear hD hC
  go_wp2
  go_end0
  exact ⟨rfl, v3, HD3.out, HC.out.trans HC3.out⟩

set_option maxHeartbeats 400000 in
theorem flush_off (h : Disk w l v d) (ho : d.off = true) : Calls Try.prog 15 #[.pointer (some ⟨l.p, 0, none⟩)] w fun e w' => e = .returned (.int .i64 20) ∧ w = w' := by
  obtain ⟨h0, h1, h2, h3, h4, h5, h6, h7⟩ := h.cells
  rw [ho] at h3
  clear h ho
  go_enter Try.func15, Try.ntmps15
  go_wp2
  go_ret
  exact ⟨rfl, rfl⟩

set_option maxHeartbeats 400000 in
theorem flush_cut (h : Disk w l v d) (ho : d.off = false) (hq : ∀ x ∈ d.Q, x.1 < d.L.length) (hf : d.fails = true) : Calls Try.prog 15 #[.pointer (some ⟨l.p, 0, none⟩)] w fun e w' => e = .returned (.int .i64 20) ∧ DkTo w l v d.after w' := by
  obtain ⟨h0, h1, h2, h3, h4, h5, h6, h7⟩ := h.cells
  rw [ho] at h3
  have HQ := Lib.hid hq
  have HH := Lib.hid h
  have HF := Lib.hid hf
  clear h ho hq hf
  go_enter Try.func15, Try.ntmps15
  go_wp2_with fail
  refine (fails_yes HH.out HQ.out HF.out).mono ?_
  rintro e w2 ⟨rfl, hD⟩
  have HD := Lib.hid hD
  clear hD
  go_wp2
  go_ret
  exact ⟨rfl, HD.out⟩

set_option maxHeartbeats 1000000 in
theorem flush_ok (h : Disk w l v d) (ho : d.off = false) (hc0 : 0 ≤ d.cut) (hc1 : d.cut ≤ 9223372036854775807) (hf : d.fails = false) (hfl : 0 ≤ d.fl) (hfl2 : d.fl < 9223372036854775807) :
    Calls Try.prog 15 #[.pointer (some ⟨l.p, 0, none⟩)] w fun e w' => e = .returned (.int .i64 0) ∧ DkTo w l v d.after.flushed w' := by
  obtain ⟨h0, h1, h2, h3, h4, h5, h6, h7⟩ := h.cells
  rw [ho] at h3
  have HH := Lib.hid h
  have HF := Lib.hid hf
  clear h ho hf
  have hafl : d.after.fl = d.fl := by unfold Dk.after; split <;> (try split) <;> rfl
  have HA := Lib.hid hafl
  clear hafl
  go_enter Try.func15, Try.ntmps15
  go_wp2_with fail
  refine (fails_no HH.out hc0 hc1 HF.out).mono ?_
  rintro e w2 ⟨rfl, v2, hD, hC⟩
  clear h0 h1 h2 h3 h4 h5 h6 h7
  obtain ⟨D, hDe⟩ : ∃ D, D = d.after := ⟨_, rfl⟩
  rw [← hDe] at hD
  have HDe := Lib.hid hDe
  clear hDe
  have HD := Lib.hid hD
  have HC := Lib.hid hC
  obtain ⟨h0, h1, h2, h3, h4, h5, h6, h7⟩ := hD.cells
  clear hD hC
  obtain ⟨W2, hrun, HW⟩ := copy_lasts (W := w2.drew) (HD.out.same rfl) 3
  have hD2 := HW.out.1
  have hc2 := hD2.cells.2.2.1
  have hc7 := hD2.cells.2.2.2.2.2.2.2
  simp only at hc7
  have hff := hD2.free
  rw [HDe.out, HA.out] at hc7
  clear hD2
  go_wp2
  go_region
  all_goals
    go_wp2
    go_ret
    refine ⟨rfl, .slice none 0 0, ?_, ?_⟩
    · have e1 := HW.out.1.setP 2 (.slice none 0 0) (.slice none 0 0) { D with L := D.S, Q := [] } rfl rfl (.inr ⟨rfl, rfl⟩) rfl
      have e2 := e1.setP 7 (.int .i64 (d.fl + 1)) (.slice none 0 0) D.flushed rfl rfl (.inl ⟨rfl, rfl⟩) (by rw [HDe.out]; unfold Dk.flushed; simp only [HA.out]; rfl)
      rw [HDe.out] at e2
      exact e2
    · exact ((HC.out.drew.trans HW.out.2).trans (Chg.setP (v' := .slice none 0 0) 2 _ (.inl rfl))).trans (Chg.setP 7 _ (.inr rfl))
set_option maxHeartbeats 400000 in
theorem write_no (h : Disk w l v d) (n : Int) (s : ByteArray) (hn : n < 0 ∨ (d.L.length : Int) ≤ n) : Calls Try.prog 11 #[.pointer (some ⟨l.p, 0, none⟩), .int .i64 n, .string s] w fun e w' => e = .returned (.int .i64 1) ∧ w = w' := by
  have HN := Lib.hid hn
  clear hn
  go_enter Try.func11, Try.ntmps11
  go_wp2_with (go_at_call 29; refine (has_no h n HN.out).mono ?_; rintro e w' ⟨rfl, rfl⟩)
  go_ret
  exact ⟨rfl, rfl⟩

set_option maxHeartbeats 400000 in
theorem write_long (h : Disk w l v d) (n : Int) (s : ByteArray) (hn0 : 0 ≤ n) (hn : n < d.L.length) (hs : 256 < s.size) : Calls Try.prog 11 #[.pointer (some ⟨l.p, 0, none⟩), .int .i64 n, .string s] w fun e w' => e = .returned (.int .i64 1) ∧ w = w' := by
  go_enter Try.func11, Try.ntmps11
  go_wp2_with (go_at_call 29; refine (has_yes h n hn0 hn).mono ?_; rintro e w' ⟨rfl, rfl⟩)
  go_ret
  exact ⟨rfl, rfl⟩

set_option maxHeartbeats 400000 in
theorem write_off (h : Disk w l v d) (n : Int) (s : ByteArray) (hn0 : 0 ≤ n) (hn : n < d.L.length) (hs : s.size ≤ 256) (ho : d.off = true) : Calls Try.prog 11 #[.pointer (some ⟨l.p, 0, none⟩), .int .i64 n, .string s] w fun e w' => e = .returned (.int .i64 20) ∧ w = w' := by
  obtain ⟨h0, h1, h2, h3, h4, h5, h6, h7⟩ := h.cells
  rw [ho] at h3
  go_enter Try.func11, Try.ntmps11
  go_wp2_with (go_at_call 29; refine (has_yes h n hn0 hn).mono ?_; rintro e w' ⟨rfl, rfl⟩)
  go_ret
  exact ⟨rfl, rfl⟩

theorem info67 : (Try.prog.info? 67).map (fun i => (i.zero, i.size, i.bytes)) = some (some (.agg #[.int .i64 0, .string ⟨#[]⟩]), 2, 24) := by kernel_rfl

theorem Disk.below {w' : World} (h : Disk w l v d) (hb : Below w.heap.size w w') : Disk w' l v d := by
  have k : ∀ k, k < w.heap.size → w'.heap[k]? = w.heap[k]? := hb.block
  exact ⟨(k _ h.lt).trans h.head, (k _ h.ltb).trans h.rowL, (k _ h.ltc).trans h.rowS, ownsRow_of h.queue fun g hg => k g (h.vlt hg), h.apart, h.len⟩
theorem Chg.ofBelow {w' : World} (l : Loc) (v : Value) (hb : Below w.heap.size w w') : Chg l v v w w' :=
  ⟨hb.os, hb.tape, hb.output, hb.size, fun k hk _ _ _ _ => hb.block k hk, .inr (.inl rfl)⟩

theorem grownBy_drew {o : Obj} : w.grownBy (w.alloc o).drew none := by
  have := World.grownBy_alloc w o none; exact ⟨this.os, this.tape, this.output, this.size, this.block⟩
/-- The queue has grown by one. -/
theorem Disk.push {w0 w1 : World} {g cap n : Nat} {s : ByteArray} (h : Disk w l v d) (hg0 : w.grownBy w0 none) (hgrow : w0.grownBy w1 v.ownBlock) (hat : v.ownBlock = some g ∨ w.heap.size ≤ g)
    (hown : w1.ownsRow 0 67 2 (.slice (some ⟨g, 0, none⟩) (d.Q.length + 1) cap) (d.Q.length + 1) (qcells d.Q ++ [.int .i64 (n : Int), .string s])) :
    DkTo w l v { d with Q := d.Q ++ [(n, s)] } (w1.setCell ⟨l.p, 2, none⟩ (.slice (some ⟨g, 0, none⟩) (d.Q.length + 1) cap)) := by
  have hk : ∀ k, k < w.heap.size → some k ≠ v.ownBlock → w1.heap[k]? = w.heap[k]? := fun k hk hv => (hgrow.block k (by have := hg0.size; omega) hv).trans (hg0.block k hk (by simp))
  have hgp : g ≠ l.p := by
    rcases hat with e | e
    · intro e2; exact h.vp (by rw [e, e2])
    · have := h.lt; omega
  refine ⟨.slice (some ⟨g, 0, none⟩) (d.Q.length + 1) cap, ⟨?_, ?_, ?_, ?_, h.apart, h.len⟩, ?_⟩
  · rw [heap_set _ ((hk _ h.lt h.vp).trans h.head)]; rfl
  · rw [Below.heap_setCell _ _ _ _ (fun e => h.pb e.symm)]; exact (hk _ h.ltb h.vb).trans h.rowL
  · rw [Below.heap_setCell _ _ _ _ (fun e => h.pc e.symm)]; exact (hk _ h.ltc h.vc).trans h.rowS
  · have e : (d.Q ++ [(n, s)]).length = d.Q.length + 1 := by simp
    show World.ownsRow _ 0 67 2 _ (d.Q ++ [(n, s)]).length (qcells (d.Q ++ [(n, s)]))
    rw [e, qcells_append]
    refine ownsRow_of hown fun k hk2 => Below.heap_setCell _ _ _ _ ?_
    have : g = k := by simpa [Value.ownBlock] using hk2
    rw [← this]; exact hgp
  · refine ⟨hgrow.os.trans hg0.os, hgrow.tape.trans hg0.tape, hgrow.output.trans hg0.output, ?_, ?_, ?_⟩
    · simp [World.setCell]; exact Nat.le_trans hg0.size hgrow.size
    · intro k hk2 h1 _ _ hv
      rw [Below.heap_setCell _ _ _ _ h1]
      exact hk k hk2 hv
    · rcases hat with e | e
      · exact .inr (.inl (by rw [e]; rfl))
      · exact .inr (.inr ⟨g, rfl, e⟩)

set_option maxRecDepth 100000 in
set_option maxHeartbeats 1000000 in
theorem write_ok (h : Disk w l v d) (n : Nat) (s : ByteArray) (hn : n < d.L.length) (hs : s.size ≤ 256) (ho : d.off = false) (hq : ∀ x ∈ d.Q, x.1 < d.L.length) (hql : d.Q.length < 5000000000000)
    (hc0 : 0 ≤ d.cut) (hc1 : d.cut ≤ 9223372036854775807) (hf : d.fails = false) (hw0 : 0 ≤ d.wr) (hw1 : d.wr < 9223372036854775807) :
    Calls Try.prog 11 #[.pointer (some ⟨l.p, 0, none⟩), .int .i64 n, .string s] w fun e w' => e = .returned (.int .i64 0) ∧ DkTo w l v (d.queued n s).after.wrote w' := by
  obtain ⟨i0, hi, hz0, hz1, hz2⟩ := info_parts info67
  obtain ⟨h0, h1, h2, h3, h4, h5, h6, h7⟩ := h.cells
  rw [ho] at h3
  have HQ := Lib.hid hq
  have HH := Lib.hid h
  have HF := Lib.hid hf
  clear h ho hf hq
  go_enter Try.func11, Try.ntmps11
  go_wp2_with (first
    | (go_at_call 29; refine (has_yes HH.out n (by omega) (by omega)).mono ?_; rintro e w' ⟨rfl, rfl⟩)
    | (go_at_call 27; refine (filled_any s _ hs).mono ?_; rintro e w1 ⟨rfl, hB⟩; have HB := Lib.hid hB; clear hB))
  obtain ⟨B, hBq⟩ : ∃ B, B = w1.heap.size := ⟨_, rfl⟩
  have hcell7 : (w1.alloc (.cells #[.int .i64 (n : Int), .string (full s)] 67)).cell? ⟨w1.heap.size, 0, none⟩ = some (.int .i64 (n : Int)) := by
    rw [cell_of_row _ _ _ _ _ _ (heap_alloc_new w1 _)]; rfl
  have hcell8 : (w1.alloc (.cells #[.int .i64 (n : Int), .string (full s)] 67)).cell? ⟨w1.heap.size, 1, none⟩ = some (.string (full s)) := by
    rw [cell_of_row _ _ _ _ _ _ (heap_alloc_new w1 _)]; rfl
  have hD1 := (HH.out.below HB.out).alloc (.cells #[.int .i64 (n : Int), .string (full s)] 67)
  have HC1 := Lib.hid ((Chg.ofBelow l v HB.out).trans (Chg.alloc l v w1 (.cells #[.int .i64 (n : Int), .string (full s)] 67)))
  have hlt7 : w1.heap.size < (w1.alloc (.cells #[.int .i64 (n : Int), .string (full s)] 67)).heap.size := by simp
  have hBv : some w1.heap.size ≠ v.ownBlock := by
    intro e; have := HH.out.vlt e.symm; have := HB.out.size; omega
  have hBp : w1.heap.size ≠ l.p := by have := HH.out.lt; have := HB.out.size; omega
  rw [← hBq] at hcell7 hcell8 hlt7 hBv hBp ⊢
  clear h0 h1 h2 h3 h4 h5 h6 h7 hBq
  generalize w1.alloc (.cells #[.int .i64 (n : Int), .string (full s)] 67) = W at *
  have HD1 := Lib.hid hD1
  obtain ⟨h0, h1, h2, h3, h4, h5, h6, h7⟩ := hD1.cells
  have hf2 := hD1.free 2
  have hpl := hD1.lt
  have hvp := hD1.vp
  clear hD1 h0 h1 h3 h4 h5 h6 h7
  go_region_law
    ((refine step_append_lies _ (by rfl) _ _ _ (by rfl) 0 67 i0 _ 2 24 Try.underlying62 hi hz0 hz1 hz2 rfl (by omega) v _ _ (by rfl) ((HD1.out.queue.alloc _).drew)
        ⟨W.heap.size, 0, none⟩ 1 1 [.int .i64 (n : Int), .string (full s)] (by rfl) (by rfl) (World.news_of_block (cs := #[.int .i64 (n : Int), .string (full s)]) (t := 67) (fr := (0, 0)) (heap_alloc_new W _)) (by simp [Value.oneCell'])
        (by omega) (by unfold maxLen; omega) (by omega) (by simp) (W.heap.size + 1) (by simp) ?_; intro g cap w6 hown1 hgrow hat hglt; have hfw : w6.frozen? ⟨l.p, 2, none⟩ = false := (hgrow.frozen_far _ (by simp; omega) hvp).trans ((World.frozen?_alloc_past _ _ _ hpl).trans hf2); have hcw : w6.cell? ⟨l.p, 2, none⟩ = some v := (hgrow.cell_far _ (by simp; omega) hvp).trans ((World.cell?_alloc_past _ _ _ hpl).trans h2); have hcb : w6.cell? ⟨B, 1, none⟩ = some (.string (full s)) := (hgrow.cell_far _ (by simp; omega) hBv).trans ((World.cell?_alloc_past _ _ _ hlt7).trans hcell8)))
  all_goals
    have hcb6 : (w6.setCell ⟨l.p, 2, none⟩ (.slice (some ⟨g, 0, none⟩) (d.Q.length + 1) cap)).cell? ⟨B, 1, none⟩ = some (.string (full s)) := by
      rw [← hcb]; exact World.cell?_of_block (Below.heap_setCell _ _ _ _ hBp)
    obtain ⟨v6, hD6, hC6⟩ := Disk.push (n := n) (s := full s) HD1.out grownBy_drew hgrow (hat.imp id (fun e => by omega)) hown1
    generalize w6.setCell ⟨l.p, 2, none⟩ (.slice (some ⟨g, 0, none⟩) (d.Q.length + 1) cap) = W6 at *
    clear hown1 hgrow hat hglt hfw hcw hcb hcell7 hcell8 hlt7 hBv h2 hf2 hpl hvp hi hz0 hz1 hz2
    have HD6 := Lib.hid hD6
    have HC6 := Lib.hid (HC1.out.trans hC6)
    obtain ⟨h0, h1, h2, h3, h4, h5, h6, h7⟩ := hD6.cells
    simp only at h1
    have hcs := hD6.seen n hn
    have hcf : W6.frozen? ⟨l.c, n, none⟩ = false := Lib.frozen_of_heap hD6.rowS _
    clear hD6 hC6 h0 h2 h3 h4 h5 h6 h7
    simp only at hcs
    obtain ⟨z, hz⟩ : ∃ z, z = d.S.getD n ⟨#[]⟩ := ⟨_, rfl⟩
    rw [← hz] at hcs
    clear hz
    go_wp2
    go_region
  all_goals
    have HD7 := Lib.hid ((HD6.out.setC n hn (full s)).same (w' := (W6.setCell ⟨l.c, n, none⟩ (.string (full s))).drew) rfl)
    have HC7 := Lib.hid ((HC6.out.trans (Chg.setC n (.string (full s)))).drew)
    clear h1 hcs hcf hcb6
    go_wp2_with fail
    refine (fails_no (d := d.queued n s) HD7.out hc0 hc1 HF.out).mono ?_
    rintro e w8 ⟨rfl, v8, hD8, hC8⟩
    have HD8 := Lib.hid hD8
    have HC8 := Lib.hid (HC7.out.trans hC8)
    have h6 := hD8.cells.2.2.2.2.2.2.1
    have hff := hD8.free 6
    rw [show (d.queued n s).after.wr = d.wr from by unfold Dk.after; split <;> (try split) <;> rfl] at h6
    clear hD8 hC8
    go_wp2
    go_ret
    refine ⟨rfl, v8, ?_, HC8.out.trans (Chg.setP 6 _ (.inr rfl))⟩
    refine HD8.out.setP 6 _ v8 _ rfl rfl (.inl ⟨rfl, rfl⟩) ?_
    unfold Dk.wrote
    simp only [show (d.queued n s).after.wr = d.wr from by unfold Dk.after; split <;> (try split) <;> rfl]
    rfl
end
end Go.Proofs.Ythomjcndaddbbaa
