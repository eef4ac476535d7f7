/-
  What Write does where the power goes off in it. Its conditions: a disk as it may be, room in its queue.
-/
import Derived.Test.YthomjcndaddbbaaWr
namespace Go.Proofs.Ythomjcndaddbbaa
open Go.RowKit
section
variable {w : World} {l : Loc} {v : Value} {d : Dk}

set_option maxRecDepth 100000 in
set_option maxHeartbeats 1000000 in
theorem write_cut (h : Disk w l v d) (n : Nat) (s : ByteArray) (hn : n < d.L.length) (hs : s.size ≤ 256) (ho : d.off = false) (hq : ∀ x ∈ d.Q, x.1 < d.L.length) (hql : d.Q.length < 5000000000000)
    (hf : d.fails = true) :
    Calls Try.prog 11 #[.pointer (some ⟨l.p, 0, none⟩), .int .i64 n, .string s] w fun e w' => e = .returned (.int .i64 20) ∧ DkTo w l v (d.queued n s).after w' := by
  obtain ⟨i0, hi, hz0, hz1, hz2⟩ := info_parts info67
  obtain ⟨h0, h1, h2, h3, h4, h5, h6, h7⟩ := h.cells
  rw [ho] at h3
  have HQ := Lib.hid hq
  have HH := Lib.hid h
  have HF := Lib.hid hf
  clear h ho hf hq
  go_enter Try.func11, Try.ntmps11
  go_wp2_with (first
    | (go_at_call 29; refine (has_yes HH.out n (by omega) (by omega)).mono ?_; rintro e w' ⟨rfl, rfl⟩)
    | (go_at_call 27; refine (filled_any s _ hs).mono ?_; rintro e w1 ⟨rfl, hB⟩; have HB := Lib.hid hB; clear hB))
  obtain ⟨B, hBq⟩ : ∃ B, B = w1.heap.size := ⟨_, rfl⟩
  have hcell7 : (w1.alloc (.cells #[.int .i64 (n : Int), .string (full s)] 67)).cell? ⟨w1.heap.size, 0, none⟩ = some (.int .i64 (n : Int)) := by
    rw [cell_of_row _ _ _ _ _ _ (heap_alloc_new w1 _)]; rfl
  have hcell8 : (w1.alloc (.cells #[.int .i64 (n : Int), .string (full s)] 67)).cell? ⟨w1.heap.size, 1, none⟩ = some (.string (full s)) := by
    rw [cell_of_row _ _ _ _ _ _ (heap_alloc_new w1 _)]; rfl
  have hD1 := (HH.out.below HB.out).alloc (.cells #[.int .i64 (n : Int), .string (full s)] 67)
  have HC1 := Lib.hid ((Chg.ofBelow l v HB.out).trans (Chg.alloc l v w1 (.cells #[.int .i64 (n : Int), .string (full s)] 67)))
  have hlt7 : w1.heap.size < (w1.alloc (.cells #[.int .i64 (n : Int), .string (full s)] 67)).heap.size := by simp
  have hBv : some w1.heap.size ≠ v.ownBlock := by
    intro e; have := HH.out.vlt e.symm; have := HB.out.size; omega
  have hBp : w1.heap.size ≠ l.p := by have := HH.out.lt; have := HB.out.size; omega
  rw [← hBq] at hcell7 hcell8 hlt7 hBv hBp ⊢
  clear h0 h1 h2 h3 h4 h5 h6 h7 hBq
  generalize w1.alloc (.cells #[.int .i64 (n : Int), .string (full s)] 67) = W at *
  have HD1 := Lib.hid hD1
  obtain ⟨h0, h1, h2, h3, h4, h5, h6, h7⟩ := hD1.cells
  have hf2 := hD1.free 2
  have hpl := hD1.lt
  have hvp := hD1.vp
  clear hD1 h0 h1 h3 h4 h5 h6 h7
  go_region_law
    ((refine step_append_lies _ (by rfl) _ _ _ (by rfl) 0 67 i0 _ 2 24 Try.underlying62 hi hz0 hz1 hz2 rfl (by omega) v _ _ (by rfl) ((HD1.out.queue.alloc _).drew)
        ⟨W.heap.size, 0, none⟩ 1 1 [.int .i64 (n : Int), .string (full s)] (by rfl) (by rfl) (World.news_of_block (cs := #[.int .i64 (n : Int), .string (full s)]) (t := 67) (fr := (0, 0)) (heap_alloc_new W _)) (by simp [Value.oneCell'])
        (by omega) (by unfold maxLen; omega) (by omega) (by simp) (W.heap.size + 1) (by simp) ?_; intro g cap w6 hown1 hgrow hat hglt; have hfw : w6.frozen? ⟨l.p, 2, none⟩ = false := (hgrow.frozen_far _ (by simp; omega) hvp).trans ((World.frozen?_alloc_past _ _ _ hpl).trans hf2); have hcw : w6.cell? ⟨l.p, 2, none⟩ = some v := (hgrow.cell_far _ (by simp; omega) hvp).trans ((World.cell?_alloc_past _ _ _ hpl).trans h2); have hcb : w6.cell? ⟨B, 1, none⟩ = some (.string (full s)) := (hgrow.cell_far _ (by simp; omega) hBv).trans ((World.cell?_alloc_past _ _ _ hlt7).trans hcell8)))
  all_goals
    have hcb6 : (w6.setCell ⟨l.p, 2, none⟩ (.slice (some ⟨g, 0, none⟩) (d.Q.length + 1) cap)).cell? ⟨B, 1, none⟩ = some (.string (full s)) := by
      rw [← hcb]; exact World.cell?_of_block (Below.heap_setCell _ _ _ _ hBp)
    obtain ⟨v6, hD6, hC6⟩ := Disk.push (n := n) (s := full s) HD1.out grownBy_drew hgrow (hat.imp id (fun e => by omega)) hown1
    generalize w6.setCell ⟨l.p, 2, none⟩ (.slice (some ⟨g, 0, none⟩) (d.Q.length + 1) cap) = W6 at *
    clear hown1 hgrow hat hglt hfw hcw hcb hcell7 hcell8 hlt7 hBv h2 hf2 hpl hvp hi hz0 hz1 hz2
    have HD6 := Lib.hid hD6
    have HC6 := Lib.hid (HC1.out.trans hC6)
    obtain ⟨h0, h1, h2, h3, h4, h5, h6, h7⟩ := hD6.cells
    simp only at h1
    have hcs := hD6.seen n hn
    have hcf : W6.frozen? ⟨l.c, n, none⟩ = false := Lib.frozen_of_heap hD6.rowS _
    clear hD6 hC6 h0 h2 h3 h4 h5 h6 h7
    simp only at hcs
    obtain ⟨z, hz⟩ : ∃ z, z = d.S.getD n ⟨#[]⟩ := ⟨_, rfl⟩
    rw [← hz] at hcs
    clear hz
    go_wp2
    go_region
  all_goals
    have HD7 := Lib.hid ((HD6.out.setC n hn (full s)).same (w' := (W6.setCell ⟨l.c, n, none⟩ (.string (full s))).drew) rfl)
    have HC7 := Lib.hid ((HC6.out.trans (Chg.setC n (.string (full s)))).drew)
    clear h1 hcs hcf hcb6
    go_wp2_with fail
    refine (fails_yes (d := d.queued n s) HD7.out (by
      intro x hx
      rcases List.mem_append.1 hx with hx | hx
      · exact HQ.out x hx
      · rw [List.mem_singleton.1 hx]; exact hn) HF.out).mono ?_
    rintro e w8 ⟨rfl, v8, hD8, hC8⟩
    have HD8 := Lib.hid hD8
    have HC8 := Lib.hid (HC7.out.trans hC8)
    clear hD8 hC8
    go_wp2
    go_ret
    exact ⟨rfl, v8, HD8.out, HC8.out⟩
end
end Go.Proofs.Ythomjcndaddbbaa
