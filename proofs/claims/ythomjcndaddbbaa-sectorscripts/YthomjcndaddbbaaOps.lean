/-
  What the small calls of a disk answer: Size, has, Read, Off, Counts, Cut, On. Their condition: a disk.
-/
import Derived.Test.YthomjcndaddbbaaMem
namespace Go.Proofs.Ythomjcndaddbbaa
open Go.RowKit
section
variable {w : World} {l : Loc} {v : Value} {d : Dk}

set_option maxHeartbeats 400000 in
theorem size_any (h : Disk w l v d) : Calls Try.prog 24 #[.pointer (some ⟨l.p, 0, none⟩)] w fun e w' => e = .returned (.int .i64 (d.L.length : Int)) ∧ w = w' := by
  obtain ⟨_, h1, _⟩ := h.cells
  clear h
  go_enter Try.func24, Try.ntmps24
  go_wp2
  go_ret
  exact ⟨rfl, rfl⟩

set_option maxHeartbeats 400000 in
theorem has_yes (h : Disk w l v d) (n : Int) (h0 : 0 ≤ n) (hn : n < d.L.length) : Calls Try.prog 29 #[.pointer (some ⟨l.p, 0, none⟩), .int .i64 n] w fun e w' => e = .returned (.bool true) ∧ w = w' := by
  go_enter Try.func29, Try.ntmps29
  go_wp2_with (go_at_call 24; refine (size_any h).mono ?_; rintro e w' ⟨rfl, rfl⟩)
  go_ret
  exact ⟨rfl, rfl⟩

set_option maxHeartbeats 400000 in
theorem has_no (h : Disk w l v d) (n : Int) (hn : n < 0 ∨ (d.L.length : Int) ≤ n) : Calls Try.prog 29 #[.pointer (some ⟨l.p, 0, none⟩), .int .i64 n] w fun e w' => e = .returned (.bool false) ∧ w = w' := by
  by_cases h0 : 0 ≤ n
  · have h1 : decide (n < (d.L.length : Int)) = false := decide_eq_false (by omega)
    clear hn
    go_enter Try.func29, Try.ntmps29
    go_wp2_with (go_at_call 24; refine (size_any h).mono ?_; rintro e w' ⟨rfl, rfl⟩)
    go_ret
    exact ⟨rfl, rfl⟩
  · clear hn
    go_enter Try.func29, Try.ntmps29
    go_wp2_with (go_at_call 24; refine (size_any h).mono ?_; rintro e w' ⟨rfl, rfl⟩)
    go_ret
    exact ⟨rfl, rfl⟩

set_option maxHeartbeats 400000 in
theorem off_any (h : Disk w l v d) : Calls Try.prog 22 #[.pointer (some ⟨l.p, 0, none⟩)] w fun e w' => e = .returned (.bool d.off) ∧ w = w' := by
  obtain ⟨_, _, _, h3, _⟩ := h.cells
  clear h
  go_enter Try.func22, Try.ntmps22
  go_wp2
  go_ret
  exact ⟨rfl, rfl⟩

theorem Disk.same {w' : World} (h : Disk w l v d) (hh : w'.heap = w.heap) : Disk w' l v d :=
  ⟨by rw [hh]; exact h.head, by rw [hh]; exact h.rowL, by rw [hh]; exact h.rowS, ownsRow_of h.queue fun _ _ => by rw [hh], h.apart, h.len⟩
theorem heap_drewN (w : World) : ∀ n, (w.drewN n).heap = w.heap
  | 0 => rfl
  | n + 1 => by first | exact heap_drewN w n | exact (heap_drewN w.drew n)
theorem Chg.same {w' : World} (l : Loc) (v : Value) (hh : w'.heap = w.heap) (h1 : w'.os = w.os) (h2 : w'.tape = w.tape) (h3 : w'.output = w.output) : Chg l v v w w' :=
  ⟨h1, h2, h3, by rw [hh]; exact Nat.le_refl _, fun _ _ _ _ _ _ => by rw [hh], .inr (.inl rfl)⟩

set_option maxHeartbeats 400000 in
theorem counts_any (h : Disk w l v d) : Calls Try.prog 21 #[.pointer (some ⟨l.p, 0, none⟩)] w fun e w' => e = .returned (.tuple #[.int .i64 d.wr, .int .i64 d.fl]) ∧ DkTo w l v d w' := by
  obtain ⟨_, _, _, _, _, _, h6, h7⟩ := h.cells
  have HH := Lib.hid h
  clear h
  go_enter Try.func21, Try.ntmps21
  go_wp2
  go_region
  all_goals
    go_wp2
    go_ret2
    exact ⟨rfl, v, HH.out.same rfl, Chg.same l v rfl rfl rfl rfl⟩

set_option maxHeartbeats 400000 in
theorem read_no (h : Disk w l v d) (n : Int) (hn : n < 0 ∨ (d.L.length : Int) ≤ n) : Calls Try.prog 13 #[.pointer (some ⟨l.p, 0, none⟩), .int .i64 n] w fun e w' => e = .returned (.tuple #[.string ⟨#[]⟩, .int .i64 1]) ∧ w = w' := by
  have H := Lib.hid hn
  clear hn
  go_enter Try.func13, Try.ntmps13
  go_wp2_with (go_at_call 29; refine (has_no h n H.out).mono ?_; rintro e w' ⟨rfl, rfl⟩)
  go_ret2
  exact ⟨rfl, rfl⟩

set_option maxHeartbeats 400000 in
theorem read_off (h : Disk w l v d) (n : Int) (h0 : 0 ≤ n) (hn : n < d.L.length) (ho : d.off = true) : Calls Try.prog 13 #[.pointer (some ⟨l.p, 0, none⟩), .int .i64 n] w fun e w' => e = .returned (.tuple #[.string ⟨#[]⟩, .int .i64 20]) ∧ w = w' := by
  obtain ⟨_, _, _, h3, _⟩ := h.cells
  rw [ho] at h3
  go_enter Try.func13, Try.ntmps13
  go_wp2_with (go_at_call 29; refine (has_yes h n h0 hn).mono ?_; rintro e w' ⟨rfl, rfl⟩)
  go_ret2
  exact ⟨rfl, rfl⟩

theorem Disk.seen (h : Disk w l v d) (n : Nat) (hn : n < d.L.length) : w.cell? ⟨l.c, n, none⟩ = some (.string (d.S.getD n ⟨#[]⟩)) := by
  rw [cell_of_row w l.c n _ _ _ h.rowS]
  have hs : n < d.S.length := by rw [h.len]; exact hn
  rw [List.getElem?_toArray, List.getElem?_append_left (by rw [strs_length]; exact hs)]
  simp [strs, hs]
theorem Disk.lasts (h : Disk w l v d) (n : Nat) (hn : n < d.L.length) : w.cell? ⟨l.b, n, none⟩ = some (.string (d.L.getD n ⟨#[]⟩)) := by
  rw [cell_of_row w l.b n _ _ _ h.rowL]
  simp [strs, hn]

set_option maxHeartbeats 400000 in
theorem read_ok (h : Disk w l v d) (n : Nat) (hn : n < d.L.length) (ho : d.off = false) : Calls Try.prog 13 #[.pointer (some ⟨l.p, 0, none⟩), .int .i64 n] w fun e w' => e = .returned (.tuple #[.string (d.S.getD n ⟨#[]⟩), .int .i64 0]) ∧ w = w' := by
  obtain ⟨_, h1, _, h3, _⟩ := h.cells
  rw [ho] at h3
  have hs := h.seen n hn
  obtain ⟨x, hx⟩ : ∃ x, x = d.S.getD n ⟨#[]⟩ := ⟨_, rfl⟩
  rw [← hx] at hs ⊢
  clear hx
  go_enter Try.func13, Try.ntmps13
  go_wp2_with (go_at_call 29; refine (has_yes h n (by omega) (by omega)).mono ?_; rintro e w' ⟨rfl, rfl⟩)
  go_ret2
  exact ⟨rfl, rfl⟩

set_option maxHeartbeats 400000 in
theorem on_any (h : Disk w l v d) : Calls Try.prog 20 #[.pointer (some ⟨l.p, 0, none⟩)] w fun e w' => e = .returned (.tuple #[]) ∧ DkTo w l v d.on w' := by
  have hf := h.free
  obtain ⟨h0, h1, h2, h3, h4, h5, h6, h7⟩ := h.cells
  have HH := Lib.hid h
  clear h
  go_enter Try.func20, Try.ntmps20
  go_wp2
  go_end0
  refine ⟨rfl, v, ?_, ((Chg.setP (l := l) 3 _ (.inr rfl)).trans (Chg.setP 4 _ (.inr rfl))).trans (Chg.setP 5 _ (.inr rfl))⟩
  have H1 := HH.out.setP 3 (.bool false) v { d with off := false } rfl rfl (.inl ⟨rfl, rfl⟩) rfl
  have H2 := H1.setP 4 (.int .i64 0) v { d with off := false, cut := 0 } rfl rfl (.inl ⟨rfl, rfl⟩) rfl
  exact H2.setP 5 (.int .i64 0) v d.on rfl rfl (.inl ⟨rfl, rfl⟩) rfl

set_option maxHeartbeats 400000 in
theorem cut_any (h : Disk w l v d) (n k : Int) : Calls Try.prog 17 #[.pointer (some ⟨l.p, 0, none⟩), .int .i64 n, .int .i64 k] w fun e w' => e = .returned (.tuple #[]) ∧ DkTo w l v (d.setCut n k) w' := by
  have hf := h.free
  obtain ⟨h0, h1, h2, h3, h4, h5, h6, h7⟩ := h.cells
  have HH := Lib.hid h
  clear h
  go_enter Try.func17, Try.ntmps17
  go_wp2
  go_end0
  refine ⟨rfl, v, ?_, (Chg.setP (l := l) 4 _ (.inr rfl)).trans (Chg.setP 5 _ (.inr rfl))⟩
  have H2 := HH.out.setP 4 (.int .i64 (max n 1)) v { d with cut := max n 1 } rfl rfl (.inl ⟨rfl, rfl⟩) rfl
  exact H2.setP 5 (.int .i64 k) v (d.setCut n k) rfl rfl (.inl ⟨rfl, rfl⟩) rfl
end
end Go.Proofs.Ythomjcndaddbbaa
