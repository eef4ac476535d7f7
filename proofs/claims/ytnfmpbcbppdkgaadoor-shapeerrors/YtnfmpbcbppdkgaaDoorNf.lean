/-
  The tables of the forms in memory. No condition.
-/
import Derived.Test.YtnfmpbcbppdkgaaDoorSo
import Derived.Laws.Tables
import Derived.Laws.Rows
import Derived.Deep.WholeRow
import Derived.Deep.RegionHeld3
namespace Go.Proofs.YtnfmpbcbppdkgaaDoor
open Go.RowKit
def cellsT (T : List (List UInt8 × List UInt8)) : Array Value := (T.flatMap fun x => [Value.string (bs x.1), Value.string (bs x.2)]).toArray
set_option maxRecDepth 100000 in
set_option maxHeartbeats 2000000 in
theorem mnt_forms (w : World) : Calls Tryd.prog 19 #[] w fun e w' => e = .returned (.agg (cellsT mntT)) ∧ Below w.heap.size w w' := by
  go_enter Tryd.func19, Tryd.ntmps19
  go_wp2_with fail
  refine bodyPost_ret (results_cell_row (by rfl) _ _ w.heap.size 49 _ (0, 0) _ (by rfl) (heap_alloc_new w _) Tryd.underlying49 (by rfl) (by kernel_rfl)) rfl ⟨?_, (Below.refl _ _).alloc (Nat.le_refl _) _⟩
  exact congrArg (fun a => Ending.returned (.agg a)) (show _ = cellsT mntT by kernel_rfl)
set_option maxRecDepth 100000 in
set_option maxHeartbeats 8000000 in
theorem nfs_forms (w : World) : Calls Tryd.prog 18 #[] w fun e w' => e = .returned (.agg (cellsT nfsT)) ∧ Below w.heap.size w w' := by
  go_enter Tryd.func18, Tryd.ntmps18
  go_wp2_with (first | (refine wpList_store_row (by rfl) 47 (.tmp 0) (.tmp 23) (by rfl) w.heap.size (cellsT nfsT) (by rfl) (by kernel_rfl) 47 _ (heap_alloc_new w _) (by kernel_rfl) (by kernel_rfl) (by kernel_rfl) ?_) | (refine wpList_build (by rfl) 47 _ (by rfl) (by kernel_rfl) ?_))
  rw [World.setRow_alloc_new]
  refine bodyPost_ret (results_cell_row (by rfl) _ _ w.heap.size 47 (cellsT nfsT) (0, 0) _ (by rfl) (heap_alloc_new w _) Tryd.underlying47 (by rfl) (by kernel_rfl)) rfl ⟨rfl, (Below.refl _ _).alloc (Nat.le_refl _) _⟩
/-- A table in its block. -/
structure Ft (w0 : World) (b ty : Nat) (T : List (List UInt8 × List UInt8)) (w : World) : Prop where
  row : w.heap[b]? = some (.cells (cellsT T) ty (0, 0))
  low : Below w0.heap.size w0 w
theorem Ft.step {w0 w w' : World} {b ty : Nat} {T : List (List UInt8 × List UInt8)} (h : Ft w0 b ty T w) (hb : Below w.heap.size w w') : Ft w0 b ty T w' :=
  ⟨(hb.block _ (Array.getElem?_eq_some_iff.1 h.row).1).trans h.row, h.low.trans (hb.mono h.low.size)⟩
theorem Ft.drew {w0 w : World} {b ty : Nat} {T : List (List UInt8 × List UInt8)} (h : Ft w0 b ty T w) : Ft w0 b ty T w.drew := ⟨h.row, h.low.drew⟩
theorem cellsT_at (T : List (List UInt8 × List UInt8)) (n : Nat) (h : n < T.length) : (cellsT T)[n * 2]? = some (.string (bs (T.getD n ([], [])).1)) ∧ (cellsT T)[n * 2 + 1]? = some (.string (bs (T.getD n ([], [])).2)) := by
  unfold cellsT
  induction T generalizing n with
  | nil => exact absurd h (by simp)
  | cons x T ih =>
    cases n with
    | zero => exact ⟨by simp, by simp⟩
    | succ n =>
      obtain ⟨h1, h2⟩ := ih n (by simpa using h)
      rw [List.flatMap_cons]
      simp only [List.getElem?_toArray] at h1 h2 ⊢
      rw [show (n + 1) * 2 = n * 2 + 2 from by omega, show n * 2 + 2 + 1 = (n * 2 + 1) + 2 from by omega]
      exact ⟨by simpa using h1, by simpa using h2⟩
theorem Ft.cells {w0 w : World} {b ty : Nat} {T : List (List UInt8 × List UInt8)} (h : Ft w0 b ty T w) (n : Nat) (hn : n < T.length) : w.cell? ⟨b, n * 2, none⟩ = some (.string (bs (T.getD n ([], [])).1)) ∧ w.cell? ⟨b, n * 2 + 1, none⟩ = some (.string (bs (T.getD n ([], [])).2)) := by
  obtain ⟨h1, h2⟩ := cellsT_at T n hn
  exact ⟨by rw [World.cell?]; simp only [h.row]; simpa using h1, by rw [World.cell?]; simp only [h.row]; simpa using h2⟩
theorem nfs_parts : (cellsT nfsT).size = 44 ∧ (cellsT nfsT).all (·.oneCell') = true := ⟨by kernel_rfl, by kernel_rfl⟩
theorem mnt_parts : (cellsT mntT).size = 12 ∧ (cellsT mntT).all (·.oneCell') = true := ⟨by kernel_rfl, by kernel_rfl⟩
set_option maxRecDepth 100000 in
set_option maxHeartbeats 2000000 in
theorem forms_nfs (w : World) : Calls Tryd.prog 9 #[.int .i64 100003] w fun e w' => ∃ b, e = .returned (.slice (some ⟨b, 0, none⟩) 22 22) ∧ Ft w b 47 nfsT w' := by
  go_enter Tryd.func9, Tryd.ntmps9
  go_wp2_with fail
  refine (nfs_forms w).mono ?_
  rintro e w1 ⟨rfl, hb⟩
  have HB := Lib.hid hb
  clear hb
  obtain ⟨p1, p2⟩ := nfs_parts
  generalize hc : cellsT nfsT = C at *
  go_wp2_with (first | (refine wpList_store_row (by rfl) 47 (.tmp 3) (.tmp 8) (by rfl) w1.heap.size C (by rfl) (by rfl) 47 _ (heap_alloc_new w1 _) (by rw [p1]; kernel_rfl) (by rw [p1]; kernel_rfl) p2 ?_))
  rw [World.setRow_alloc_new]
  go_ret
  refine ⟨w1.heap.size, rfl, ?_, (HB.out.alloc HB.out.size _)⟩
  rw [hc]
  exact heap_alloc_new w1 _
set_option maxRecDepth 100000 in
set_option maxHeartbeats 2000000 in
theorem forms_mnt (w : World) : Calls Tryd.prog 9 #[.int .i64 100005] w fun e w' => ∃ b, e = .returned (.slice (some ⟨b, 0, none⟩) 6 6) ∧ Ft w b 49 mntT w' := by
  go_enter Tryd.func9, Tryd.ntmps9
  go_wp2_with fail
  refine (mnt_forms w).mono ?_
  rintro e w1 ⟨rfl, hb⟩
  have HB := Lib.hid hb
  clear hb
  obtain ⟨p1, p2⟩ := mnt_parts
  generalize hc : cellsT mntT = C at *
  go_wp2_with (first | (refine wpList_store_row (by rfl) 49 (.tmp 4) (.tmp 12) (by rfl) w1.heap.size C (by rfl) (by rfl) 49 _ (heap_alloc_new w1 _) (by rw [p1]; kernel_rfl) (by rw [p1]; kernel_rfl) p2 ?_))
  rw [World.setRow_alloc_new]
  go_ret
  refine ⟨w1.heap.size, rfl, ?_, (HB.out.alloc HB.out.size _)⟩
  rw [hc]
  exact heap_alloc_new w1 _
set_option maxRecDepth 100000 in
theorem forms_none (prog : Int) (h3 : prog ≠ 100003) (h5 : prog ≠ 100005) (w : World) : Calls Tryd.prog 9 #[.int .i64 prog] w fun e w' => e = .returned (.slice none 0 0) ∧ w' = w := by
  have k3 : (prog == 100003) = false := by simpa using h3
  have k5 : (prog == 100005) = false := by simpa using h5
  clear h3 h5
  go_enter Tryd.func9, Tryd.ntmps9
  go_wp2
  go_ret
  exact ⟨rfl, rfl⟩
end Go.Proofs.YtnfmpbcbppdkgaaDoor
