/-
  What slices.Repeat makes of one text, and what New makes. Their conditions: 1 to 1026 of them.
-/
import Derived.Test.YthomjcndaddbbaaLose
import Derived.Deep.OwnRows
import Derived.WalkSmall
namespace Go.Proofs.Ythomjcndaddbbaa
open Go.RowKit

/-- So many of one text, the rest empty. -/
def reps (z : ByteArray) (k n : Nat) : List Value := List.replicate k (.string z) ++ List.replicate (n - k) (.string ⟨#[]⟩)
theorem reps_length (z : ByteArray) (k n : Nat) (h : k ≤ n) : (reps z k n).length = n := by simp [reps]; omega
theorem info9 : (Try.prog.info? 9).map (fun i => (i.zero, i.size, i.bytes)) = some (some (.string ⟨#[]⟩), 1, 16) := by kernel_rfl
theorem made_reps (z : ByteArray) (n : Nat) : madeCells #[.string ⟨#[]⟩] n = (reps z 0 n).toArray := by
  apply Array.ext'
  simp [reps, madeCells]
  apply List.ext_getElem
  · simp
  · intro i h1 h2; simp [Nat.mod_one]
theorem reps_copy (z : ByteArray) (k n m : Nat) (hk : k + m ≤ n) : (reps z k n).take k ++ List.replicate m (.string z) ++ (reps z k n).drop (k + m) = reps z (k + m) n := by
  unfold reps
  rw [List.take_append_of_le_length (by simp), List.take_of_length_le (by simp), List.drop_append, List.drop_eq_nil_of_le (by simp), List.nil_append, List.length_replicate, List.drop_replicate, List.replicate_append_replicate,
    show n - k - (k + m - k) = n - (k + m) from by omega]

theorem copy_reps {W : World} {g : Nat} {z : ByteArray} {k n : Nat} (hg : W.heap[g]? = some (.cells (reps z k n).toArray 9 (0, 0))) (ad : Addr) (dLen dCap sLen sCap m : Nat) (hm : m = Nat.min sLen dLen) (hkm : k + m ≤ n) (hsrc : ∀ j, j < m → W.cell? (ad.add j) = some (.string z)) (ty : TypeId) :
    ∃ W2, (Builtin.copy_ #[41, 41] ty #[.slice (some ⟨g, k, none⟩) dLen dCap, .slice (some ad) sLen sCap]).run Try.prog W = .ok (.int .i64 (m : Int)) W2 ∧ Hid (W2.heap[g]? = some (.cells (reps z (k + m) n).toArray 9 (0, 0)) ∧ ∀ B, B ≤ g → Below B W W2) := by
  have hl : (reps z k n).length = n := reps_length z k n (by omega)
  have hr := run_copy_row (P := Try.prog) W 41 41 ty 9 g k dLen dCap ad sLen sCap _ 9 (List.replicate m (.string z)) Try.underlying41 (by kernel_rfl) hg (by simp [hm])
    (by
      intro j u hj
      obtain ⟨hj1, hj2⟩ := List.getElem?_eq_some_iff.1 hj
      have : j < m := by simpa using hj1
      rw [hsrc j this, ← hj2]; simp)
    (by simp [hl]; exact hkm) (by intro v hv; rw [List.eq_of_mem_replicate hv]; rfl)
  rw [List.length_replicate] at hr
  refine ⟨_, hr, ?_⟩
  refine Lib.hid ⟨?_, ?_⟩
  · rw [setRow_heap _ _ _ _ _ _ hg]
    congr 2
    apply Array.ext'
    simpa using reps_copy z k n m hkm
  · intro B hB
    exact ⟨rfl, rfl, rfl, by simp [World.setRow], fun j hj => setRow_other _ _ _ _ (by omega)⟩

theorem reps_cell {W : World} {g : Nat} {z : ByteArray} {k n : Nat} (hg : W.heap[g]? = some (.cells (reps z k n).toArray 9 (0, 0))) (j : Nat) (hj : j < k) : W.cell? ((⟨g, 0, none⟩ : Addr).add j) = some (.string z) := by
  have e : (⟨g, 0, none⟩ : Addr).add j = ⟨g, j, none⟩ := by unfold Addr.add; split <;> simp_all
  rw [e, cell_of_row W g j _ _ _ hg]
  simp [reps, List.getElem?_append_left, hj]

theorem make_reps (z : ByteArray) (n : Nat) (hn : n ≤ 1026) (w : World) : (Instr.makeSlice 41 (.int .i64 (n : Int)) (.int .i64 (n : Int))).run Try.prog w = .ok (.slice (some ⟨w.heap.size, 0, none⟩) n n) (w.alloc (.cells (reps z 0 n).toArray 9)) := by
  obtain ⟨i, hi, hz0, hz1, hz2⟩ := info_parts info9
  have := run_make_row (P := Try.prog) 41 9 i (.string ⟨#[]⟩) Try.underlying41 hi hz0 hz1 rfl .i64 .i64 n (by rw [hz2]; omega) (by omega) w
  rw [this, made_reps z n]

theorem mul_one_n (n : Nat) (hn : n ≤ 1026) (w : World) : Calls Try.prog 33 #[.int .u64 1, .int .u64 n] w fun e w' => e = .returned (.tuple #[.int .u64 0, .int .u64 (n : Int)]) ∧ w = w' := by
  refine (Try.bits_Mul 1 n (by omega) (by omega) w).mono ?_
  rintro e w' ⟨rfl, rfl⟩
  refine ⟨?_, rfl⟩
  rw [Nat.one_mul, Nat.div_eq_of_lt (by omega), Nat.mod_eq_of_lt (by omega)]
  rfl

set_option maxRecDepth 100000 in
set_option maxHeartbeats 1000000 in
theorem repeat_any (x n : Nat) (z : ByteArray) (w : World) (hx : w.cell? ⟨x, 0, none⟩ = some (.string z)) (hxl : x < w.heap.size) (h1 : 1 ≤ n) (hn : n ≤ 1026) :
    Calls Try.prog 26 #[.slice (some ⟨x, 0, none⟩) 1 1, .int .i64 n] w fun e w' => e = .returned (.slice (some ⟨w.heap.size, 0, none⟩) n n) ∧ w'.heap[w.heap.size]? = some (.cells (reps z n n).toArray 9 (0, 0)) ∧ Below w.heap.size w w' := by
  have HX := Lib.hid hx
  have hmk := make_reps z n hn w
  have hg0 : (w.alloc (.cells (reps z 0 n).toArray 9)).heap[w.heap.size]? = some (.cells (reps z 0 n).toArray 9 (0, 0)) := heap_alloc_new w _
  obtain ⟨W2, hrun, HW⟩ := copy_reps hg0 ⟨x, 0, none⟩ n n 1 1 1 (by show 1 = min 1 n; omega) (by omega)
    (by intro j hj; obtain rfl : j = 0 := by omega
        have e : (⟨x, 0, none⟩ : Addr).add 0 = ⟨x, 0, none⟩ := rfl
        rw [e]; exact (World.cell?_alloc_past _ _ _ hxl).trans HX.out) 3
  have HB : Hid (Below w.heap.size w W2) := Lib.hid (((Below.refl w.heap.size w).alloc (Nat.le_refl _) _).trans (HW.out.2 _ (Nat.le_refl _)))
  clear hx hg0
  go_enter Try.func26, Try.ntmps26
  go_wp2_with fail
  refine (mul_one_n n (by omega) w).mono ?_
  rintro e w' ⟨rfl, rfl⟩
  have hc1 : ((1 : Nat) : Int) = 1 := rfl
  rw [hc1] at hrun
  clear hc1
  go_wp2
  go_loopw [8] (fun i wr => ∃ k : Nat, 1 ≤ k ∧ k ≤ n ∧ i = .int .i64 k ∧ wr.heap[w.heap.size]? = some (.cells (reps z k n).toArray 9 (0, 0)) ∧ Below w.heap.size w wr) (fun i _ => n - (intOf i).toNat)
  case atStart => exact ⟨1, Nat.le_refl _, h1, rfl, by simpa using HW.out.1, HB.out⟩
  case round =>
    obtain ⟨k, hk1, hk2, rfl, hG, hBr⟩ := hrel
    have HG := Lib.hid hG
    have HBr := Lib.hid hBr
    clear hG hBr hrun hmk
    by_cases hlt : k < n
    · obtain ⟨m, hm⟩ : ∃ m, m = min k (n - k) := ⟨_, rfl⟩
      obtain ⟨W3, hrun, HW3⟩ := copy_reps (W := wr.drew) (k := k) HG.out ⟨w.heap.size, 0, none⟩ (n - k) (n - k) k n m hm (by omega) (fun j hj => reps_cell (W := wr.drew) HG.out j (by omega)) 3
      have hmk1 : 1 ≤ m := by omega
      have hmk2 : m ≤ n - k := by omega
      clear hm
      have hwr : IntKind.i64.wrap ((k : Int) + (m : Int)) = (k : Int) + (m : Int) := IntWalk.i64_in _ (by omega)
      go_wp2
      go_region
      all_goals
        go_wp2
        go_roundw
        case rel =>
          exact ⟨k + m, by omega, by omega, by go_num, HW3.out.1, (below_drewN HBr.out 1).trans (HW3.out.2 _ (Nat.le_refl _))⟩
        case measure => simp [intOf]; omega
    · obtain rfl : k = n := by omega
      go_wp2
      go_ret
      exact ⟨rfl, HG.out, HBr.out⟩
theorem reps_full (z : ByteArray) (n : Nat) : reps z n n = strs (List.replicate n z) := by simp [reps, strs]

def NewTo (n : Nat) (w : World) (e : Ending) (w' : World) : Prop :=
  ∃ l : Loc, e = .returned (.tuple #[.pointer (some ⟨l.p, 0, none⟩), .int .i64 0]) ∧ Disk w' l (.slice none 0 0) (Dk.new n) ∧ Below w.heap.size w w' ∧ w.heap.size ≤ l.p ∧ w.heap.size ≤ l.b ∧ w.heap.size ≤ l.c

set_option maxHeartbeats 400000 in
theorem new_no (n : Int) (w : World) (hn : n < 1 ∨ 1026 < n) : Calls Try.prog 9 #[.int .i64 n] w fun e w' => e = .returned (.tuple #[.pointer none, .int .i64 1]) ∧ w = w' := by
  by_cases h1 : n < 1
  · clear hn
    go_enter Try.func9, Try.ntmps9
    go_wp2
    go_ret2
    exact ⟨rfl, rfl⟩
  · have h2 : 1026 < n := by omega
    clear hn
    go_enter Try.func9, Try.ntmps9
    go_wp2
    go_ret2
    exact ⟨rfl, rfl⟩

set_option maxRecDepth 100000 in
set_option maxHeartbeats 1000000 in
theorem new_any (n : Nat) (w : World) (h1 : 1 ≤ n) (hn : n ≤ 1026) : Calls Try.prog 9 #[.int .i64 n] w (NewTo n w) := by
  go_enter Try.func9, Try.ntmps9
  go_wp2_with fail
  refine (filled_any ⟨#[]⟩ _ (by decide)).mono ?_
  rintro e w1 ⟨rfl, hB1⟩
  have HB1 := Lib.hid hB1
  have hB1s := hB1.size
  clear hB1
  obtain ⟨z, hz⟩ : ∃ z, z = full ⟨#[]⟩ := ⟨_, rfl⟩
  rw [← hz]
  have HZ := Lib.hid hz
  clear hz
  go_wp2_with fail
  refine (repeat_any w1.heap.size n z _ (by rw [cell_of_row _ _ _ _ _ _ (heap_alloc_new w1 _)]; rfl) (by simp) h1 hn).mono ?_
  rintro e w2 ⟨rfl, hG, hB2⟩
  have hsz : (w1.alloc (.cells #[.string z] 9)).heap.size = w1.heap.size + 1 := by simp
  have HB2 := Lib.hid (((Below.refl w1.heap.size w1).alloc (Nat.le_refl _) (.cells #[.string z] 9)).trans (hB2.mono (by rw [hsz]; omega)))
  have hB2s := hB2.size
  rw [hsz] at hG hB2s ⊢
  clear hB2 hsz
  have hgl : w1.heap.size + 1 < w2.heap.size := (Array.getElem?_eq_some_iff.1 hG).1
  obtain ⟨B, hB⟩ : ∃ B, B = w1.heap.size + 1 := ⟨_, rfl⟩
  rw [← hB] at hG hgl ⊢
  have HG := Lib.hid hG
  clear hG
  have hBB : w.heap.size ≤ B := by omega
  clear hB hB2s
  go_wp2_with fail
  refine (Try.slices_Clone_string B 0 n n (List.replicate n z) w2 (by simp) (by omega) (by
    intro j hj
    have hj' : j < n := by simpa using hj
    rw [Nat.zero_add, cell_of_row _ _ _ _ _ _ HG.out]
    simp [reps, hj'])).mono ?_
  rintro e w3 ⟨v', rfl, hown, hnn, hB3⟩
  have HB3 := Lib.hid hB3
  have hB3s := hB3.size
  have HGB : Hid (w3.heap[B]? = some (.cells (reps z n n).toArray 9 (0, 0))) := Lib.hid ((hB3.block B hgl).trans HG.out)
  clear hB3 hnn
  rcases hown.2 with ⟨_, e⟩ | ⟨c, cap, cur, rfl, hcb, hcg, hcap, _, hcs, hct⟩
  · omega
  have hcl : c < w3.heap.size := (Array.getElem?_eq_some_iff.1 hcg).1
  have HCG := Lib.hid hcg
  have HCT := Lib.hid hct
  clear hown hcg hct hcs hcap
  go_wp2
  go_ret2
  refine ⟨⟨w3.heap.size, B, c, cap, cur.toList.drop n⟩, rfl, ⟨?_, ?_, ?_, ?_, ?_, rfl⟩, ?_, ?_, hBB, ?_⟩
  · rw [show (Dk.new n).L.length = n from by simp [Dk.new]]
    exact heap_alloc_new w3 _
  · show (w3.alloc _).heap[B]? = _
    rw [(World.grownBy_alloc w3 _ none).block B (by omega) (by simp), HGB.out, reps_full, HZ.out]
    rfl
  · show (w3.alloc _).heap[c]? = _
    rw [(World.grownBy_alloc w3 _ none).block c (by omega) (by simp), HCG.out]
    congr 2
    apply Array.ext'
    have : strs (Dk.new n).S = cur.toList.take n := by
      have := HCT.out
      rw [Nat.mul_one] at this
      rw [this, HZ.out]
      simp [strs, Dk.new]
    simp only [this, List.take_append_drop]
  · exact World.ownsRow_nil _ _ _ _
  · show B ≠ c; omega
  · exact ((HB1.out.trans (HB2.out.mono hB1s)).trans (HB3.out.mono (by omega))).alloc (by omega) _
  · show w.heap.size ≤ w3.heap.size; omega
  · show w.heap.size ≤ c; omega
end Go.Proofs.Ythomjcndaddbbaa
