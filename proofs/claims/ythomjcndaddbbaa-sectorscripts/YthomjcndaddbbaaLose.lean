/-
  What a loss of power leaves: lose, failsNow; and how a sector is filled. Their conditions: a disk whose queue names sectors that it has; at most 256 bytes.
-/
import Derived.Test.YthomjcndaddbbaaOps
namespace Go.Proofs.Ythomjcndaddbbaa
open Go.RowKit

theorem repeatL_zero : ∀ c : Nat, Lib.repeatL [(0 : UInt8)] c = List.replicate c 0
  | 0 => rfl
  | c + 1 => by
    have := repeatL_zero c
    simp [Lib.repeatL, List.replicate_succ] at this ⊢
    exact this

set_option maxHeartbeats 400000 in
theorem filled_any (s : ByteArray) (w : World) (hs : s.size ≤ 256) : Calls Try.prog 27 #[.string s] w fun e w' => e = .returned (.string (full s)) ∧ Below w.heap.size w w' := by
  go_enter Try.func27, Try.ntmps27
  go_wp2_with fail
  rw [show (256 - (s.size : Int)) = ((256 - s.size : Nat) : Int) from by omega]
  refine (Try.strings_Repeat ⟨#[0]⟩ (256 - s.size) w (by omega) (by show 1 * _ ≤ _; omega)).mono ?_
  rintro e w' ⟨rfl, hB⟩
  have HB := Lib.hid hB
  clear hB
  obtain ⟨t, ht⟩ : ∃ t : ByteArray, t = ⟨(Lib.repeatL (ByteArray.mk #[0]).data.toList (256 - s.size)).toArray⟩ := ⟨_, rfl⟩
  rw [← ht]
  have hl : t.data.toList = List.replicate (256 - s.size) 0 := by rw [ht]; exact repeatL_zero _
  have hz : t.size ≤ 256 := by
    show t.data.size ≤ 256
    rw [← Array.length_toList, hl, List.length_replicate]; omega
  have HL := Lib.hid hl
  clear ht hl
  go_wp2
  go_ret
  refine ⟨?_, HB.out⟩
  have e : s ++ t = full s := by
    apply ByteArray.ext
    rw [ByteArray.data_append]
    apply Array.ext'
    rw [Array.toList_append, HL.out]
    rfl
  exact congrArg (fun z => Ending.returned (.string z)) e

theorem bits_one (x : Int) : bits .and .i64 x 1 = x % 2 := by
  have e : (BitVec.ofInt 64 x &&& BitVec.ofInt 64 1).toNat = (x % 2).toNat := by
    rw [BitVec.toNat_and]
    have e3 : (BitVec.ofInt 64 1).toNat = 2 ^ 1 - 1 := by decide
    rw [e3, Nat.and_two_pow_sub_one_eq_mod, BitVec.toNat_ofInt]
    omega
  unfold bits
  show IntKind.i64.wrap (((BitVec.ofInt 64 x &&& BitVec.ofInt 64 1).toNat : Nat) : Int) = _
  rw [e]
  have : (0 : Int) ≤ x % 2 := by omega
  rw [Int.toNat_of_nonneg this]
  exact IntWalk.i64_in _ (by omega)

theorem bits_bit (keep : Int) (k : Nat) : (bits .and .i64 (keep / 2 ^ (k % 60)) 1 == 1) = bitOf keep k := by
  rw [bits_one]
  unfold bitOf
  rw [Bool.eq_iff_iff]; simp

/-- A text that lasts is set. -/
theorem Disk.setB {w : World} {l : Loc} {v : Value} {d : Dk} (h : Disk w l v d) (n : Nat) (s : ByteArray) : Disk (w.setCell ⟨l.b, n, none⟩ (.string s)) l v { d with L := d.L.set n s } := by
  refine ⟨?_, ?_, ?_, ?_, h.apart, ?_⟩
  · rw [Below.heap_setCell _ _ _ _ h.pb]
    simpa using h.head
  · rw [heap_set _ h.rowL]
    congr 2
    apply Array.ext'
    simp [strs, List.map_set]
  · rw [Below.heap_setCell _ _ _ _ (fun e => h.apart e.symm)]; exact h.rowS
  · exact ownsRow_of h.queue fun g hg => Below.heap_setCell _ _ _ _ (fun e => h.vb (by rw [hg, e]))
  · simpa using h.len
/-- A text that is seen is set. -/
theorem Disk.setC {w : World} {l : Loc} {v : Value} {d : Dk} (h : Disk w l v d) (n : Nat) (hn : n < d.L.length) (s : ByteArray) : Disk (w.setCell ⟨l.c, n, none⟩ (.string s)) l v { d with S := d.S.set n s } := by
  refine ⟨?_, ?_, ?_, ?_, h.apart, ?_⟩
  · rw [Below.heap_setCell _ _ _ _ h.pc]; exact h.head
  · rw [Below.heap_setCell _ _ _ _ h.apart]; exact h.rowL
  · rw [heap_set _ h.rowS]
    congr 2
    apply Array.ext'
    have e : n < (strs d.S).length := by rw [strs_length, h.len]; exact hn
    simp [List.set_append_left _ _ e]
    simp [strs, List.map_set]
  · exact ownsRow_of h.queue fun g hg => Below.heap_setCell _ _ _ _ (fun e => h.vc (by rw [hg, e]))
  · simpa using h.len
theorem Disk.alloc {w : World} {l : Loc} {v : Value} {d : Dk} (h : Disk w l v d) (o : Obj) : Disk (w.alloc o) l v d := by
  have hb := fun k (hk : k < w.heap.size) => (World.grownBy_alloc w o none).block k hk (by simp)
  exact ⟨(hb _ h.lt).trans h.head, (hb _ h.ltb).trans h.rowL, (hb _ h.ltc).trans h.rowS, h.queue.alloc o, h.apart, h.len⟩
theorem Chg.alloc (l : Loc) (v : Value) (w : World) (o : Obj) : Chg l v v w (w.alloc o) := by
  have hb := World.grownBy_alloc w o none
  exact ⟨hb.os, hb.tape, hb.output, hb.size, fun k hk _ _ _ _ => hb.block k hk (by simp), .inr (.inl rfl)⟩
theorem Chg.drew {l : Loc} {v v' : Value} {w w' : World} (h : Chg l v v' w w') : Chg l v v' w w'.drew := h.trans (Chg.same l v' rfl rfl rfl rfl)

theorem strs_one (l : List ByteArray) : ∀ v ∈ strs l, v.oneCell' = true := by
  intro v hv
  obtain ⟨s, _, rfl⟩ := List.mem_map.1 hv
  rfl
/-- What is seen becomes what lasts. -/
theorem copy_seen {W : World} {l : Loc} {v : Value} {d : Dk} (h : Disk W l v d) (ty : TypeId) :
    ∃ W2, (Builtin.copy_ #[41, 41] ty #[.slice (some ⟨l.c, 0, none⟩) d.L.length l.n2, .slice (some ⟨l.b, 0, none⟩) d.L.length d.L.length]).run Try.prog W = .ok (.int .i64 (d.L.length : Int)) W2 ∧ Hid (Disk W2 l v { d with S := d.L } ∧ Chg l v v W W2) := by
  have hn1 : (strs d.L).length = d.L.length := strs_length _
  have hsz : (strs d.S ++ l.R).toArray.size = d.L.length + l.R.length := by simp [strs_length, h.len]
  have hr := run_copy_row (P := Try.prog) W 41 41 ty 9 l.c 0 d.L.length l.n2 ⟨l.b, 0, none⟩ d.L.length d.L.length _ 9 (strs d.L) Try.underlying41 (by kernel_rfl) h.rowS (by rw [hn1]; simp)
    (by
      intro j u hj
      have e : (⟨l.b, 0, none⟩ : Addr).add j = ⟨l.b, j, none⟩ := by unfold Addr.add; split <;> simp_all
      rw [e, cell_of_row W l.b j _ _ _ h.rowL]; simpa using hj)
    (by rw [hn1, hsz]; omega) (strs_one _)
  rw [hn1] at hr
  refine ⟨_, hr, ?_⟩
  refine Lib.hid ⟨?_, ?_⟩
  · refine ⟨?_, ?_, ?_, ?_, h.apart, rfl⟩
    · rw [setRow_other _ _ _ _ h.pc]; exact h.head
    · rw [setRow_other _ _ _ _ h.apart]; exact h.rowL
    · rw [setRow_heap _ _ _ _ _ _ h.rowS]
      congr 2
      apply Array.ext'
      simp
      rw [List.drop_append, List.drop_eq_nil_of_le (by rw [strs_length, h.len]; exact Nat.le_refl _), strs_length, h.len]; simp
    · exact ownsRow_of h.queue fun g hg => setRow_other _ _ _ _ (fun e => h.vc (by rw [hg, e]))
  · exact ⟨rfl, rfl, rfl, by simp [World.setRow], fun k _ _ _ hk _ => setRow_other _ _ _ _ hk, .inr (.inl rfl)⟩

/-- What lasts becomes what is seen. -/
theorem copy_lasts {W : World} {l : Loc} {v : Value} {d : Dk} (h : Disk W l v d) (ty : TypeId) :
    ∃ W2, (Builtin.copy_ #[41, 41] ty #[.slice (some ⟨l.b, 0, none⟩) d.L.length d.L.length, .slice (some ⟨l.c, 0, none⟩) d.L.length l.n2]).run Try.prog W = .ok (.int .i64 (d.L.length : Int)) W2 ∧ Hid (Disk W2 l v { d with L := d.S } ∧ Chg l v v W W2) := by
  have hn1 : (strs d.S).length = d.L.length := by rw [strs_length, h.len]
  have hr := run_copy_row (P := Try.prog) W 41 41 ty 9 l.b 0 d.L.length d.L.length ⟨l.c, 0, none⟩ d.L.length l.n2 _ 9 (strs d.S) Try.underlying41 (by kernel_rfl) h.rowL (by rw [hn1]; simp)
    (by
      intro j u hj
      have hj2 : j < (strs d.S).length := (List.getElem?_eq_some_iff.1 hj).1
      have e : (⟨l.c, 0, none⟩ : Addr).add j = ⟨l.c, j, none⟩ := by unfold Addr.add; split <;> simp_all
      rw [e, cell_of_row W l.c j _ _ _ h.rowS, List.getElem?_toArray, List.getElem?_append_left hj2]; exact hj)
    (by rw [hn1]; simp [strs_length]) (strs_one _)
  rw [hn1] at hr
  refine ⟨_, hr, ?_⟩
  refine Lib.hid ⟨?_, ?_⟩
  · refine ⟨?_, ?_, ?_, ?_, h.apart, rfl⟩
    · rw [setRow_other _ _ _ _ h.pb, h.len]; exact h.head
    · rw [setRow_heap _ _ _ _ _ _ h.rowL]
      congr 2
      apply Array.ext'
      simp [strs_length]
    · rw [setRow_other _ _ _ _ (fun e => h.apart e.symm)]; exact h.rowS
    · exact ownsRow_of h.queue fun g hg => setRow_other _ _ _ _ (fun e => h.vb (by rw [hg, e]))
  · exact ⟨rfl, rfl, rfl, by simp [World.setRow], fun k _ _ hk _ _ => setRow_other _ _ _ _ hk, .inr (.inl rfl)⟩

set_option maxRecDepth 100000 in
set_option maxHeartbeats 1000000 in
theorem lose_any {w : World} {l : Loc} {v : Value} {d : Dk} (h : Disk w l v d) (hq : ∀ x ∈ d.Q, x.1 < d.L.length) (keep : Int) :
    Calls Try.prog 32 #[.pointer (some ⟨l.p, 0, none⟩), .int .i64 keep] w fun e w' => e = .returned (.tuple #[]) ∧ DkTo w l v (d.lose keep) w' := by
  obtain ⟨ao, cap, rfl⟩ : ∃ ao cap, v = .slice ao d.Q.length cap := by
    rcases h.queue.2 with ⟨rfl, e⟩ | ⟨g, cap, cur, rfl, _⟩
    · exact ⟨none, 0, by rw [e]⟩
    · exact ⟨_, _, rfl⟩
  obtain ⟨h0, h1, h2, h3, h4, h5, h6, h7⟩ := h.cells
  have hQl : d.Q.length ≤ 9223372036854775807 := by
    rcases h.queue.2 with ⟨_, e⟩ | ⟨g, cap, cur, _, _, _, e1, e2, _⟩
    · omega
    · unfold maxLen at e2; omega
  have HQ := Lib.hid hq
  have HH := Lib.hid h
  clear h hq
  go_enter Try.func32, Try.ntmps32
  go_wp2
  go_loopw [11] (fun i wr => ∃ k : Nat, k ≤ d.Q.length ∧ i = .int .i64 k ∧ Disk wr l (.slice ao d.Q.length cap) { d with L := loseL keep (d.Q.take k) 0 d.L } ∧ Chg l (.slice ao d.Q.length cap) (.slice ao d.Q.length cap) w wr) (fun i _ => d.Q.length - (intOf i).toNat)
  case atStart => exact ⟨0, Nat.zero_le _, rfl, by simpa [loseL] using HH.out, Chg.refl _ _ _⟩
  case round =>
    obtain ⟨k, hk, rfl, hD, hC⟩ := hrel
    have HD := Lib.hid hD
    have HC := Lib.hid hC
    obtain ⟨g0, g1, g2, g3, g4, g5, g6, g7⟩ := hD.cells
    have hf := hD.free
    clear hD hC
    have e1 : (loseL keep (d.Q.take k) 0 d.L).length = d.L.length := loseL_length _ _ _ _
    simp only [e1] at g0 g1
    clear e1 h0 h1 h2 h3 h4 h5 h6 h7
    by_cases hlt : k < d.Q.length
    · obtain ⟨g, rfl⟩ : ∃ g, ao = some ⟨g, 0, none⟩ := by
        rcases HD.out.queue.2 with ⟨e, _⟩ | ⟨g, cap', cur, e, _⟩
        · injection e with _ e2 _; rw [e2] at hlt; exact absurd hlt (Nat.not_lt_zero _)
        · injection e with e; exact ⟨g, e⟩
      obtain ⟨x, hx⟩ : ∃ x, d.Q[k]? = some x := ⟨_, List.getElem?_eq_getElem hlt⟩
      have hx1 : x.1 < d.L.length := HQ.out x (List.mem_of_getElem? hx)
      obtain ⟨q0, q1⟩ := qcells_get d.Q k x hx
      have c0 := cellAt HD.out.queue (g := g) rfl _ _ q0
      have c1 := cellAt HD.out.queue (g := g) rfl _ _ q1
      have HX := Lib.hid hx
      clear hx q0 q1
      obtain ⟨x0, x1⟩ := x
      simp only at c0 c1 hx1
      have hpl := HD.out.lt
      have hbl := HD.out.ltb
      have hb0 := HD.out.lasts x0 (by rw [loseL_length]; exact hx1)
      have hbf : wr.frozen? ⟨l.b, x0, none⟩ = false := Lib.frozen_of_heap HD.out.rowL _
      obtain ⟨z, hz⟩ : ∃ z, z = (loseL keep (d.Q.take k) 0 d.L).getD x0 ⟨#[]⟩ := ⟨_, rfl⟩
      simp only [← hz] at hb0
      clear hz
      have HS : Hid (loseL keep (d.Q.take (k + 1)) 0 d.L = if bitOf keep k then (loseL keep (d.Q.take k) 0 d.L).set x0 x1 else loseL keep (d.Q.take k) 0 d.L) := by
        have e : d.Q.take (k + 1) = d.Q.take k ++ [(x0, x1)] := by
          rw [List.take_add_one, HX.out]; rfl
        have e2 : (d.Q.take k).length = k := by rw [List.length_take]; omega
        exact Lib.hid (by rw [e, loseL_snoc, e2, Nat.zero_add])
      by_cases hbit : bitOf keep k = true
      · have hbt : (bits .and .i64 (keep / 2 ^ (k % 60)) 1 == 1) = true := by rw [bits_bit]; exact hbit
        have HB := Lib.hid hbit
        clear hbit
        go_wp2
        go_region
        all_goals
          go_wp2
          go_roundw
          case rel =>
            refine ⟨k + 1, by omega, by go_num, ?_, ?_⟩
            · rw [HS.out, if_pos HB.out]
              exact ((HD.out.setB x0 x1).alloc _).same rfl
            · exact ((HC.out.trans (Chg.setB _ _)).trans (Chg.alloc l _ _ _)).drew
          case measure => simp [intOf]; omega
      · have hbt : (bits .and .i64 (keep / 2 ^ (k % 60)) 1 == 1) = false := by rw [bits_bit]; simpa using hbit
        have HB := Lib.hid hbit
        clear hbit
        go_wp2
        go_roundw
        case rel =>
          refine ⟨k + 1, by omega, by go_num, ?_, ?_⟩
          · rw [HS.out, if_neg HB.out]
            exact HD.out.alloc _
          · exact HC.out.trans (Chg.alloc l _ _ _)
        case measure => simp [intOf]; omega
    · obtain rfl : k = d.Q.length := by omega
      rw [List.take_length] at HD
      obtain ⟨M, hM⟩ : ∃ M, M = loseL keep d.Q 0 d.L := ⟨_, rfl⟩
      rw [← hM] at HD
      have hML : M.length = d.L.length := by rw [hM]; exact loseL_length _ _ _ _
      have HM := Lib.hid hM
      have HML := Lib.hid hML
      clear hM hML
      obtain ⟨W2, hrun, HW⟩ := copy_seen (W := wr.drew) (HD.out.same rfl) 3
      simp only [HML.out] at hrun
      have hD2 := HW.out.1
      have hc2 := hD2.cells.2.2.1
      have hf2 := hD2.free 2
      clear hD2
      go_wp2
      go_region
      all_goals
        go_wp2
        go_end0
        refine ⟨rfl, .slice none 0 0, ?_, ?_⟩
        · have := HW.out.1.setP 2 (.slice none 0 0) (.slice none 0 0) (d.lose keep) (by rw [HM.out]; rfl) (by rw [HM.out]; rfl) (.inr ⟨rfl, rfl⟩) rfl
          exact this
        · exact (HC.out.drew.trans HW.out.2).trans (Chg.setP 2 _ (.inl rfl))
end Go.Proofs.Ythomjcndaddbbaa
