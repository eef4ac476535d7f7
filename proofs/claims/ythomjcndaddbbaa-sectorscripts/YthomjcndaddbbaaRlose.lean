/-
  What the document's Lose, torn, Now and Read do and answer. Their conditions: a disk as it may be.
-/
import Derived.Test.YthomjcndaddbbaaRmem
namespace Go.Proofs.Ythomjcndaddbbaa
open Go.RowKit

theorem emod_mul_ediv (k a b : Int) (ha : 0 < a) (hb : 0 < b) : k % (a * b) / a = k / a % b := by
  have h1 : k = a * b * (k / (a * b)) + k % (a * b) := (Int.mul_ediv_add_emod k (a * b)).symm
  have hab : 0 < a * b := Int.mul_pos ha hb
  have h2 := Int.emod_nonneg k (Int.ne_of_gt hab)
  have h3 := Int.emod_lt_of_pos k hab
  generalize k / (a * b) = q at h1
  generalize k % (a * b) = r at *
  have e1 : k / a = b * q + r / a := by
    rw [h1, show a * b * q + r = r + a * (b * q) from by rw [Int.mul_assoc]; omega, Int.add_mul_ediv_left _ _ (Int.ne_of_gt ha)]
    omega
  have e2 : 0 ≤ r / a := Int.ediv_nonneg h2 (Int.le_of_lt ha)
  have e3 : r / a < b := by rw [Int.ediv_lt_iff_lt_mul ha, Int.mul_comm]; exact h3
  rw [e1, Int.add_comm, Int.add_mul_emod_self_left, Int.emod_eq_of_lt e2 e3]

/-- The bit, as the document's text reckons it. -/
theorem bit_u (keep : Int) (i : Nat) : ((IntKind.u64.wrap keep / 2 ^ (i % 60)).tmod 2 == 1) = bitOf keep i := by
  have p0 : (0 : Int) < 2 ^ (i % 60) := Int.pow_pos (by decide)
  rw [show IntKind.u64.wrap keep = keep % 18446744073709551616 from rfl, Int.tmod_eq_emod_of_nonneg (Int.ediv_nonneg (by omega) (Int.le_of_lt p0))]
  have h60 : i % 60 < 60 := Nat.mod_lt _ (by omega)
  unfold bitOf
  generalize i % 60 = j at *
  have e : (18446744073709551616 : Int) = 2 ^ j * (2 * 2 ^ (63 - j)) := by
    rw [← Int.pow_succ', ← Int.pow_add, show j + (63 - j + 1) = 64 from by omega]; rfl
  have p1 : (0 : Int) < 2 ^ j := Int.pow_pos (by decide)
  have p2 : (0 : Int) < 2 ^ (63 - j) := Int.pow_pos (by decide)
  have e2 : keep % 18446744073709551616 / 2 ^ j % 2 = keep / 2 ^ j % 2 := by
    rw [e, emod_mul_ediv _ _ _ p1 (by omega)]
    exact Int.emod_emod_of_dvd _ (Int.dvd_mul_right _ _)
  rw [e2, Bool.eq_iff_iff]
  simp

theorem slice_of {w : World} {B e size m n : Nat} {v : Value} {xs : List Value} (h : w.ownsRow B e size v m xs) (hn : m = n) : ∃ ao cap, v = .slice ao n cap := by
  subst hn
  rcases h.2 with ⟨rfl, e⟩ | ⟨g, cap, cur, rfl, _⟩
  · exact ⟨none, 0, by rw [e]⟩
  · exact ⟨_, _, rfl⟩
theorem slice_some {w : World} {B e size m n cap : Nat} {ao : Option Addr} {xs : List Value} (h : w.ownsRow B e size (.slice ao n cap) m xs) (hn : 0 < n) : ∃ g, ao = some ⟨g, 0, none⟩ := by
  rcases h.2 with ⟨e, _⟩ | ⟨g, cap', cur, e, _⟩
  · injection e with _ e2 _; omega
  · injection e with e; exact ⟨g, e⟩
/-- What lasts, by places and texts. -/
theorem zip_take (d : List (Nat × ByteArray)) (k : Nat) (h : k < d.length) : (d.map (·.1))[k]'(by simpa using h) = d[k].1 ∧ (d.map (·.2))[k]'(by simpa using h) = d[k].2 := by simp

set_option maxRecDepth 100000 in
set_option maxHeartbeats 1000000 in
theorem rlose_any {w : World} {q : Nat} {F : Nat → Prop} {d : Dk} {kp : Int} (h : RDk w q F (Rk.of d kp)) (hq : ∀ x ∈ d.Q, x.1 < d.L.length) (keep : Int) :
    Calls Try.prog 19 #[.pointer (some ⟨q, 0, none⟩), .int .i64 keep] w fun e w' => e = .returned (.tuple #[]) ∧ RTo w q F (Rk.of (d.lose keep) kp) w' := by
  obtain ⟨vl, vp, vt, hR, rfl⟩ := h
  obtain ⟨po, pc, rfl⟩ := slice_of hR.rowP (n := d.Q.length) (by simp [Rk.of])
  obtain ⟨tx, tc, rfl⟩ := slice_of hR.rowT (n := d.Q.length) (by simp [Rk.of])
  obtain ⟨lo, lc, rfl⟩ := slice_of hR.rowL (n := d.L.length) rfl
  have hQl : d.Q.length ≤ 9223372036854775807 := by
    rcases hR.rowP.2 with ⟨_, e⟩ | ⟨g, cap, cur, _, _, _, e1, e2, _⟩
    · have : d.Q.length = 0 := by simpa [Rk.of] using e
      omega
    · unfold maxLen at e2
      have : d.Q.length ≤ cap := by simpa [Rk.of] using e1
      omega
  have HQ := Lib.hid hq
  have HR := Lib.hid hR
  clear hR hq
  go_enter Try.func19, Try.ntmps19
  go_wp2
  go_loopw [4] (fun i wr => ∃ k : Nat, k ≤ d.Q.length ∧ i = .int .i64 k ∧ RDisk wr q (.slice lo d.L.length lc) (.slice po d.Q.length pc) (.slice tx d.Q.length tc) (Rk.of { d with L := loseL keep (d.Q.take k) 0 d.L } kp) ∧ Fr (RFoot q (.slice lo d.L.length lc) (.slice po d.Q.length pc) (.slice tx d.Q.length tc)) w wr) (fun i _ => d.Q.length - (intOf i).toNat)
  case atStart => exact ⟨0, Nat.zero_le _, rfl, by simpa [loseL] using HR.out, Fr.refl _ _⟩
  case round =>
    obtain ⟨k, hk, rfl, hD, hC⟩ := hrel
    have HD := Lib.hid hD
    have HC := Lib.hid hC
    obtain ⟨g0, g1, g2, g3, g4, g5, g6, g7⟩ := hD.cells
    have hf := hD.free
    clear hD hC g3 g4 g5 g6 g7 HR
    by_cases hlt : k < d.Q.length
    · obtain ⟨x, hx⟩ : ∃ x, d.Q[k]? = some x := ⟨_, List.getElem?_eq_getElem hlt⟩
      have hx1 : x.1 < d.L.length := HQ.out x (List.mem_of_getElem? hx)
      have hxk : d.Q[k] = x := by rw [List.getElem?_eq_getElem hlt] at hx; simpa using hx
      obtain ⟨g, rfl⟩ := slice_some HD.out.rowP (by omega)
      obtain ⟨gt, rfl⟩ := slice_some HD.out.rowT (by omega)
      obtain ⟨gl, rfl⟩ := slice_some HD.out.rowL (by omega)
      have c0 := num_at HD.out.rowP (g := g) rfl k (by simpa [Rk.of] using hlt)
      have c1 := str_at HD.out.rowT (g := gt) rfl k (by simpa [Rk.of] using hlt)
      have c2 := str_at HD.out.rowL (g := gl) rfl x.1 (by simpa [Rk.of, loseL_length] using hx1)
      have c3 := owned_free HD.out.rowL (g := gl) rfl x.1
      simp only [Rk.of, List.getElem_map, hxk] at c0 c1 c2
      obtain ⟨z, hz⟩ : ∃ z, z = (loseL keep (d.Q.take k) 0 d.L)[x.1]'(by rw [loseL_length]; exact hx1) := ⟨_, rfl⟩
      rw [← hz] at c2
      clear hz
      have HX := Lib.hid hx
      clear hx hxk
      obtain ⟨x0, x1⟩ := x
      simp only at c0 c1 c2 c3 hx1
      have HS : Hid (loseL keep (d.Q.take (k + 1)) 0 d.L = if bitOf keep k then (loseL keep (d.Q.take k) 0 d.L).set x0 x1 else loseL keep (d.Q.take k) 0 d.L) := by
        have e : d.Q.take (k + 1) = d.Q.take k ++ [(x0, x1)] := by
          rw [List.take_add_one, HX.out]; rfl
        have e2 : (d.Q.take k).length = k := by rw [List.length_take]; omega
        exact Lib.hid (by rw [e, loseL_snoc, e2, Nat.zero_add])
      by_cases hbit : bitOf keep k = true
      · have hbt : ((IntKind.u64.wrap keep / 2 ^ (k % 60)).tmod 2 == 1) = true := by rw [bit_u]; exact hbit
        have HB := Lib.hid hbit
        clear hbit
        go_wp2
        go_region
        all_goals
          go_wp2
          go_roundw
          case rel =>
            refine ⟨k + 1, by omega, by go_num, ?_, ?_⟩
            · rw [HS.out, if_pos HB.out]
              exact (HD.out.setL x0 x1).drew
            · exact (HC.out.trans (Sub.refl _ _) (Fr.setL _ _)).trans (Sub.refl _ _) (Fr.ofBelow _ ((Below.refl _ _).drew))
          case measure => simp [intOf]; omega
      · have hbt : ((IntKind.u64.wrap keep / 2 ^ (k % 60)).tmod 2 == 1) = false := by rw [bit_u]; simpa using hbit
        have HB := Lib.hid hbit
        clear hbit
        go_wp2
        go_roundw
        case rel =>
          refine ⟨k + 1, by omega, by go_num, ?_, HC.out⟩
          rw [HS.out, if_neg HB.out]
          exact HD.out
        case measure => simp [intOf]; omega
    · obtain rfl : k = d.Q.length := by omega
      rw [List.take_length] at HD
      go_wp2
      go_end0
      refine ⟨rfl, RFoot q (.slice lo d.L.length lc) (.slice none 0 0) (.slice none 0 0), ⟨_, _, _, ?_, rfl⟩, ?_, ?_⟩
      · have e1 := HD.out.setQ 1 (.slice none 0 0) (.slice none 0 0) (.slice tx d.Q.length tc) { Rk.of { d with L := loseL keep d.Q 0 d.L } kp with P := [] } rfl (.inr ⟨rfl, rfl⟩) (.inl ⟨rfl, rfl⟩) rfl
        exact e1.setQ 2 (.slice none 0 0) (.slice none 0 0) (.slice none 0 0) (Rk.of (d.lose keep) kp) rfl (.inl ⟨rfl, rfl⟩) (.inr ⟨rfl, rfl⟩) rfl
      · exact (HC.out.trans (Sub.refl _ _) (Fr.setQ 1 _)).trans (Sub.nils (.inr rfl) (.inl rfl)) (Fr.setQ 2 _)
      · exact Sub.nils (.inr rfl) (.inr rfl)
end Go.Proofs.Ythomjcndaddbbaa
