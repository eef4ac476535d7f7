/-
  HandleBits' walk. No condition.
-/
import Derived.Test.YtdkmjpafhlamnaaHw
import Derived.Deep.DeepCutAuto
namespace Go.Proofs.Ytdkmjpafhlamnaa
open Go.RowKit

/-- A handle of which one byte is another tells no file. -/
theorem flip_num {i : Int} (hi : Rng i) {j : Nat} (hj : j < 28) {y : UInt8} (hy : (hd 1 i i)[j]'(by rw [hd_length]; exact hj) ≠ y) {f' i' g' : Int} (h1 : Rng f') (h2 : Rng i') (h3 : Rng g') (h : (hd 1 i i).set j y = hd f' i' g') : numF f' i' g' = (0, 10001) := by
  unfold numF
  rw [if_neg]
  rintro ⟨rfl, h5, rfl⟩
  have hne : g' ≠ i := by
    rintro rfl
    have e : ((hd 1 g' g').set j y)[j]'(by rw [List.length_set, hd_length]; exact hj) = (hd 1 g' g')[j]'(by rw [hd_length]; exact hj) := by
      simp only [h]
    rw [List.getElem_set_self] at e
    exact hy e.symm
  have d : ∀ a b : Int, (hd 1 a b).drop 20 = numBytes b 8 := fun a b => by
    show numBytes b 8 ++ [] = _
    rw [List.append_nil]
  have t : ∀ a b : Int, ((hd 1 a b).take 20).drop 12 = numBytes a 8 := fun a b => rfl
  by_cases hk : j < 20
  · have e : ((hd 1 i i).set j y).drop 20 = (hd 1 i i).drop 20 := by
      rw [List.drop_set, if_pos hk]
    rw [h, d, d] at e
    exact hne (numBytes_inj h3 hi e)
  · have e : ((hd 1 i i).set j y).take 20 = (hd 1 i i).take 20 := List.take_set_of_le (by omega)
    have e2 := congrArg (List.drop 12) e
    rw [h, t, t] at e2
    exact hne (numBytes_inj h3 hi e2)

theorem flip_any (s : ByteArray) (w : World) {i : Int} (hi : Rng i) {j : Nat} (hj : j < 28) {y : UInt8} (hy : (hd 1 i i)[j]'(by rw [hd_length]; exact hj) ≠ y) (hs : s.data.toList = (hd 1 i i).set j y) :
    Calls Try.prog 10 #[.string s] w fun e w' => e = .returned (.tuple #[.int .i64 0, .int .i64 10001]) ∧ Below w.heap.size w w' := by
  have hz : s.size = 28 := by rw [← dat_len, hs, List.length_set, hd_length]
  by_cases h : ∃ f i g, Rng f ∧ Rng i ∧ Rng g ∧ s.data.toList = hd f i g
  · obtain ⟨f', i', g', h1, h2, h3, h4⟩ := h
    refine (number_is s w h1 h2 h3 h4).mono ?_
    rintro e w' ⟨rfl, hB⟩
    rw [flip_num hi hj hy h1 h2 h3 (hs.symm.trans h4)]
    exact ⟨rfl, hB⟩
  · exact number_no s w (by omega) fun f i g h1 h2 h3 h4 => h ⟨f, i, g, h1, h2, h3, h4⟩

theorem xor_u8 (x c : UInt8) : bits .xor .u8 (x.toNat : Int) (c.toNat : Int) = ((x ^^^ c).toNat : Int) := by
  have hx := x.toNat_lt
  have hc := c.toNat_lt
  have hy := (x ^^^ c).toNat_lt
  have e : (BitVec.ofInt 8 (x.toNat : Int) ^^^ BitVec.ofInt 8 (c.toNat : Int)).toNat = (x ^^^ c).toNat := by
    rw [BitVec.toNat_xor, BitVec.toNat_ofInt, BitVec.toNat_ofInt, UInt8.toNat_xor]
    have e1 : ((x.toNat : Int) % ((2 ^ 8 : Nat) : Int)).toNat = x.toNat := by omega
    have e2 : ((c.toNat : Int) % ((2 ^ 8 : Nat) : Int)).toNat = c.toNat := by omega
    rw [e1, e2]
  unfold bits
  show IntKind.u8.wrap (((BitVec.ofInt 8 (x.toNat : Int) ^^^ BitVec.ofInt 8 (c.toNat : Int)).toNat : Nat) : Int) = _
  rw [e]
  show (((x ^^^ c).toNat : Int)) % 256 = _
  omega
theorem flipped (x : UInt8) (k : Nat) (hk : k < 8) : ∃ y : UInt8, x ≠ y ∧ bits .xor .u8 (x.toNat : Int) ((2 : Int) ^ k % 256) = (y.toNat : Int) := by
  obtain ⟨c, hc, h0⟩ : ∃ c : UInt8, (2 : Int) ^ k % 256 = (c.toNat : Int) ∧ c ≠ 0 := by
    have h : k = 0 ∨ k = 1 ∨ k = 2 ∨ k = 3 ∨ k = 4 ∨ k = 5 ∨ k = 6 ∨ k = 7 := by omega
    rcases h with rfl | rfl | rfl | rfl | rfl | rfl | rfl | rfl
    · exact ⟨1, rfl, by decide⟩
    · exact ⟨2, rfl, by decide⟩
    · exact ⟨4, rfl, by decide⟩
    · exact ⟨8, rfl, by decide⟩
    · exact ⟨16, rfl, by decide⟩
    · exact ⟨32, rfl, by decide⟩
    · exact ⟨64, rfl, by decide⟩
    · exact ⟨128, rfl, by decide⟩
  refine ⟨x ^^^ c, ?_, by rw [hc, xor_u8]⟩
  intro e
  apply h0
  have e2 : x ^^^ x = x ^^^ (x ^^^ c) := congrArg (x ^^^ ·) e
  rw [UInt8.xor_self, ← UInt8.xor_assoc, UInt8.xor_self, UInt8.zero_xor] at e2
  exact e2.symm

set_option maxRecDepth 100000 in
set_option maxHeartbeats 4000000 in
theorem bits_walk (a b : Int) (w : World) (ha : Rng a) :
    Calls Try.prog 6 #[.int .i64 a, .int .i64 b] w fun e w' => e = .returned (.bool true) ∧ Below w.heap.size w w' := by
  have HA := Lib.hid ha
  clear ha
  go_enter Try.func6, Try.ntmps6
  go_wp2_with fail
  refine (speaks_any _).mono ?_
  rintro e w1 ⟨rfl, hB1⟩
  have HB1 := Lib.hid hB1
  clear hB1
  go_upto_if 11 with (fail)
  go_cut [0] (fun x wc => ∃ i : Int, x = .int .i64 i ∧ Hid (Rng i) ∧ w1 = wc)
  case first =>
    by_cases h : a < 1
    · have H7 : Hid (Rng 7) := Lib.hid (rng 7 (by omega) (by omega))
      go_wp2
      go_meet
      exact ⟨7, rfl, H7, rfl⟩
    · go_wp2
      go_meet
      exact ⟨a, rfl, HA, rfl⟩
  case rest =>
    obtain ⟨i, rfl, HI, rfl⟩ := hcut
    clear HA
    go_upto_region 5 with (fail)
    go_cut [17] (fun y wc => y = .bool (decide (b < 0 ∨ 224 ≤ b)) ∧ w1 = wc)
    case first =>
      by_cases h : b < 0
      · have hd : decide (b < 0 ∨ 224 ≤ b) = true := decide_eq_true (.inl h)
        have HD := Lib.hid hd
        clear hd
        go_wp2
        go_meet
        exact ⟨by rw [HD.out], rfl⟩
      · by_cases h2 : 224 ≤ b
        · have hd : decide (b < 0 ∨ 224 ≤ b) = true := decide_eq_true (.inr h2)
          have HD := Lib.hid hd
          clear hd
          go_wp2
          go_meet
          exact ⟨by rw [HD.out], rfl⟩
        · have hd : decide (b < 0 ∨ 224 ≤ b) = false := decide_eq_false (by omega)
          have HD := Lib.hid hd
          clear hd
          go_wp2
          go_meet
          exact ⟨by rw [HD.out], rfl⟩
    case rest =>
     obtain ⟨rfl, rfl⟩ := hcut
     obtain ⟨c, hc⟩ : ∃ c : Bool, c = decide (b < 0 ∨ 224 ≤ b) := ⟨_, rfl⟩
     rw [← hc]
     have HC := Lib.hid hc
     clear hc
     go_upto_if 17 with (fail)
     go_cut [1] (fun y wc => ∃ k : Nat, y = .int .i64 k ∧ k < 224 ∧ w1 = wc)
     case first =>
      cases c with
      | true =>
        go_wp2
        go_meet
        exact ⟨100, rfl, by omega, rfl⟩
      | false =>
        obtain ⟨k, hbk, hk⟩ : ∃ k : Nat, b = k ∧ k < 224 := by
          have h := of_decide_eq_false HC.out.symm
          exact ⟨b.toNat, by omega, by omega⟩
        subst hbk
        go_wp2
        go_meet
        exact ⟨k, rfl, hk, rfl⟩
     case rest =>
      obtain ⟨k, rfl, hk, rfl⟩ := hcut
      go_wp2_with fail
      refine (put_any 1 i i w1).mono ?_
      rintro e w2 ⟨rfl, hB2⟩
      have HB2 := Lib.hid (HB1.out.trans (hB2.mono HB1.out.size))
      clear hB2 HB1
      obtain ⟨s, hs⟩ : ∃ s, s = hdS 1 i i := ⟨_, rfl⟩
      rw [← hs]
      have hz : s.size = 28 := by rw [hs, hdS_size]
      have hcv := run_bytes_of_string (P := Try.prog) w2 9 35 5 s Try.underlying9 Try.underlying35 Try.underlying5
      have HL := Lib.hid (show s.data.toList = hd 1 i i by rw [hs, hdS_list])
      clear hs
      have hgc := grownCap_ge w2 s.size 0 5
      have hrow : ∀ j (_ : j < s.data.toList.length), (bytesRow s (grownCap w2 s.size 0 5))[j]? = some (.int .u8 ((s.data.toList[j]).toNat : Int)) := by
        intro j hj
        have hj' : j < s.data.size := by simpa using hj
        rw [bytesRow_at s _ j hj']
        simp
      obtain ⟨j, hjk⟩ : ∃ j, j = k / 8 := ⟨_, rfl⟩
      obtain ⟨m, hmk⟩ : ∃ m, m = k % 8 := ⟨_, rfl⟩
      have hj : (k : Int).tdiv 8 = (j : Int) := by rw [hjk, Int.tdiv_eq_ediv_of_nonneg (by omega)]; omega
      have hm : (k : Int).tmod 8 = (m : Int) := by rw [hmk, Int.tmod_eq_emod_of_nonneg (by omega)]; omega
      have hj28 : j < 28 := by omega
      have hm8 : m < 8 := by omega
      have hjl : j < s.data.toList.length := by rw [dat_len]; omega
      clear hjk hmk
      obtain ⟨x, hx⟩ : ∃ x, x = s.data.toList[j] := ⟨_, rfl⟩
      obtain ⟨y, hxy, hfl⟩ := flipped x m hm8
      have HB3 := Lib.hid (HB2.out.trans (((Below.refl w2.heap.size w2).alloc (Nat.le_refl _) (.cells (bytesRow s (grownCap w2 s.size 0 5)) 5 ((bytesRow s (grownCap w2 s.size 0 5)).size, (bytesRow s (grownCap w2 s.size 0 5)).size + 1))).mono HB2.out.size))
      have hcell : (w2.alloc (.cells (bytesRow s (grownCap w2 s.size 0 5)) 5 ((bytesRow s (grownCap w2 s.size 0 5)).size, (bytesRow s (grownCap w2 s.size 0 5)).size + 1))).heap[w2.heap.size]? = some (.cells (bytesRow s (grownCap w2 s.size 0 5)) 5 ((bytesRow s (grownCap w2 s.size 0 5)).size, (bytesRow s (grownCap w2 s.size 0 5)).size + 1)) := heap_alloc_new w2 _
      go_upto_region 8 with (fail)
      rw [hz] at hcell hgc hrow HB3
      generalize grownCap w2 28 0 5 = cap at *
      generalize bytesRow s cap = R at *
      generalize w2.alloc (.cells R 5 (R.size, R.size + 1)) = w3 at *
      have hgw : w.heap.size ≤ w2.heap.size := HB2.out.size
      generalize w2.heap.size = g at *
      have c1 : w3.cell? ⟨g, j, none⟩ = some (.int .u8 (x.toNat : Int)) := by rw [cell_of_row w3 g j _ _ _ hcell, hrow j hjl, hx]
      have hRj : j < R.size := by
        rcases Nat.lt_or_ge j R.size with e | e
        · exact e
        · have := hrow j hjl
          rw [Array.getElem?_eq_none e] at this
          cases this
      have f1 : w3.frozen? ⟨g, j, none⟩ = false := by
        simp only [World.frozen?, hcell]
        simp
        omega
      have HRO := Lib.hid hrow
      have HCE := Lib.hid hcell
      have HX := Lib.hid hx
      clear hrow hcell hx hcv
      go_region
      clear hfl
      have hsl : s.data.toList.length = 28 := by rw [dat_len, hz]
      have hset : (w3.setCell ⟨g, j, none⟩ (.int .u8 (y.toNat : Int))).drew.drew.heap[g]? = some (.cells (R.set! j (.int .u8 (y.toNat : Int))) 5 (R.size, R.size + 1)) := by
        show (w3.setCell ⟨g, j, none⟩ (.int .u8 (y.toNat : Int))).heap[g]? = _
        have h := HCE.out
        simp [World.setCell, Array.getElem?_modify, h]
      have HB4 : Hid (Below w.heap.size w (w3.setCell ⟨g, j, none⟩ (.int .u8 (y.toNat : Int))).drew.drew) := Lib.hid ((HB3.out.setCell (p := ⟨g, j, none⟩) hgw (.int .u8 (y.toNat : Int))).drew.drew)
      generalize (w3.setCell ⟨g, j, none⟩ (.int .u8 (y.toNat : Int))).drew.drew = w4 at *
      have hll : ((hd 1 i i).set j y).length = 28 := by rw [List.length_set, hd_length]
      have hcv := run_convert_bytes_back (P := Try.prog) w4 35 9 5 ⟨g, 0, none⟩ cap ((hd 1 i i).set j y) Try.underlying35 Try.underlying5 Try.underlying9 (by
        intro q hq
        rw [hll] at hq
        rw [show (⟨g, 0, none⟩ : Addr).add q = ⟨g, q, none⟩ from by unfold Addr.add; split <;> simp_all, cell_of_row w4 g q _ _ _ hset]
        rw [show (R.set! j (.int .u8 (y.toNat : Int)))[q]? = if j = q then some (.int .u8 (y.toNat : Int)) else R[q]? from by
          rw [Array.set!_eq_setIfInBounds, Array.getElem?_setIfInBounds]
          by_cases e : j = q
          · subst e; simp [hRj]
          · simp [e]]
        rw [List.getElem_set]
        by_cases e : j = q
        · rw [if_pos e]; simp only [if_pos e]
        · rw [if_neg e]; simp only [if_neg e]
          rw [HRO.out q (by rw [hsl]; exact hq)]
          simp only [HL.out])
      rw [hll] at hcv
      have HS : Hid ((⟨((hd 1 i i).set j y).toArray⟩ : ByteArray).data.toList = (hd 1 i i).set j y) := Lib.hid (by simp)
      have HXY : Hid ((hd 1 i i)[j]'(by rw [hd_length]; exact hj28) ≠ y) := Lib.hid (by
        have e := HX.out
        simp only [HL.out] at e
        rw [← e]; exact hxy)
      generalize (⟨((hd 1 i i).set j y).toArray⟩ : ByteArray) = s5 at *
      clear hset hxy c1 f1 hj hm
      go_wp2_with fail
      refine (flip_any s5 w4 HI.out hj28 HXY.out HS.out).mono ?_
      rintro e w5 ⟨rfl, hB5⟩
      have HB5 := Lib.hid (HB4.out.trans (hB5.mono HB4.out.size))
      clear hB5 HB4
      go_wp2
      go_ret
      exact ⟨rfl, HB5.out⟩
end Go.Proofs.Ytdkmjpafhlamnaa
