/-
  Several texts in one (Sb, Dw): the law and what it calls. Their conditions: as each says.
-/
import Derived.Test.YtjogcdkebplcpaaGreatDoorEn
import Derived.Deep.DeepCutAuto
import Derived.Deep.LoopGhost
import Derived.Test.YtjogcdkebplcpaaGreatDoorDr
import Derived.Test.YtjogcdkebplcpaaGreatDoorSr
namespace Go.Proofs.YtjogcdkebplcpaaGreatDoor
open Go.RowKit Sch

theorem its_at {B : Nat} {w : World} {ao : Option Addr} {n : List Int} (h : ItsAt B w ao n) {j : Nat} (hj : j < n.length) : ∃ g o, ao = some ⟨g, o, none⟩ ∧ w.cell? ⟨g, o + j, none⟩ = some (.int .i64 n[j]) := by
  obtain ⟨g, o, e, _, hc⟩ := h j hj
  exact ⟨g, o, e, hc⟩
theorem sts_at {B : Nat} {w : World} {ao : Option Addr} {n : List ByteArray} (h : StsAt B w ao n) {j : Nat} (hj : j < n.length) : ∃ g o, ao = some ⟨g, o, none⟩ ∧ w.cell? ⟨g, o + j, none⟩ = some (.string n[j]) := by
  obtain ⟨g, o, e, _, hc⟩ := h j hj
  exact ⟨g, o, e, hc⟩

set_option maxRecDepth 100000 in
set_option maxHeartbeats 4000000 in
theorem same_yes (n : List Int) (t : List ByteArray) (aN bN aT bT : Option Addr) (cN dN cT dT B : Nat) (w : World) (hB : B ≤ w.heap.size) (h1 : ItsAt B w aN n) (h2 : ItsAt B w bN n) (h3 : StsAt B w aT t) (h4 : StsAt B w bT t) (hn : n.length ≤ 1000000000) (ht : t.length ≤ 1000000000) :
    Calls Tryz.prog 8 #[.agg #[.slice aN n.length cN, .slice aT t.length cT], .agg #[.slice bN n.length dN, .slice bT t.length dT]] w fun e w' => e = .returned (.bool true) ∧ Below w.heap.size w w' := by
  have hbb := ((Below.refl w.heap.size w).alloc (Nat.le_refl _) (.cells #[.slice aN n.length cN, .slice aT t.length cT] 26)).alloc (by simp) (.cells #[.slice bN n.length dN, .slice bT t.length dT] 30)
  have hA : ((w.alloc (.cells #[.slice aN n.length cN, .slice aT t.length cT] 26)).alloc (.cells #[.slice bN n.length dN, .slice bT t.length dT] 30)).heap[w.heap.size]? = some (.cells #[.slice aN n.length cN, .slice aT t.length cT] 26 (0, 0)) := (Below.heap_alloc _ _ _ (by simp)).trans (heap_alloc_new w _)
  have hC : ((w.alloc (.cells #[.slice aN n.length cN, .slice aT t.length cT] 26)).alloc (.cells #[.slice bN n.length dN, .slice bT t.length dT] 30)).heap[w.heap.size + 1]? = some (.cells #[.slice bN n.length dN, .slice bT t.length dT] 30 (0, 0)) := by
    have h := heap_alloc_new (w.alloc (.cells #[.slice aN n.length cN, .slice aT t.length cT] 26)) (.cells #[.slice bN n.length dN, .slice bT t.length dT] 30)
    simpa using h
  have b1 := h1.up (hbb.mono hB) (Nat.le_refl B)
  have b2 := h2.up (hbb.mono hB) (Nat.le_refl B)
  have b3 := h3.up (hbb.mono hB) (Nat.le_refl B)
  have b4 := h4.up (hbb.mono hB) (Nat.le_refl B)
  have a0 : ((w.alloc (.cells #[.slice aN n.length cN, .slice aT t.length cT] 26)).alloc (.cells #[.slice bN n.length dN, .slice bT t.length dT] 30)).cell? ⟨w.heap.size, 0, none⟩ = some (.slice aN n.length cN) := by rw [cell_of_row _ _ _ _ _ _ hA]; rfl
  have a1 : ((w.alloc (.cells #[.slice aN n.length cN, .slice aT t.length cT] 26)).alloc (.cells #[.slice bN n.length dN, .slice bT t.length dT] 30)).cell? ⟨w.heap.size, 1, none⟩ = some (.slice aT t.length cT) := by rw [cell_of_row _ _ _ _ _ _ hA]; rfl
  have a2 : ((w.alloc (.cells #[.slice aN n.length cN, .slice aT t.length cT] 26)).alloc (.cells #[.slice bN n.length dN, .slice bT t.length dT] 30)).cell? ⟨w.heap.size + 1, 0, none⟩ = some (.slice bN n.length dN) := by rw [cell_of_row _ _ _ _ _ _ hC]; rfl
  have a3 : ((w.alloc (.cells #[.slice aN n.length cN, .slice aT t.length cT] 26)).alloc (.cells #[.slice bN n.length dN, .slice bT t.length dT] 30)).cell? ⟨w.heap.size + 1, 1, none⟩ = some (.slice bT t.length dT) := by rw [cell_of_row _ _ _ _ _ _ hC]; rfl
  have HBB := Lib.hid hbb
  have B1 := Lib.hid b1
  have B2 := Lib.hid b2
  have B3 := Lib.hid b3
  have B4 := Lib.hid b4
  have A0 := Lib.hid a0
  have A1 := Lib.hid a1
  have A2 := Lib.hid a2
  have A3 := Lib.hid a3
  clear hbb hA hC b1 b2 b3 b4 a0 a1 a2 a3 h1 h2 h3 h4
  generalize hw2 : (w.alloc (.cells #[.slice aN n.length cN, .slice aT t.length cT] 26)).alloc (.cells #[.slice bN n.length dN, .slice bT t.length dT] 30) = w2 at *
  have HW2 := Lib.hid hw2
  clear hw2
  go_enter Tryz.func8, Tryz.ntmps8
  go_wp2_with fail
  rw [HW2.out]
  go_loopg [5] (n.length + 1) (fun k i wr => ∃ j : Nat, j ≤ n.length ∧ i = .int .i64 j ∧ n.length - j < k ∧ wr.heap = w2.heap ∧ Below w.heap.size w wr)
  case atStart => exact ⟨0, Nat.zero_le _, rfl, by omega, rfl, HBB.out⟩
  case round =>
    rename World => wr
    obtain ⟨j, hj, rfl, hk, hhp, hbl⟩ := hrel
    have e0 : wr.cell? ⟨w.heap.size, 0, none⟩ = some (.slice aN n.length cN) := (World.cell?_of_block (by rw [hhp])).trans A0.out
    have e1 : wr.cell? ⟨w.heap.size + 1, 0, none⟩ = some (.slice bN n.length dN) := (World.cell?_of_block (by rw [hhp])).trans A2.out
    have HHP := Lib.hid hhp
    have HBL := Lib.hid hbl
    clear hhp hbl
    by_cases hjl : j < n.length
    · obtain ⟨g, o, hao, hc1⟩ := its_at B1.out hjl
      obtain ⟨g2, o2, hbo, hc2⟩ := its_at B2.out hjl
      have d1 : wr.cell? ⟨g, o + j, none⟩ = some (.int .i64 n[j]) := (World.cell?_of_block (by rw [HHP.out])).trans hc1
      have d2 : wr.cell? ⟨g2, o2 + j, none⟩ = some (.int .i64 n[j]) := (World.cell?_of_block (by rw [HHP.out])).trans hc2
      have hj1 : j < 1000000000 := by omega
      rw [hao] at e0
      rw [hbo] at e1
      generalize n[j] = xj at *
      clear hao hbo hc1 hc2
      go_wp2
      go_region
      go_wp2
      go_roundg (n.length - j)
      case measure => omega
      case rel => exact ⟨j + 1, by omega, by go_num, by omega, HHP.out, ⟨HBL.out.os, HBL.out.tape, HBL.out.output, HBL.out.size, HBL.out.block⟩⟩
    · go_wp2
      clear e0 e1
      go_loopg [6] (t.length + 1) (fun k i wr => ∃ j : Nat, j ≤ t.length ∧ i = .int .i64 j ∧ t.length - j < k ∧ wr.heap = w2.heap ∧ Below w.heap.size w wr)
      case atStart => exact ⟨0, Nat.zero_le _, rfl, by omega, HHP.out, HBL.out⟩
      case round =>
        rename World => wr
        obtain ⟨j, hj, rfl, hk, hhp, hbl⟩ := hrel
        have e0 : wr.cell? ⟨w.heap.size, 1, none⟩ = some (.slice aT t.length cT) := (World.cell?_of_block (by rw [hhp])).trans A1.out
        have e1 : wr.cell? ⟨w.heap.size + 1, 1, none⟩ = some (.slice bT t.length dT) := (World.cell?_of_block (by rw [hhp])).trans A3.out
        have HHP := Lib.hid hhp
        have HBL := Lib.hid hbl
        clear hhp hbl
        by_cases hjl : j < t.length
        · obtain ⟨g, o, hao, hc1⟩ := sts_at B3.out hjl
          obtain ⟨g2, o2, hbo, hc2⟩ := sts_at B4.out hjl
          have d1 : wr.cell? ⟨g, o + j, none⟩ = some (.string t[j]) := (World.cell?_of_block (by rw [HHP.out])).trans hc1
          have d2 : wr.cell? ⟨g2, o2 + j, none⟩ = some (.string t[j]) := (World.cell?_of_block (by rw [HHP.out])).trans hc2
          have hj1 : j < 1000000000 := by omega
          rw [hao] at e0
          rw [hbo] at e1
          generalize t[j] = xj at *
          clear hao hbo hc1 hc2
          go_wp2
          go_region
          go_wp2
          go_roundg (t.length - j)
          case measure => omega
          case rel => exact ⟨j + 1, by omega, by go_num, by omega, HHP.out, ⟨HBL.out.os, HBL.out.tape, HBL.out.output, HBL.out.size, HBL.out.block⟩⟩
        · go_wp2
          go_ret
          exact ⟨rfl, HBL.out⟩
end Go.Proofs.YtjogcdkebplcpaaGreatDoor
namespace Go.Proofs.YtjogcdkebplcpaaGreatDoor
open Go.RowKit Sch
theorem decO_err {t : List UInt8} {s : ByteArray} {e : Int} (h : decO t s = .error e) : e ≠ 0 := by
  unfold decO at h
  split at h
  · simp only [Except.error.injEq] at h; omega
  · rename_i r _
    split at h
    · simp only [Except.error.injEq] at h; omega
    · unfold takenO at h
      split at h
      · rename_i e' he
        simp only [Except.error.injEq] at h
        subst h
        exact (sane_tk r none).err _ _ he
      · split at h
        · cases h
        · simp only [Except.error.injEq] at h; omega
/-- A value that was taken is laid out as just these bytes; and it isn't much. -/
theorem dec_enc {t : List UInt8} {s : ByteArray} {n : List Int} {tt : List ByteArray} (h : decO t s = .ok (n, tt)) : encO t n tt = .ok s.data.toList ∧ n.length + tt.length ≤ 16385000 := by
  unfold decO at h
  unfold encO
  split at h
  · cases h
  · rename_i r hr
    rw [hr]
    split at h
    · cases h
    · rename_i hs
      have hsl : s.data.toList.length = s.size := by simp
      unfold takenO at h
      split at h
      · cases h
      · rename_i n1 t1 l1 htk
        split at h
        · rename_i hl1
          subst hl1
          simp only [Except.ok.injEq, Prod.mk.injEq] at h
          obtain ⟨rfl, rfl⟩ := h
          obtain ⟨y, e1, e2⟩ := back_tk r none s.data.toList (by omega) _ _ _ htk
          rw [List.append_nil] at e1
          have e3 := e2 [] []
          rw [List.append_nil, List.append_nil] at e3
          refine ⟨?_, ?_⟩
          · unfold laidO
            dsimp only
            rw [e3]
            dsimp only
            rw [if_pos ⟨rfl, rfl⟩]
            dsimp only
            rw [if_neg (by rw [← e1]; omega), ← e1]
          · have h1 := (few_tk r none _ _ _ _ htk).2
            have hz := (wf_form hr).2
            have h2 : r.sz * ((s.data.toList.length - ([] : List UInt8).length) / 4 + 1) ≤ 1000 * 16385 := Nat.mul_le_mul hz (by rw [hsl]; simp; omega)
            omega
        · cases h
theorem sp_dec : decO [63, 40, 117, 41, 111, 56] ⟨#[0, 0, 0, 1, 0, 0, 0, 7, 0, 0, 0, 2, 97, 98, 0, 0]⟩ = .ok ([1, 7], [⟨#[97, 98]⟩]) := by kernel_rfl
set_option maxRecDepth 100000 in
set_option maxHeartbeats 1000000 in
theorem speaks2_any (w : World) : Calls Tryz.prog 5 #[] w fun r w' => r = .returned (.bool true) ∧ Below w.heap.size w w' := by
  go_enter Tryz.func5, Tryz.ntmps5
  go_wp2_with fail
  refine (decode_any [63, 40, 117, 41, 111, 56] ⟨#[0, 0, 0, 1, 0, 0, 0, 7, 0, 0, 0, 2, 97, 98, 0, 0]⟩ w _ sp_dec).mono ?_
  rintro r w1 ⟨hB, vN, vT, rfl, hN, hT⟩
  obtain ⟨g, cap, rfl, _, _⟩ := hN.form (by decide)
  obtain ⟨k, cap2, rfl, _, _⟩ := hT.form (by decide)
  have c1 := cellAt0 hN 1 (.int .i64 7) rfl
  have c0 := cellAt0 hN 0 (.int .i64 1) rfl
  have t0 := cellAt0 hT 0 (.string ⟨#[97, 98]⟩) rfl
  obtain ⟨lg, hlg⟩ : ∃ x : Nat, x = ([1, 7] : List Int).length := ⟨_, rfl⟩
  have HB := Lib.hid hB
  have hgl : g < w1.heap.size := by assumption
  have hkl : k < w1.heap.size := by assumption
  clear hB hN hT
  simp only [List.length_cons, List.length_nil]
  have d1 : (w1.alloc (.cells #[.slice (some ⟨g, 0, none⟩) 2 cap, .slice (some ⟨k, 0, none⟩) 1 cap2] 26)).cell? ⟨g, 1, none⟩ = some (.int .i64 7) := (World.cell?_alloc_past _ _ _ hgl).trans c1
  have d2 : (w1.alloc (.cells #[.slice (some ⟨g, 0, none⟩) 2 cap, .slice (some ⟨k, 0, none⟩) 1 cap2] 26)).cell? ⟨k, 0, none⟩ = some (.string ⟨#[97, 98]⟩) := (World.cell?_alloc_past _ _ _ hkl).trans t0
  go_wp2
  go_ret
  exact ⟨rfl, HB.out.alloc HB.out.size _⟩
theorem agg_cells {w : World} {a t : Nat} {x y : Value} (h : w.heap[a]? = some (.cells #[x, y] t (0, 0))) : w.cell? ⟨a, 0, none⟩ = some x ∧ w.cell? ⟨a, 1, none⟩ = some y := by
  refine ⟨?_, ?_⟩ <;> (rw [cell_of_row w a _ _ _ _ h]; rfl)
set_option maxRecDepth 100000 in
set_option maxHeartbeats 4000000 in
theorem decodes_walk (F s : ByteArray) (w : World) : Calls Tryz.prog 3 #[.string F, .string s] w fun e w' => e = .returned (.bool true) ∧ Below w.heap.size w w' := by
  obtain ⟨t, ht⟩ : ∃ t : List UInt8, (⟨t.toArray⟩ : ByteArray) = F := ⟨F.data.toList, by simp⟩
  obtain ⟨x, hx⟩ : ∃ x, decO t s = x := ⟨_, rfl⟩
  have hde := fun w => decode_any t s w x hx
  have hrd := fun w => refdec_any t s w x hx
  have hen : ∀ (n : List Int) (tt : List ByteArray) (aN : Option Addr) (cN : Nat) (aT : Option Addr) (cT : Nat) (w : World) (h1 : ItsAt w.heap.size w aN n) (h2 : StsAt w.heap.size w aT tt) (h3 : n.length ≤ cN ∧ cN ≤ 9223372036854775807) (h4 : tt.length ≤ cT ∧ cT ≤ 9223372036854775807) (h5 : worth n tt + 200000 ≤ 140737488355328) x (h6 : encO t n tt = x), Calls Tryz.prog 9 #[.string ⟨t.toArray⟩, .agg #[.slice aN n.length cN, .slice aT tt.length cT]] w (EnTo w x) := fun n tt aN cN aT cT w h1 h2 h3 h4 h5 x h6 => encode_any t n tt aN cN aT cT w h1 h2 h3 h4 h5 x h6
  rw [ht] at hde hrd hen
  have HDE := Lib.hid hde
  have HRD := Lib.hid hrd
  have HEN := Lib.hid hen
  clear hde hrd hen ht
  go_enter Tryz.func3, Tryz.ntmps3
  go_wp2_with fail
  refine (speaks2_any _).mono ?_
  rintro e w1 ⟨rfl, hb⟩
  have HB1 := Lib.hid hb
  clear hb
  go_wp2_with fail
  refine (HDE.out w1).mono ?_
  rintro e w2 ⟨hb, hr⟩
  have HB2 := Lib.hid (HB1.out.trans (hb.mono HB1.out.size))
  clear hb HB1
  cases x with
  | error e =>
    simp only at hr
    subst hr
    have he : ¬ e = 0 := decO_err hx
    have HE := Lib.hid he
    clear hx he HEN
    unfold nilS at *
    go_wp2_with fail
    refine (HRD.out _).mono ?_
    rintro e3 w3 ⟨hb3, rfl⟩
    have hA : (w3.alloc (.cells #[.slice none 0 0, .slice none 0 0] 30)).heap[w2.heap.size]? = some (.cells #[.slice none 0 0, .slice none 0 0] 26 (0, 0)) := (Below.heap_alloc _ _ _ (by have := hb3.size; simp at this; omega)).trans ((hb3.block _ (by simp)).trans (heap_alloc_new w2 _))
    have hC : (w3.alloc (.cells #[.slice none 0 0, .slice none 0 0] 30)).heap[w3.heap.size]? = some (.cells #[.slice none 0 0, .slice none 0 0] 30 (0, 0)) := heap_alloc_new w3 _
    have HB3 := Lib.hid (((HB2.out.alloc HB2.out.size (.cells #[.slice none 0 0, .slice none 0 0] 26)).trans (hb3.mono (by have := HB2.out.size; simp; omega))).alloc (by have := HB2.out.size; have := hb3.size; simp at this; omega) (.cells #[.slice none 0 0, .slice none 0 0] 30))
    unfold nilS at *
    obtain ⟨a0, a1⟩ := agg_cells hA
    obtain ⟨k0, k1⟩ := agg_cells hC
    have he : (e != 0) = true := by rw [bne_iff_ne]; exact HE.out
    have hee : (e != e) = false := by simp
    have HSY := Lib.hid (fun w => same_yes [] [] none none none none 0 0 0 0 0 w (Nat.zero_le _) (fun i hi => by simp at hi) (fun i hi => by simp at hi) (fun i hi => by simp at hi) (fun i hi => by simp at hi) (by simp) (by simp))
    clear hA hC hb3 HB2 HDE HRD HE
    go_wp2_with fail
    generalize w3.alloc (.cells #[.slice none 0 0, .slice none 0 0] 30) = w4 at *
    refine (HSY.out _).mono ?_
    rintro e5 w5 ⟨rfl, hb5⟩
    have HB5 := Lib.hid (HB3.out.trans (hb5.mono HB3.out.size))
    clear hb5 HB3 HSY
    go_wp2
    go_ret
    exact ⟨rfl, HB5.out⟩
  | ok y =>
    obtain ⟨n, tt⟩ := y
    obtain ⟨vN, vT, rfl, hN, hT⟩ := hr
    obtain ⟨aN, cN, rfl, iN, n1, n2⟩ := its_of hN
    obtain ⟨aT, cT, rfl, iT, t1, t2⟩ := sts_of hT
    obtain ⟨en, hw⟩ := dec_enc hx
    clear hN hT hx
    have HN0 := Lib.hid iN
    have HT0 := Lib.hid iT
    have HENC := Lib.hid en
    have HW := Lib.hid hw
    have HN1 := Lib.hid (And.intro n1 n2)
    have HT1 := Lib.hid (And.intro t1 t2)
    clear iN iT en hw n1 n2 t1 t2
    go_wp2_with fail
    refine (HRD.out _).mono ?_
    rintro e3 w3 ⟨hb3, uN, uT, rfl, hN, hT⟩
    obtain ⟨bN, dN, rfl, jN, _, _⟩ := its_of hN
    obtain ⟨bT, dT, rfl, jT, _, _⟩ := sts_of hT
    have hA : (w3.alloc (.cells #[.slice bN n.length dN, .slice bT tt.length dT] 30)).heap[w2.heap.size]? = some (.cells #[.slice aN n.length cN, .slice aT tt.length cT] 26 (0, 0)) := (Below.heap_alloc _ _ _ (by have := hb3.size; simp at this; omega)).trans ((hb3.block _ (by simp)).trans (heap_alloc_new w2 _))
    have hC : (w3.alloc (.cells #[.slice bN n.length dN, .slice bT tt.length dT] 30)).heap[w3.heap.size]? = some (.cells #[.slice bN n.length dN, .slice bT tt.length dT] 30 (0, 0)) := heap_alloc_new w3 _
    have hb23 : Below w2.heap.size w2 (w3.alloc (.cells #[.slice bN n.length dN, .slice bT tt.length dT] 30)) := (((Below.refl w2.heap.size w2).alloc (Nat.le_refl _) (.cells #[.slice aN n.length cN, .slice aT tt.length cT] 26)).trans (hb3.mono (by simp))).alloc (by have := hb3.size; simp at this; omega) _
    have hb34 : Below w3.heap.size w3 (w3.alloc (.cells #[.slice bN n.length dN, .slice bT tt.length dT] 30)) := (Below.refl w3.heap.size w3).alloc (Nat.le_refl _) _
    have HN2 := Lib.hid (HN0.out.up hb23 hb23.size)
    have HT2 := Lib.hid (HT0.out.up hb23 hb23.size)
    have HN3 := Lib.hid (jN.up hb34 hb34.size)
    have HT3 := Lib.hid (jT.up hb34 hb34.size)
    have HB3 := Lib.hid (HB2.out.trans (hb23.mono HB2.out.size))
    obtain ⟨a0, a1⟩ := agg_cells hA
    obtain ⟨k0, k1⟩ := agg_cells hC
    have HA := Lib.hid hA
    clear hA hC hb3 hb23 hb34 HB2 HDE HRD HN0 HT0 hN hT jN jT
    have hw24 : w2.heap.size < (w3.alloc (.cells #[.slice bN n.length dN, .slice bT tt.length dT] 30)).heap.size := (Array.getElem?_eq_some_iff.1 HA.out).1
    go_wp2_with fail
    generalize w3.alloc (.cells #[.slice bN n.length dN, .slice bT tt.length dT] 30) = w4 at *
    refine (same_yes n tt aN bN aT bT cN dN cT dT w4.heap.size w4 (Nat.le_refl _) HN2.out HN3.out HT2.out HT3.out (by have := HW.out; omega) (by have := HW.out; omega)).mono ?_
    rintro e5 w5 ⟨rfl, hb5⟩
    have HB5 := Lib.hid (HB3.out.trans (hb5.mono HB3.out.size))
    have HN5 := Lib.hid (HN2.out.up hb5 hb5.size)
    have HT5 := Lib.hid (HT2.out.up hb5 hb5.size)
    have hA5 : w5.heap[w2.heap.size]? = some (.cells #[.slice aN n.length cN, .slice aT tt.length cT] 26 (0, 0)) := (hb5.block _ hw24).trans HA.out
    obtain ⟨m0, m1⟩ := agg_cells hA5
    clear hb5 HB3 HN2 HT2 HN3 HT3 hA5 HA a0 a1 k0 k1
    go_wp2_with fail
    refine (HEN.out n tt aN cN aT cT w5 HN5.out HT5.out HN1.out HT1.out (by have := HW.out; unfold worth; omega) _ HENC.out).mono ?_
    rintro e6 w6 ⟨hb6, rfl⟩
    have HB6 := Lib.hid (HB5.out.trans (hb6.mono HB5.out.size))
    have hs : (⟨s.data.toList.toArray⟩ : ByteArray) = s := by simp
    rw [hs]
    clear hb6 HB5 hs
    go_wp2
    go_ret
    exact ⟨rfl, HB6.out⟩
end Go.Proofs.YtjogcdkebplcpaaGreatDoor
