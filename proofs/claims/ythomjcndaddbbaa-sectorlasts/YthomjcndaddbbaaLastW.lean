/-
  SectorLasts' walk: a sector behind a loss of power is as it was flushed or as it was written since. Its conditions: the lists lie in memory.
-/
import Derived.Test.YthomjcndaddbbaaArr
import Derived.Deep.DeepCutAuto
namespace Go.Proofs.Ythomjcndaddbbaa
open Go.RowKit

/-- The disk while the first texts are written. -/
structure St1 (O : List ByteArray) (d : Dk) (k : Nat) : Prop where
  len : O.length = 8
  seen : d.S = O.map full
  small : ∀ s ∈ O, s.size ≤ 256
  off : d.off = false
  cut : d.cut = 0
  wr : d.wr = k
  fl : d.fl = 0
  q : d.Q.length = k
theorem St1.start : St1 (List.replicate 8 ⟨#[]⟩) (Dk.new 8) 0 := ⟨rfl, by simp [Dk.new], by intro s hs; rw [List.eq_of_mem_replicate hs]; decide, rfl, rfl, rfl, rfl, rfl⟩
theorem St1.step {O : List ByteArray} {d : Dk} {k : Nat} (h : St1 O d k) (s : ByteArray) (hs : s.size ≤ 256) : St1 (O.set k s) (d.queued k s).wrote (k + 1) := by
  refine ⟨by rw [List.length_set]; exact h.len, ?_, ?_, h.off, h.cut, ?_, h.fl, ?_⟩
  · show d.S.set k (full s) = _
    rw [h.seen, List.map_set]
  · intro x hx
    rcases List.mem_or_eq_of_mem_set hx with e | e
    · exact h.small x e
    · rw [e]; exact hs
  · show d.wr + 1 = _; rw [h.wr]; rfl
  · show (d.Q ++ _).length = _; simp [h.q]

/-- The disk while the second texts are written. -/
structure St2 (O N : List ByteArray) (d : Dk) (k : Nat) : Prop where
  lenO : O.length = 8
  len : N.length = 8
  lasts : d.L = O.map full
  smallO : ∀ s ∈ O, s.size ≤ 256
  small : ∀ s ∈ N, s.size ≤ 256
  off : d.off = false
  cut : d.cut = 0
  wr0 : 0 ≤ d.wr
  wr1 : d.wr ≤ 8 + k
  q : d.Q.length = k
  ofQ : ∀ x ∈ d.Q, x.1 < k ∧ N[x.1]?.map full = some x.2
theorem St2.start {O : List ByteArray} {d : Dk} {k : Nat} (h : St1 O d k) (hk : k ≤ 8) : St2 O O d.flushed 0 :=
  ⟨h.len, h.len, h.seen, h.small, h.small, h.off, h.cut, by show 0 ≤ d.wr; rw [h.wr]; omega, by show d.wr ≤ _; rw [h.wr]; omega, rfl, by intro x hx; simp [Dk.flushed] at hx⟩
theorem St2.step {O N : List ByteArray} {d : Dk} {k : Nat} (h : St2 O N d k) (hk : k < 8) (s : ByteArray) (hs : s.size ≤ 256) : St2 O (N.set k s) (d.queued k s).wrote (k + 1) := by
  refine ⟨h.lenO, by rw [List.length_set]; exact h.len, h.lasts, h.smallO, ?_, h.off, h.cut, ?_, ?_, ?_, ?_⟩
  · intro x hx
    rcases List.mem_or_eq_of_mem_set hx with e | e
    · exact h.small x e
    · rw [e]; exact hs
  · have := h.wr0; show 0 ≤ d.wr + 1; omega
  · have := h.wr1; show d.wr + 1 ≤ _; omega
  · show (d.Q ++ _).length = _; simp [h.q]
  · intro x hx
    rcases List.mem_append.1 hx with e | e
    · obtain ⟨a, b⟩ := h.ofQ x e
      refine ⟨by omega, ?_⟩
      rw [List.getElem?_set_ne (by omega)]; exact b
    · rw [List.mem_singleton.1 e]
      refine ⟨by show k < k + 1; omega, ?_⟩
      show (N.set k s)[k]?.map full = some (full s)
      rw [List.getElem?_set_self (by rw [h.len]; exact hk)]; rfl
theorem St2.ends {O N : List ByteArray} {d : Dk} {k : Nat} (h : St2 O N d k) (keep : Int) (i : Nat) (hi : i < 8) : ∃ (h1 : i < O.length) (h2 : i < N.length), ((d.crash keep).S.getD i ⟨#[]⟩ = full O[i] ∨ (d.crash keep).S.getD i ⟨#[]⟩ = full N[i]) := by
  refine ⟨by rw [h.lenO]; exact hi, by rw [h.len]; exact hi, ?_⟩
  have e : (d.crash keep).S = loseL keep d.Q 0 d.L := rfl
  rw [e, List.getD_eq_getElem?_getD]
  have hO : i < O.length := by rw [h.lenO]; exact hi
  have hN : i < N.length := by rw [h.len]; exact hi
  rcases loseL_get keep d.Q 0 d.L i with g | ⟨x, hx, e1, e2⟩
  · left; rw [g, h.lasts]; simp [hO]
  · right
    rw [e2]
    have := (h.ofQ x hx).2
    rw [e1, List.getElem?_eq_getElem hN] at this
    simpa using this.symm

theorem ne_list {a b : ByteArray} (h : ¬ a = b) : (a.toList == b.toList) = false := by
  rw [beq_eq_false_iff_ne]
  intro e
  apply h
  rw [ByteArray.toList_eq, ByteArray.toList_eq] at e
  apply ByteArray.ext
  exact Array.ext' e

set_option maxRecDepth 100000 in
set_option maxHeartbeats 2000000 in
theorem lasts_walk (F G : List ByteArray) (fo go : Option Addr) (fc gc : Nat) (keep : Int) (w : World) (hF : StrAt w fo F) (hG : StrAt w go G) :
    Calls Try.prog 4 #[.slice fo F.length fc, .slice go G.length gc, .int .i64 keep] w fun e w' => e = .returned (.bool true) ∧ Below w.heap.size w w' := by
  have HF := Lib.hid hF
  have HG := Lib.hid hG
  clear hF hG
  go_enter Try.func4, Try.ntmps4
  go_wp2_with fail
  refine (speaks_any w).mono ?_
  rintro e w0 ⟨rfl, hB0⟩
  have HB0 := Lib.hid hB0
  clear hB0
  go_wp2_with fail
  refine (my_new (n := 8) w0 (by decide) (by decide)).mono ?_
  rintro e w1 ⟨l, rfl, v1, h1⟩
  have H1 := Lib.hid h1
  have hs1 := h1.below.size
  clear h1
  obtain ⟨B1, hB1⟩ : ∃ B1, B1 = w1.heap.size := ⟨_, rfl⟩
  have hB1' : w0.heap.size ≤ B1 := by omega
  have HB1 := Lib.hid hB1
  clear hB1
  go_wp2
  rw [← HB1.out]
  go_loopw [10] (fun i wr => ∃ k : Nat, k ≤ 8 ∧ i = .int .i64 k ∧ ∃ v d O, Mine w0 wr l v d 8 ∧ Arr 52 wr B1 O ∧ St1 O d k) (fun i _ => 8 - (intOf i).toNat)
  case atStart => exact ⟨0, by omega, rfl, v1, _, _, H1.out.alloc _, by rw [HB1.out]; exact heap_alloc_new w1 _, St1.start⟩
  case round =>
    obtain ⟨k, hk1, rfl, v, d, O, hM, hA, hS⟩ := hrel
    have HM := Lib.hid hM
    have HA := Lib.hid hA
    have HS := Lib.hid hS
    clear hM hA hS
    by_cases hlt : k < F.length ∧ k < 8
    · obtain ⟨hlt1, hlt2⟩ := hlt
      obtain ⟨g, off, rfl, hg, hc⟩ := (HF.out.below (HB0.out.trans (HM.out.below.mono HB0.out.size))) k hlt1
      obtain ⟨s, hs⟩ : ∃ s, s = F[k] := ⟨_, rfl⟩
      rw [← hs] at hc
      clear hs
      obtain ⟨t, ht⟩ : ∃ t, t = s.extract 0 (min (s.size : Int) 256).toNat := ⟨_, rfl⟩
      have htz : t.size ≤ 256 := by rw [ht]; exact cut256_size s
      have HT := Lib.hid ht
      clear ht
      have hac := HA.out.cell k (by rw [HS.out.len]; exact hlt2)
      have haf := HA.out.free k
      obtain ⟨z, hz⟩ : ∃ z, z = O[k]'(by rw [HS.out.len]; exact hlt2) := ⟨_, rfl⟩
      rw [← hz] at hac
      clear hz
      go_wp2
      go_region
      all_goals
        rw [← HT.out]
        have HM2 := Lib.hid ((HM.out.arr HA.out (by decide) hB1' k (.string t)).drew)
        have HA2 := Lib.hid ((HA.out.set k t).below ((Below.refl _ _).drew))
        generalize (wr.setCell ⟨B1, k, none⟩ (.string t)).drew = W at *
        have hac2 := HA2.out.cell k (by rw [List.length_set, HS.out.len]; exact hlt2)
        rw [List.getElem_set_self] at hac2
        clear hac haf hc hg
        go_wp2_with fail
        refine (my2_write HM2.out k t hlt2 htz HS.out.off HS.out.cut (by rw [HS.out.q]; omega) (by rw [HS.out.wr]; omega) (by rw [HS.out.wr]; omega)).mono ?_
        rintro e w2 ⟨rfl, v2, h2, hC2⟩
        have H2 := Lib.hid h2
        have HA3 := Lib.hid (HA2.out.kept (by decide) HM2.out.disk hC2)
        clear h2 hC2 hac2
        go_wp2
        go_roundw
        case rel => exact ⟨k + 1, by omega, by go_num, v2, _, _, H2.out, HA3.out, HS.out.step t htz⟩
        case measure => simp [intOf]; omega
    · go_upto_region 6 with (fail)
      go_cut [29] (fun s29 wc => s29 = .bool false ∧ wr = wc)
      case first =>
        by_cases h1 : k < F.length
        · have hd : decide ((k : Int) < 8) = false := decide_eq_false (by omega)
          clear hlt
          go_wp2
          go_meet
          exact ⟨rfl, rfl⟩
        · clear hlt
          go_wp2
          go_meet
          exact ⟨rfl, rfl⟩
      case rest =>
        obtain ⟨rfl, rfl⟩ := hcut
        clear hlt
        go_wp2_with fail
        refine (my2_flush HM.out HS.out.off HS.out.cut (by rw [HS.out.fl]; omega) (by rw [HS.out.fl]; omega)).mono ?_
        rintro e w3 ⟨rfl, v3, h3, hC3⟩
        have H3 := Lib.hid h3
        have HA3 := Lib.hid (HA.out.kept (by decide) HM.out.disk hC3)
        have HS3 := Lib.hid (St2.start HS.out hk1)
        clear h3 hC3 HM HA
        obtain ⟨E, hE⟩ : ∃ E, E = d.flushed := ⟨_, rfl⟩
        rw [← hE] at H3 HS3
        clear hE HS
        have hO8 := HS3.out.lenO
        match O, hO8 with
        | [o0, o1, o2, o3, o4, o5, o6, o7], _ =>
          have q0 := HA3.out.cell 0 (by simp)
          have q1 := HA3.out.cell 1 (by simp)
          have q2 := HA3.out.cell 2 (by simp)
          have q3 := HA3.out.cell 3 (by simp)
          have q4 := HA3.out.cell 4 (by simp)
          have q5 := HA3.out.cell 5 (by simp)
          have q6 := HA3.out.cell 6 (by simp)
          have q7 := HA3.out.cell 7 (by simp)
          have hlt1 := HA3.out.lt
          simp only [List.getElem_cons_zero, List.getElem_cons_succ] at q0 q1 q2 q3 q4 q5 q6 q7
          obtain ⟨B2, hB2⟩ : ∃ B2, B2 = w3.heap.size := ⟨_, rfl⟩
          have hs3 := H3.out.below.size
          have hB2' : w0.heap.size ≤ B2 := by omega
          have hB12 : B1 ≠ B2 := by omega
          have HB2 := Lib.hid hB2
          clear hB2
          go_wp2
          clear q0 q1 q2 q3 q4 q5 q6 q7
          rw [← HB2.out]
          have HM4 := Lib.hid (H3.out.alloc (.cells #[.string o0, .string o1, .string o2, .string o3, .string o4, .string o5, .string o6, .string o7] 52))
          have HA4 := Lib.hid (HA3.out.below ((Below.refl _ _).alloc (Nat.le_refl _) (.cells #[.string o0, .string o1, .string o2, .string o3, .string o4, .string o5, .string o6, .string o7] 52)))
          have HN4 : Hid (Arr 52 (w3.alloc (.cells #[.string o0, .string o1, .string o2, .string o3, .string o4, .string o5, .string o6, .string o7] 52)) B2 [o0, o1, o2, o3, o4, o5, o6, o7]) := Lib.hid (by rw [HB2.out]; exact heap_alloc_new w3 _)
          generalize w3.alloc (.cells #[.string o0, .string o1, .string o2, .string o3, .string o4, .string o5, .string o6, .string o7] 52) = W4 at *
          generalize [o0, o1, o2, o3, o4, o5, o6, o7] = O at *
          clear HA3 H3 hs3 hlt1 HB2
          go_loopw [12] (fun i wr => ∃ k : Nat, k ≤ 8 ∧ i = .int .i64 k ∧ ∃ v d N, Mine w0 wr l v d 8 ∧ Arr 52 wr B1 O ∧ Arr 52 wr B2 N ∧ St2 O N d k) (fun i _ => 8 - (intOf i).toNat)
          case atStart => exact ⟨0, by omega, rfl, v3, E, O, HM4.out, HA4.out, HN4.out, HS3.out⟩
          case round =>
            obtain ⟨k, hk1, rfl, v, d, N, hM, hA, hN, hS⟩ := hrel
            have HM := Lib.hid hM
            have HA := Lib.hid hA
            have HN := Lib.hid hN
            have HS := Lib.hid hS
            clear hM hA hN hS
            by_cases hlt : k < G.length ∧ k < 8
            · obtain ⟨hlt1, hlt2⟩ := hlt
              obtain ⟨g, off, rfl, hg, hc⟩ := (HG.out.below (HB0.out.trans (HM.out.below.mono HB0.out.size))) k hlt1
              obtain ⟨s, hs⟩ : ∃ s, s = G[k] := ⟨_, rfl⟩
              rw [← hs] at hc
              clear hs
              obtain ⟨t, ht⟩ : ∃ t, t = s.extract 0 (min (s.size : Int) 256).toNat := ⟨_, rfl⟩
              have htz : t.size ≤ 256 := by rw [ht]; exact cut256_size s
              have HT := Lib.hid ht
              clear ht
              have hac := HN.out.cell k (by rw [HS.out.len]; exact hlt2)
              have haf := HN.out.free k
              obtain ⟨z, hz⟩ : ∃ z, z = N[k]'(by rw [HS.out.len]; exact hlt2) := ⟨_, rfl⟩
              rw [← hz] at hac
              clear hz
              go_wp2
              go_region
              all_goals
                rw [← HT.out]
                have HM2 := Lib.hid ((HM.out.arr HN.out (by decide) hB2' k (.string t)).drew)
                have HN2 := Lib.hid ((HN.out.set k t).below ((Below.refl _ _).drew))
                have HA2 := Lib.hid ((HA.out.other (i := k) hB12 (.string t)).below ((Below.refl _ _).drew))
                generalize (wr.setCell ⟨B2, k, none⟩ (.string t)).drew = W at *
                have hac2 := HN2.out.cell k (by rw [List.length_set, HS.out.len]; exact hlt2)
                rw [List.getElem_set_self] at hac2
                clear hac haf hc hg
                have hw0 := HS.out.wr0
                have hw1 := HS.out.wr1
                go_wp2_with fail
                refine (my2_write HM2.out k t hlt2 htz HS.out.off HS.out.cut (by rw [HS.out.q]; omega) hw0 (by omega)).mono ?_
                rintro e w2 ⟨rfl, v2, h2, hC2⟩
                have H2 := Lib.hid h2
                have HA3 := Lib.hid (HA2.out.kept (by decide) HM2.out.disk hC2)
                have HN3 := Lib.hid (HN2.out.kept (by decide) HM2.out.disk hC2)
                clear h2 hC2 hac2
                go_wp2
                go_roundw
                case rel => exact ⟨k + 1, by omega, by go_num, v2, _, _, H2.out, HA3.out, HN3.out, HS.out.step hlt2 t htz⟩
                case measure => simp [intOf]; omega
            · go_upto_region 16 with (fail)
              go_cut [63] (fun s63 wc => s63 = .bool false ∧ wr = wc)
              case first =>
                by_cases h1 : k < G.length
                · have hd : decide ((k : Int) < 8) = false := decide_eq_false (by omega)
                  clear hlt
                  go_wp2
                  go_meet
                  exact ⟨rfl, rfl⟩
                · clear hlt
                  go_wp2
                  go_meet
                  exact ⟨rfl, rfl⟩
              case rest =>
                obtain ⟨rfl, rfl⟩ := hcut
                clear hlt
                go_wp2_with fail
                refine (my2_crash HM.out keep).mono ?_
                rintro e w5 ⟨rfl, v5, h5, hC5⟩
                have H5 := Lib.hid h5
                have HA5 := Lib.hid (HA.out.kept (by decide) HM.out.disk hC5)
                have HN5 := Lib.hid (HN.out.kept (by decide) HM.out.disk hC5)
                clear h5 hC5
                go_wp2
                go_loopw [13] (fun i wr => ∃ m : Nat, m ≤ 8 ∧ i = .int .i64 m ∧ Mine w0 wr l v5 (d.crash keep) 8 ∧ Arr 52 wr B1 O ∧ Arr 52 wr B2 N) (fun i _ => 8 - (intOf i).toNat)
                case atStart => exact ⟨0, by omega, rfl, H5.out, HA5.out, HN5.out⟩
                case round =>
                  obtain ⟨m, hm1, rfl, hM, hA, hN⟩ := hrel
                  have HM6 := Lib.hid hM
                  have HA6 := Lib.hid hA
                  have HN6 := Lib.hid hN
                  clear hM hA hN
                  by_cases hlt : m < 8
                  · obtain ⟨i1, i2, hor⟩ := HS.out.ends keep m hlt
                    have hac := HA6.out.cell m i1
                    have han := HN6.out.cell m i2
                    have hz1 : O[m].size ≤ 256 := HS.out.smallO _ (List.getElem_mem i1)
                    have hz2 : N[m].size ≤ 256 := HS.out.small _ (List.getElem_mem i2)
                    obtain ⟨a, ha⟩ : ∃ a, a = O[m] := ⟨_, rfl⟩
                    obtain ⟨b, hb⟩ : ∃ b, b = N[m] := ⟨_, rfl⟩
                    rw [← ha] at hac hz1 hor
                    rw [← hb] at han hz2 hor
                    clear ha hb
                    obtain ⟨z, hz⟩ : ∃ z, (d.crash keep).S.getD m ⟨#[]⟩ = z := ⟨_, rfl⟩
                    rw [hz] at hor
                    have HZ := Lib.hid hz
                    clear hz
                    by_cases he : z = full a
                    · subst he
                      clear hor
                      go_wp2_with fail
                      refine (my_read HM6.out m hlt rfl (full a) HZ.out).mono ?_
                      rintro e w6 ⟨rfl, rfl⟩
                      go_wp2_with fail
                      refine (refFull_any a _ hz1).mono ?_
                      rintro e w7 ⟨rfl, hB7⟩
                      have HM7 := Lib.hid (HM6.out.belowed hB7)
                      have HA7 := Lib.hid (HA6.out.below hB7)
                      have HN7 := Lib.hid (HN6.out.below hB7)
                      clear hB7
                      go_wp2
                      go_roundw
                      case rel => exact ⟨m + 1, by omega, by go_num, HM7.out, HA7.out, HN7.out⟩
                      case measure => simp [intOf]; omega
                    · have he2 : z = full b := hor.resolve_left he
                      subst he2
                      clear hor
                      go_wp2_with fail
                      refine (my_read HM6.out m hlt rfl (full b) HZ.out).mono ?_
                      rintro e w6 ⟨rfl, rfl⟩
                      go_wp2_with fail
                      refine (refFull_any a _ hz1).mono ?_
                      rintro e w7 ⟨rfl, hB7⟩
                      have HM7 := Lib.hid (HM6.out.belowed hB7)
                      have HA7 := Lib.hid (HA6.out.below hB7)
                      have HN7 := Lib.hid (HN6.out.below hB7)
                      have han7 : w7.cell? ⟨B2, m, none⟩ = some (.string b) := (hB7.cell (p := ⟨B2, m, none⟩) HN6.out.lt).trans han
                      clear hB7 hac han
                      have hne1 := ne_list he
                      have hne2 : ((full b).toList != (full a).toList) = true := by simpa [bne] using hne1
                      clear he
                      go_wp2_with fail
                      refine (refFull_any b _ hz2).mono ?_
                      rintro e w8 ⟨rfl, hB8⟩
                      have HM8 := Lib.hid (HM7.out.belowed hB8)
                      have HA8 := Lib.hid (HA7.out.below hB8)
                      have HN8 := Lib.hid (HN7.out.below hB8)
                      clear hB8 han7
                      go_wp2
                      go_roundw
                      case rel => exact ⟨m + 1, by omega, by go_num, HM8.out, HA8.out, HN8.out⟩
                      case measure => simp [intOf]; omega
                  · go_wp2
                    go_ret
                    exact ⟨rfl, HB0.out.trans (HM6.out.below.mono HB0.out.size)⟩
end Go.Proofs.Ythomjcndaddbbaa
