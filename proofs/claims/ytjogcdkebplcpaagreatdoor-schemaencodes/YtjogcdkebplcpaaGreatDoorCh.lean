/-
  A choice's arms, as long as shorter rows are told. No condition but that.
-/
import Derived.Test.YtjogcdkebplcpaaGreatDoorOwn
import Derived.Deep.LoopGhost
namespace Go.Proofs.YtjogcdkebplcpaaGreatDoor
open Go.RowKit Sch

abbrev ArmsR (B : Nat) (r : Row) (v : Value) (w' : World) : Prop := SlR w' (fun k => B ≤ k) 114 2 v r
def gate (r : Row) : List UInt8 → Option (Row × List UInt8)
  | [] => none
  | d :: t2 => if d = 62 then some (r, t2) else none

set_option maxHeartbeats 1000000 in
theorem choice_bad (p : Nat) (t : List UInt8) (n : Nat) (w : World) (h : Pa w p t n) (h16 : 16 ≤ n) (hn : n ≤ 16) :
    Calls Tryz.prog 54 #[.pointer (some ⟨p, 0, none⟩)] w (PPost p w n none (ArmsR w.heap.size)) := by
  go_enter Tryz.func54, Tryz.ntmps54
  go_wp2_with fail
  refine (open_bad p t n w h h16 (by omega)).mono ?_
  rintro r w2 ⟨rfl, hF2⟩
  have HF2 := Lib.hid hF2
  clear hF2
  go_wp2
  exact ⟨rfl, PPost.none rfl rfl HF2.out⟩

theorem info94 : (Tryz.prog.info? 114).map (fun i => (i.zero, i.size, i.bytes)) = some (some (.agg #[.int .i64 0, nilS]), 2, 32) := by kernel_rfl
set_option maxRecDepth 100000 in
set_option maxHeartbeats 4000000 in
theorem choice_ok (N : Nat) (HR : RowC N) (p : Nat) (t : List UInt8) (n : Nat) (w : World) (h : Pa w p t n) (hN : t.length ≤ N + 2) (ht : t.length ≤ 1000) (h16 : n < 16) (goal0 : Option (Row × List UInt8)) (hfu : goal0 = pG num5 (t.length + 1) false (n + 1) [] t) :
    Calls Tryz.prog 54 #[.pointer (some ⟨p, 0, none⟩)] w (PPost p w n goal0 (ArmsR w.heap.size)) := by
    have hpl := h.lt
    have HFU := Lib.hid hfu
    clear hfu
    go_enter Tryz.func54, Tryz.ntmps54
    go_wp2_with fail
    refine (open_ok p t n w h h16).mono ?_
    rintro r w0 ⟨rfl, h0, hF0⟩
    have HF0 := Lib.hid hF0
    have H0 := Lib.hid h0
    have hs0 := hF0.size
    clear hF0 h0 h
    go_wp2
    go_loopg [3, 4] (t.length + 1) (fun k a m wr => ∃ tr r, Pa wr p tr (n + 1) ∧ FrP p w wr ∧ Own wr w.heap.size 114 2 a r ∧ armsOnly r ∧ r.len + tr.length ≤ t.length ∧
      ((m = .bool true ∧ tr.length < k ∧ goal0 = (pG num5 (tr.length + 1) false (n + 1) (keys r) tr).map fun q => (r.app q.1, q.2)) ∨ (m = .bool false ∧ tr.length + 1 ≤ t.length ∧ goal0 = gate r tr)))
    case atStart =>
      refine ⟨t, .nil, H0.out, HF0.out, Own.nil _ _ _ _, trivial, by simp [Row.len], .inl ⟨rfl, by omega, ?_⟩⟩
      rw [HFU.out]
      show _ = (pG num5 (t.length + 1) false (n + 1) [] t).map fun q => (q.1, q.2)
      cases pG num5 (t.length + 1) false (n + 1) [] t with
      | none => rfl
      | some q => rfl
    case round =>
      rename World => wq
      obtain ⟨tr, r, h1, hF1, hO, hA, hlen, hcase⟩ := hrel
      have HF1 := Lib.hid hF1
      have hs1 := hF1.size
      have H1 := Lib.hid h1
      have HO := Lib.hid hO
      have HA := Lib.hid hA
      clear hF1 hO hA h1
      rcases hcase with ⟨rfl, hk, hgl⟩ | ⟨rfl, hk, hgl⟩
      · have HG := Lib.hid hgl
        clear hgl
        go_wp2_with fail
        refine (arm_of N HR p tr (n + 1) tr.length wq H1.out (by omega) (by omega) (by omega) (by omega)).mono ?_
        rintro rr ws ⟨hF2, h2⟩
        have HF2 := Lib.hid hF2
        have hs2 := hF2.size
        clear hF2
        generalize hx : ar num5 tr.length (n + 1) tr = x at h2
        have HX := Lib.hid hx
        clear hx
        cases x with
        | none =>
          simp only at h2
          subst h2
          go_wp2
          refine ⟨rfl, PPost.none ?_ rfl (HF1.out.trans HF2.out)⟩
          rw [HG.out, pG_arms, HX.out]; rfl
        | some y =>
          obtain ⟨⟨k, i⟩, t3⟩ := y
          obtain ⟨v, rfl, ⟨u, rfl, hu⟩, h3⟩ := h2
          simp only at hu
          obtain ⟨so, sc, rfl⟩ := hu.slice
          have HU := Lib.hid hu
          have H3 := Lib.hid h3
          have h33 := ar_lt num5_short HX.out
          obtain ⟨zs, o1, o2, o3⟩ := HO.out
          have hrl := arms_len r HA.out
          have hcells := arms_cells r zs HA.out o2
          obtain ⟨ao, ac, rfl⟩ := HO.out.sl.slice
          have O1 := Lib.hid o1
          have O2 := Lib.hid o2
          have O3 := Lib.hid o3
          have HCS := Lib.hid hcells
          have HRL := Lib.hid hrl
          clear hu h3 hcells o1 o2 o3 hrl
          go_wp2
          have hwa1 := heap_alloc_new ws (.cells #[.int .i64 k, .slice so i.len sc] 114 (0, 0))
          have hwa2 : FrP p ws (ws.alloc (.cells #[.int .i64 k, .slice so i.len sc] 114 (0, 0))) := (FrP.refl p ws).alloc _
          have hwa3 : (ws.alloc (.cells #[.int .i64 k, .slice so i.len sc] 114 (0, 0))).heap.size = ws.heap.size + 1 := by simp
          have hwap0 : (ws.alloc (.cells #[.int .i64 k, .slice so i.len sc] 114 (0, 0))).heap[p]? = ws.heap[p]? := Below.heap_alloc _ _ _ (by omega)
          generalize ws.alloc (.cells #[.int .i64 k, .slice so i.len sc] 114 (0, 0)) = wa at *
          have HW1 := Lib.hid hwa1
          have HW2 := Lib.hid hwa2
          have HW3 := Lib.hid hwa3
          have hwap : wa.heap[p]? = ws.heap[p]? := hwap0 
          have HWP := Lib.hid hwap
          clear hwa1 hwa2 hwa3 hwap hwap0
          go_loopg [17] r.len (fun g x wi => ∃ j : Nat, j + g = r.len ∧ x = .int .i64 j ∧ Below wa.heap.size wa wi ∧ ∀ j' (hj : j' < (keys r).length), j' < j → (keys r)[j'] ≠ k ∧ (keys r)[j'] ≠ -1)
          case atStart => exact ⟨0, by omega, rfl, Below.refl _ _, fun j' hj h0 => by omega⟩
          case round =>
            obtain ⟨j, hj, rfl, hB, hne⟩ := hrel
            have hsw := HW3.out
            have hsB := hB.size
            have HB := Lib.hid hB
            have HNE := Lib.hid hne
            clear hB hne
            have hb5 : wr.heap[ws.heap.size]? = some (.cells #[.int .i64 k, .slice so i.len sc] 114 (0, 0)) := (HB.out.block _ (by omega)).trans HW1.out
            have d5 : wr.cell? ⟨ws.heap.size, 0, none⟩ = some (.int .i64 k) := by rw [cell_of_row wr _ 0 _ _ _ hb5]; rfl
            have d6 : wr.cell? ⟨ws.heap.size, 1, none⟩ = some (.slice so i.len sc) := by rw [cell_of_row wr _ 1 _ _ _ hb5]; rfl
            have hl5 : ws.heap.size < wr.heap.size := by omega
            have HB5 := Lib.hid hb5
            clear hb5
            by_cases hjl : j < r.len
            · have hjk : j < (keys r).length := by rw [← HRL.out]; omega
              obtain ⟨g, cap, hv, _, hgl⟩ := O1.out.form (by omega)
              have hao : ao = some ⟨g, 0, none⟩ := by injection hv
              subst hao
              clear hv
              have hgB : w.heap.size ≤ g := O3.out g rfl
              have hbl : wr.heap[g]? = wq.heap[g]? := (HB.out.block g (by omega)).trans ((HW2.out.block g (by omega) (by omega)).trans (HF2.out.block g (by omega) (by omega)))
              obtain ⟨e1, so1, l1, c1, e2⟩ := HCS.out j hjk
              have d1 : wr.cell? ⟨g, j * 2, none⟩ = some (.int .i64 (keys r)[j]) := (World.cell?_of_block hbl).trans ((O1.out.cellAt (j * 2) (by omega)).trans (by rw [Nat.mul_comm]; exact e1))
              have d2 : wr.cell? ⟨g, j * 2 + 1, none⟩ = some (.slice so1 l1 c1) := (World.cell?_of_block hbl).trans ((O1.out.cellAt (j * 2 + 1) (by omega)).trans (by rw [Nat.mul_comm]; exact e2))
              obtain ⟨kj, hkj⟩ : ∃ kj, kj = (keys r)[j] := ⟨_, rfl⟩
              rw [← hkj] at d1
              have HKJ := Lib.hid hkj
              have HBL := Lib.hid hbl
              clear hkj e1 e2 hbl
              have hbad : ∀ wx, FrP p wr wx → (kj = k ∨ kj = -1) → PPost p w n goal0 (ArmsR w.heap.size) (Bad 1) wx := by
                intro wx hx hor
                refine PPost.none ?_ rfl (((HF1.out.trans HF2.out).trans HW2.out).trans ((FrP.of_below HB.out).trans hx))
                have hmem : kj ∈ keys r := by rw [HKJ.out]; exact List.getElem_mem _
                rw [HG.out, pG_arms, HX.out]
                simp only
                rw [if_pos (by rcases hor with e | e; exact Or.inl (e ▸ hmem); exact Or.inr (e ▸ hmem))]
                rfl
              have HBAD := Lib.hid hbad
              clear hbad
              by_cases hk1 : kj = k
              · subst hk1
                go_wp2_with fail
                refine (refuse_any 1 _).mono ?_
                rintro r w' ⟨rfl, rfl⟩
                go_wp2
                exact ⟨rfl, HBAD.out _ ((FrP.refl p wr).alloc _) (by simp)⟩
              · by_cases hk2 : kj = -1
                · subst hk2
                  go_wp2_with fail
                  refine (refuse_any 1 _).mono ?_
                  rintro r w' ⟨rfl, rfl⟩
                  go_wp2
                  exact ⟨rfl, HBAD.out _ ((FrP.refl p wr).alloc _) (by simp)⟩
                · have hb1 : (kj == k) = false := by simp [hk1]
                  have hb2 : (kj == -1) = false := by simp [hk2]
                  go_wp2
                  go_roundg (r.len - (j + 1))
                  case measure => omega
                  case rel =>
                    refine ⟨j + 1, by omega, by go_num, HB.out.alloc hsB _, fun j' hj' hlt => ?_⟩
                    rcases Nat.lt_or_ge j' j with e | e
                    · exact HNE.out j' hj' e
                    · have e2 : j' = j := by omega
                      subst e2
                      exact ⟨by rw [← HKJ.out]; exact hk1, by rw [← HKJ.out]; exact hk2⟩
            · obtain ⟨i0, hi, hz0, hz1, hz2⟩ := info_parts info94
              have hown : wr.ownsRow 0 114 2 (.slice ao r.len ac) r.len zs := owns_kept O1.out fun q hq hl => (HB.out.block q (by omega)).trans ((HW2.out.block q (by omega) (by have := O3.out q hq; omega)).trans (HF2.out.block q hl (by have := O3.out q hq; omega)))
              go_wp2_with (at_builtin; refine wpList_append_lies _ rfl (.tmp 33) (.tmp 35) 90 rfl 0 114 i0 _ 2 32 Tryz.underlying90 hi hz0 hz1 hz2 rfl (by omega) (.slice ao r.len ac) _ _ rfl (hown.alloc _) ⟨wr.heap.size, 0, none⟩ 1 1 [.int .i64 k, .slice so i.len sc] rfl rfl (World.news_of_block (cs := #[.int .i64 k, .slice so i.len sc]) (t := 114) (fr := (0, 0)) (heap_alloc_new wr _)) (by simp [Value.oneCell']) (by omega) (by unfold maxLen; omega) (by omega) (by simp) (wr.heap.size + 1) (by simp) ?_; intro g cap w1 hown1 hgrow hat hglt; have HO1 := Lib.hid hown1; have HGR := Lib.hid hgrow; have HAT := Lib.hid hat; clear hown1 hgrow hat)
              have hpush : Own w1 w.heap.size 114 2 (.slice (some ⟨g, 0, none⟩) (r.len + 1) cap) (r.app (.arm k i .nil)) := by
                refine Own.push (p := p) (wr := wq) (ws := ws) (wb := wr.alloc (.cells #[.int .i64 k, .slice so i.len sc] 114 (0, 0))) O1.out O2.out O3.out hpl hs1 HF2.out ?_ ((HW2.out.trans (FrP.of_below HB.out)).alloc _) HGR.out (by simpa using HAT.out) (by rw [len_app]; rfl) HO1.out
                obtain ⟨us, u1, u2, u3⟩ := HU.out
                exact ⟨_, us, [], rfl, ⟨u1, u2, u3⟩, rfl⟩
              have hfr : FrP p w w1 := ((((HF1.out.trans HF2.out).trans HW2.out).trans (FrP.of_below HB.out)).alloc _).grown HGR.out O3.out
              have hpa : Pa w1 p t3 (n + 1) := by
                refine H3.out.kept ?_
                have hpo : some p ≠ Value.ownBlock (.slice ao r.len ac) := fun e => by have := O3.out p e.symm; omega
                have hps : p < ws.heap.size := by omega
                refine (HGR.out.block p (by simp; omega) hpo).trans ((Below.heap_alloc _ _ _ (by omega)).trans ((HB.out.block p (by omega)).trans ?_))
                exact (HWP.out)
              have hnot : ¬ (k ∈ keys r ∨ (-1 : Int) ∈ keys r) := by
                have hrl := HRL.out
                rintro (e | e)
                · obtain ⟨j', hj', e2⟩ := List.getElem_of_mem e
                  exact (HNE.out j' hj' (by omega)).1 e2
                · obtain ⟨j', hj', e2⟩ := List.getElem_of_mem e
                  exact (HNE.out j' hj' (by omega)).2 e2
              have hgoal : goal0 = (shut num5 tr.length (n + 1) (keys r) k i t3).map fun q => (r.app q.1, q.2) := by
                rw [HG.out, pG_arms, HX.out]
                simp only
                rw [if_neg hnot]
              obtain ⟨ha1, ha2⟩ := arms_app k i r HA.out
              have HPU := Lib.hid hpush
              have HFR := Lib.hid hfr
              have HGO := Lib.hid hgoal
              have HA1 := Lib.hid ha1
              have HA2 := Lib.hid ha2
              have hrl2 : (r.app (.arm k i .nil)).len = r.len + 1 := by rw [len_app]; rfl
              have HR2 := Lib.hid hrl2
              clear hpush hfr hnot hgoal ha1 ha2 hown hrl2
              by_cases hh : t3.head? = some 44
              · obtain ⟨t4, rfl⟩ : ∃ t4, t3 = 44 :: t4 := by
                  cases t3 with
                  | nil => simp at hh
                  | cons a b => simp at hh; exact ⟨b, by rw [hh]⟩
                simp only [List.length_cons] at h33
                refine (has_yes p 44 t4 (n + 1) w1 hpa (by omega)).mono ?_
                rintro rr w2 ⟨rfl, h5, hF5⟩
                have HF5 := Lib.hid hF5
                have H5 := Lib.hid h5
                clear hF5 h5 hh hpa
                go_wp2
                go_roundg (t4.length + 1)
                case measure => omega
                case rel =>
                  refine ⟨t4, r.app (.arm k i .nil), H5.out, HFR.out.trans HF5.out, HPU.out.kept hpl HF5.out, HA1.out, by have := HR2.out; omega, .inl ⟨rfl, by omega, ?_⟩⟩
                  rw [HGO.out, HA2.out]
                  simp only [shut, if_true]
                  rw [pG_fuel num5_short tr.length (t4.length + 1) false (n + 1) (keys r ++ [k]) t4 (by omega) (by omega)]
                  cases pG num5 (t4.length + 1) false (n + 1) (keys r ++ [k]) t4 with
                  | none => rfl
                  | some q => simp only [Option.map_some, Row.app_assoc]; rfl
              · refine (has_no p 44 t3 (n + 1) w1 hpa (by omega) hh).mono ?_
                rintro rr w2 ⟨rfl, h5, hF5⟩
                have HF5 := Lib.hid hF5
                have H5 := Lib.hid h5
                have HH := Lib.hid hh
                clear hF5 h5 hh hpa
                go_wp2
                go_roundg 0
                case measure => omega
                case rel =>
                  refine ⟨t3, r.app (.arm k i .nil), H5.out, HFR.out.trans HF5.out, HPU.out.kept hpl HF5.out, HA1.out, by have := HR2.out; omega, .inr ⟨rfl, by omega, ?_⟩⟩
                  rw [HGO.out]
                  have hh := HH.out
                  cases t3 with
                  | nil => rfl
                  | cons d t5 =>
                    have hd : d ≠ 44 := by simpa using hh
                    simp only [shut, if_neg hd, gate]
                    by_cases h62 : d = 62
                    · simp [h62]
                    · simp [h62]
      · have HG := Lib.hid hgl
        clear hgl
        go_wp2_with fail
        by_cases hh : tr.head? = some 62
        · obtain ⟨t4, rfl⟩ : ∃ t4, tr = 62 :: t4 := by
            cases tr with
            | nil => simp at hh
            | cons a b => simp at hh; exact ⟨b, by rw [hh]⟩
          simp only [List.length_cons] at hk hlen
          refine (want_yes p 62 t4 (n + 1) wq H1.out (by omega)).mono ?_
          rintro rr w4 ⟨rfl, h5, hF4⟩
          have HF4 := Lib.hid hF4
          clear hF4
          obtain ⟨c0, c1, f0, f1⟩ := h5.cells
          have H5 := Lib.hid h5
          clear h5 hh
          obtain ⟨ao, ac, rfl⟩ := HO.out.sl.slice
          go_wp2
          have hend : ∀ u, u = Value.int .i64 ((n : Nat) : Int) → PPost p w n goal0 (ArmsR w.heap.size) (.returned (.slice ao r.len ac)) (w4.setCell ⟨p, 1, none⟩ u) := by
            rintro u rfl
            refine PPost.some (a := r) (t' := t4) (by rw [HG.out]; simp [gate]) rfl ?_ (H5.out.set1 n) ((HF1.out.trans HF4.out).set 1 _)
            exact (HO.out.kept hpl (HF4.out.set 1 _)).sl
          have HE := Lib.hid hend
          clear hend
          go_ret
          exact HE.out _ (by first | rfl | (congr 1; omega))
        · refine (want_no p 62 tr (n + 1) wq H1.out (by omega) hh).mono ?_
          rintro rr w4 ⟨rfl, hF4⟩
          have HF4 := Lib.hid hF4
          have HH := Lib.hid hh
          clear hF4 hh
          go_wp2
          refine ⟨rfl, PPost.none ?_ rfl (HF1.out.trans HF4.out)⟩
          have hh := HH.out
          rw [HG.out]
          cases tr with
          | nil => rfl
          | cons a b => simp at hh; simp [gate, hh]
end Go.Proofs.YtjogcdkebplcpaaGreatDoor
