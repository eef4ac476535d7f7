/-
  A row of signs. No condition but the form's length.
-/
import Derived.Test.YtjogcdkebplcpaaGreatDoorSg
namespace Go.Proofs.YtjogcdkebplcpaaGreatDoor
open Go.RowKit Sch

theorem isSign_cases {c : UInt8} (h : isSign c = true) : c = 117 ∨ c = 113 ∨ c = 98 ∨ c = 111 ∨ c = 102 ∨ c = 63 ∨ c = 42 ∨ c = 60 := by
  unfold isSign isOne isNum isOpt at h
  simp only [Bool.or_eq_true, beq_iff_eq, or_assoc] at h
  exact h
theorem sign_any (N : Nat) (HR : RowC N) (p : Nat) (c : UInt8) (t1 : List UInt8) (n f : Nat) (w : World) (h : Pa w p (c :: t1) n) (ht : t1.length + 1 ≤ 1000) (hN : t1.length ≤ N + 1) (hn : n ≤ 16) (hf : t1.length < f) (hc : isSign c = true) :
    Calls Tryz.prog 46 #[.pointer (some ⟨p, 0, none⟩)] w (PPost p w n (sg num5 f n c t1) (SignR w.heap.size)) := by
  rcases isSign_cases hc with rfl | rfl | rfl | rfl | rfl | rfl | rfl | rfl
  · exact sign_117 p t1 n f w h ht
  · exact sign_113 p t1 n f w h ht
  · exact sign_98 p t1 n f w h ht
  · exact sign_111 p t1 n f w h ht
  · exact sign_102 p t1 n f w h ht
  · exact sign_63 N HR p t1 n f w h ht hN hn (by omega)
  · exact sign_42 N HR p t1 n f w h ht hN hn (by omega)
  · exact sign_60 N HR p t1 n f w h ht (by omega) hn hf
theorem bk_lt {f n : Nat} {t1 : List UInt8} {i : Row} {t3 : List UInt8} (h : bk num5 f n t1 = some (i, t3)) : t3.length ≤ t1.length := by
  unfold bk at h
  cases t1 with
  | nil => cases h
  | cons d t2 =>
    simp only at h
    split at h
    · cases h
    · split at h
      · rename_i hp
        split at h
        · cases h
        · have h2 := pG_le num5_short _ _ _ _ _ _ _ hp
          simp only [Option.some.injEq, Prod.mk.injEq] at h
          obtain ⟨rfl, rfl⟩ := h
          simp only [List.length_cons] at h2 ⊢
          omega
      · cases h
theorem sg_le {f n : Nat} {c : UInt8} {t1 : List UInt8} {x : Row} {t2 : List UInt8} (h : sg num5 f n c t1 = some (x, t2)) : t2.length ≤ t1.length := by
  unfold sg at h
  split at h
  · simp only [Option.some.injEq, Prod.mk.injEq] at h; rw [h.2]; exact Nat.le_refl _
  · split at h
    · cases hq : num5 t1 with
      | none => rw [hq] at h; cases h
      | some q =>
        obtain ⟨k, t3⟩ := q
        rw [hq] at h
        simp only [Option.map_some, Option.some.injEq, Prod.mk.injEq] at h
        have := num5_lt hq
        rw [← h.2]; omega
    · split at h
      · cases hq : bk num5 f n t1 with
        | none => rw [hq] at h; cases h
        | some q =>
          obtain ⟨i, t3⟩ := q
          rw [hq] at h
          simp only at h
          split at h
          · cases h
          · simp only [Option.some.injEq, Prod.mk.injEq] at h
            rw [← h.2]; exact bk_lt hq
      · split at h
        · split at h
          · cases h
          · cases hq : pG num5 f false (n + 1) [] t1 with
            | none => rw [hq] at h; cases h
            | some q =>
              obtain ⟨i, t3⟩ := q
              rw [hq] at h
              simp only [Option.map_some, Option.some.injEq, Prod.mk.injEq] at h
              rw [← h.2]; exact pG_le num5_short _ _ _ _ _ _ _ hq
        · cases h
theorem pG_row2 (num : NumP) (f n : Nat) (seen : List Int) (c : UInt8) (t1 : List UInt8) (hc : isSign c = true) :
    pG num (f + 1) true n seen (c :: t1) = (sg num f n c t1).bind fun y => (pG num f true n [] y.2).map fun q => (y.1.app q.1, q.2) := by
  rw [pG_row, if_pos hc]; cases sg num f n c t1 <;> rfl
theorem info80 : (Tryz.prog.info? 92).map (fun i => (i.zero, i.size, i.bytes)) = some (some (.agg #[.int .u8 0, .int .i64 0, nilS, nilS]), 4, 64) := by kernel_rfl

set_option maxRecDepth 100000 in
set_option maxHeartbeats 1000000 in
theorem row_of (N : Nat) (HR : 0 < N → RowC (N - 1)) : RowC N := by
  intro p t n w h hN ht hn
  have hpl := h.lt
  obtain ⟨goal0, hgl⟩ : ∃ goal0, goal0 = pG num5 (t.length + 1) true n [] t := ⟨_, rfl⟩
  rw [← hgl]
  have HGL := Lib.hid hgl
  have H := Lib.hid h
  clear hgl h
  go_enter Tryz.func22, Tryz.ntmps22
  go_wp2
  go_loopg [3] (t.length + 1) (fun k a wr => ∃ tr r, Pa wr p tr n ∧ FrP p w wr ∧ Own wr w.heap.size 92 4 a r ∧ r.len + tr.length ≤ t.length ∧ tr.length < k ∧
      goal0 = (pG num5 (tr.length + 1) true n [] tr).map fun q => (r.app q.1, q.2))
  case atStart =>
    refine ⟨t, .nil, H.out, FrP.refl _ _, Own.nil _ _ _ _, by simp [Row.len], by omega, ?_⟩
    rw [HGL.out]
    cases pG num5 (t.length + 1) true n [] t <;> rfl
  case round =>
    rename World => wq
    obtain ⟨tr, r, h1, hF1, hO, hlen, hk, hgl⟩ := hrel
    have hs1 := hF1.size
    have HF1 := Lib.hid hF1
    have HO := Lib.hid hO
    have H1 := Lib.hid h1
    have HG := Lib.hid hgl
    obtain ⟨c0, c1, f0, f1⟩ := h1.cells
    clear hF1 hO h1 hgl
    cases tr with
    | nil =>
      go_wp2
      go_ret
      refine PPost.some (a := r) (t' := []) ?_ rfl HO.out.sl H1.out HF1.out
      rw [HG.out]
      simp [pG, Row.app_nil]
    | cons c t1 =>
      obtain ⟨S, hS⟩ : ∃ S : ByteArray, S = ⟨(c :: t1).toArray⟩ := ⟨_, rfl⟩
      have hsz : S.size = t1.length + 1 := by rw [hS]; show (c :: t1).toArray.size = _; simp
      have hpos : 0 < S.size := by omega
      have hat : S[0] = c := by subst hS; rfl
      have hne : ¬ S.toList = [] := by rw [hS, ByteArray.toList_eq]; simp
      have hem : S.toList.isEmpty = false := by simp [hne]
      simp only [List.length_cons] at hlen hk
      rw [← hS] at c0
      have HS := Lib.hid hS
      have HSZ := Lib.hid hsz
      clear hS hsz
      go_wp2_with fail
      refine (sign_at c wq).mono ?_
      rintro rr w' ⟨⟨k, hk1, hk2, rfl⟩, rfl⟩
      by_cases hc : isSign c = true
      · have hk0 : 0 ≤ k := by rw [hc] at hk2; exact of_decide_eq_true hk2
        obtain ⟨u3o, u3c, rfl⟩ := HO.out.sl.slice
        obtain ⟨zs, o1, o2, o3⟩ := HO.out
        have O1 := Lib.hid o1
        have O2 := Lib.hid o2
        have O3 := Lib.hid o3
        clear hk2 o1 o2 o3
        go_wp2_with fail
        refine (sign_any (N - 1) (HR (by omega)) p c t1 n (t1.length + 1) wq H1.out (by omega) (by omega) hn (by omega) hc).mono ?_
        rintro rr ws ⟨hF2, h2⟩
        have HF2 := Lib.hid hF2
        have hs2 := hF2.size
        clear hF2
        have hg2 := HG.out
        rw [List.length_cons, pG_row2 num5 _ _ _ _ _ hc] at hg2
        have HG2 := Lib.hid hg2
        clear hg2
        generalize hx : sg num5 (t1.length + 1) n c t1 = x at h2
        have HX := Lib.hid hx
        clear hx
        cases x with
        | none =>
          simp only at h2
          subst h2
          go_wp2
          refine ⟨rfl, PPost.none ?_ rfl (HF1.out.trans HF2.out)⟩
          rw [HG2.out, HX.out]; rfl
        | some y =>
          obtain ⟨x, t2⟩ := y
          obtain ⟨v, rfl, hv, h3⟩ := h2
          have hl2 := sg_le HX.out
          obtain ⟨cc, m, p1, l1, q1, p2, l2, q2, rfl, hxl, hcl⟩ := hv
          have H3 := Lib.hid h3
          have HCL := Lib.hid hcl
          have HXL := Lib.hid hxl
          clear h3 hcl hxl
          obtain ⟨i0, hi, hz0, hz1, hz2⟩ := info_parts info80
          have hown : ws.ownsRow 0 92 4 (.slice u3o r.len u3c) r.len zs := owns_kept O1.out fun q hq hl => HF2.out.block q hl (by have := O3.out q hq; omega)
          go_wp2_with (at_builtin; refine wpList_append_lies _ rfl (.tmp 18) (.tmp 21) 41 rfl 0 92 i0 _ 4 64 Tryz.underlying41 hi hz0 hz1 hz2 rfl (by omega) (.slice u3o r.len u3c) _ _ rfl (hown.alloc _) ⟨ws.heap.size, 0, none⟩ 1 1 [.int .u8 cc, .int .i64 m, .slice p1 l1 q1, .slice p2 l2 q2] rfl rfl (World.news_of_block (cs := #[.int .u8 cc, .int .i64 m, .slice p1 l1 q1, .slice p2 l2 q2]) (t := 92) (fr := (0, 0)) (heap_alloc_new ws _)) (by simp [Value.oneCell']) (by omega) (by unfold maxLen; omega) (by omega) (by simp) (ws.heap.size + 1) (by simp) ?_; intro g cap w1 hown1 hgrow hat hglt; have HO1 := Lib.hid hown1; have HGR := Lib.hid hgrow; have HAT := Lib.hid hat; clear hown1 hgrow hat)
          have hpush : Own w1 w.heap.size 92 4 (.slice (some ⟨g, 0, none⟩) (r.len + 1) cap) (r.app x) :=
            Own.push (p := p) (wr := wq) (ws := ws) (wb := ws.alloc (.cells #[.int .u8 cc, .int .i64 m, .slice p1 l1 q1, .slice p2 l2 q2] 92 (0, 0))) O1.out O2.out O3.out hpl hs1 HF2.out HCL.out ((FrP.refl p ws).alloc _) HGR.out (by simpa using HAT.out) (by rw [len_app, HXL.out]) HO1.out
          have hfr : FrP p w w1 := ((HF1.out.trans HF2.out).alloc _).grown HGR.out O3.out
          have hpa : Pa w1 p t2 n := by
            refine H3.out.kept ?_
            have hpo : some p ≠ Value.ownBlock (.slice u3o r.len u3c) := fun e => by have := O3.out p e.symm; omega
            exact (HGR.out.block p (by simp; omega) hpo).trans (Below.heap_alloc _ _ _ (by omega))
          go_roundg (t2.length + 1)
          case measure => omega
          case rel =>
            refine ⟨t2, r.app x, hpa, hfr, hpush, by rw [len_app, HXL.out]; omega, by omega, ?_⟩
            rw [HG2.out, HX.out]
            show ((pG num5 (t1.length + 1) true n [] t2).map fun q => (x.app q.1, q.2)).map _ = _
            rw [pG_fuel num5_short (t1.length + 1) (t2.length + 1) true n [] t2 (by omega) (by omega)]
            cases pG num5 (t2.length + 1) true n [] t2 with
            | none => rfl
            | some q => simp only [Option.map_some, Row.app_assoc]
      · have hc' : isSign c = false := by simpa using hc
        have hk0 : k < 0 := by rw [hc'] at hk2; have := of_decide_eq_false hk2; omega
        clear hk2
        go_wp2
        go_ret
        refine PPost.some (a := r) (t' := c :: t1) ?_ rfl HO.out.sl H1.out HF1.out
        rw [HG.out, List.length_cons, pG_row, if_neg hc]
        simp [Row.app_nil]

theorem row_any : ∀ N, RowC N
  | 0 => row_of 0 fun h => absurd h (by omega)
  | N + 1 => row_of (N + 1) fun _ => row_any N
end Go.Proofs.YtjogcdkebplcpaaGreatDoor
