/-
  The document's Decode answers as the program's. No condition.
-/
import Derived.Test.YtjogcdkebplcpaaGreatDoorDt
import Derived.Test.YtjogcdkebplcpaaGreatDoorDe
namespace Go.Proofs.YtjogcdkebplcpaaGreatDoor
open Go.RowKit Sch

theorem take_all (F : List UInt8) (hF : F.length ≤ 1000) : ∀ M, DtC F M
  | 0 => take_of F hF 0 (fun h => absurd h (by omega))
  | M + 1 => take_of F hF (M + 1) (fun _ => take_all F hF M)
theorem two_res {P : Program} {fn : Func} {p e : Tmp} {ty : TypeId} (h : fn.results = #[.cell p ty, .tmp e]) (tmps : Array Value) (w : World) (g : Nat) (t : TypeId) (cs : Array Value) (fr : Nat × Nat) (d : TypeDesc)
    (hp : tmps.getD p undef = .pointer (some ⟨g, 0, none⟩)) (hg : w.heap[g]? = some (.cells cs t fr))
    (hu : P.underlying ty = some d) (hd : (match d with | .struct _ | .array _ _ => true | _ => false) = true) (hi : (P.info? ty).map (·.size) = some cs.size) :
    (results fn tmps).run P w = .ok (.tuple #[.agg cs, tmps.getD e undef]) w := by
  have hp' : tmps[p]?.getD undef = .pointer (some ⟨g, 0, none⟩) := by simpa using hp
  simp [results, h, hp', asAddr, run_loadVar_row w g t ty cs fr d hg hu hd hi]
theorem form_row {F : List UInt8} {r : Row} (h : form num6 F = some r) : F.length ≤ 1000 ∧ Pn 0 F = some (r, []) := by
  unfold form at h
  split at h
  · cases h
  · rename_i hl
    refine ⟨by omega, ?_⟩
    unfold Pn
    split at h
    · rename_i r' he
      simp only [Option.some.injEq] at h
      subst h
      exact he
    · cases h
theorem DS.start (w : World) (B0 p q : Nat) (R : ByteArray) (hB : B0 ≤ p) (hq : B0 ≤ q) (hs : R.size ≤ 140737488355328) (h1 : w.heap[p]? = some (.cells #[nilS, nilS] 30 (0, 0))) (h2 : w.heap[q]? = some (.cells #[.string R, .int .i64 0, .int .i64 0] 48 (0, 0))) : DS B0 p q R [] [] R.data.toList 0 w :=
  ⟨⟨nilS, nilS, h1, ⟨rfl, .inl ⟨rfl, rfl⟩⟩, ⟨rfl, .inl ⟨rfl, rfl⟩⟩, hB⟩, ⟨0, ⟨h2, Nat.zero_le _, hs, fun h => absurd rfl h⟩, by rw [List.drop_zero]⟩, hq⟩

theorem res_cells {w : World} {a : Nat} {x y : Value} (h : w.heap[a]? = some (.cells #[x, y] 30 (0, 0))) : w.cell? ⟨a, 0, none⟩ = some x ∧ w.cell? ⟨a, 1, none⟩ = some y ∧ w.frozen? ⟨a, 0, none⟩ = false ∧ w.frozen? ⟨a, 1, none⟩ = false := by
  refine ⟨?_, ?_, Lib.frozen_of_heap h _, Lib.frozen_of_heap h _⟩ <;> (rw [cell_of_row w a _ _ _ _ h]; rfl)
theorem res_set {w : World} {a B : Nat} {x y : Value} (h : w.heap[a]? = some (.cells #[x, y] 30 (0, 0))) (hB : B ≤ a) (u v : Value) : ((w.setCell ⟨a, 0, none⟩ u).setCell ⟨a, 1, none⟩ v).heap[a]? = some (.cells #[u, v] 30 (0, 0)) ∧ Below B w ((w.setCell ⟨a, 0, none⟩ u).setCell ⟨a, 1, none⟩ v) :=
  ⟨by simp [World.setCell, Array.getElem?_modify, h], ((Below.refl B w).setCell (p := ⟨a, 0, none⟩) hB u).setCell (p := ⟨a, 1, none⟩) hB v⟩
theorem below_drewN (B : Nat) (w : World) (n : Nat) : Below B w (w.drewN n) := ⟨rfl, rfl, rfl, Nat.le_refl _, fun _ _ => rfl⟩
theorem ownsB_low {w : World} {B B' e sz : Nat} {v : Value} {n : Nat} {xs : List Value} (h : w.ownsRow B e sz v n xs) (hB : B' ≤ B) : w.ownsRow B' e sz v n xs := by
  refine ⟨h.1, ?_⟩
  rcases h.2 with e | ⟨g, cap, cur, e, hg, r⟩
  · exact .inl e
  · exact .inr ⟨g, cap, cur, e, Nat.le_trans hB hg, r⟩
set_option maxRecDepth 100000 in
set_option maxHeartbeats 4000000 in
theorem refdec_any (F : List UInt8) (s : ByteArray) (w : World) (x : Except Int (List Int × List ByteArray)) (hx : decO F s = x) : Calls Tryz.prog 7 #[.string ⟨F.toArray⟩, .string s] w (DeTo w x) := by
  have hck := fun w => refCheck_any ⟨F.toArray⟩ w
  have hdt : (⟨F.toArray⟩ : ByteArray).data.toList = F := by simp
  rw [hdt] at hck
  obtain ⟨S, hS⟩ : ∃ S : ByteArray, S = ⟨F.toArray⟩ := ⟨_, rfl⟩
  have htk : ∀ (r : Row), form num6 F = some r → ∀ (B0 p q : Nat) (w : World), DS B0 p q s [] [] s.data.toList 0 w → s.size ≤ 65536 →
      Calls Tryz.prog 17 #[.string S, .int .i64 0, .pointer (some ⟨q, 0, none⟩), .pointer (some ⟨p, 0, none⟩)] w fun e w' => e = .returned (.int .i64 ((F.length - ([] : List UInt8).length : Nat) : Int)) ∧ Below B0 w w' ∧ Out B0 p q s [] [] (tk none r s.data.toList) w' := by
    intro r hr B0 p q w hd hs
    rw [hS]
    obtain ⟨h1, h2⟩ := form_row hr
    have h3 := (wf_form (by rw [← form_56]; exact hr)).2
    have hl := X.dat_len s
    have h4 : r.sz * (s.data.toList.length / 4 + 1) ≤ 1000 * 16385 := Nat.mul_le_mul h3 (by omega)
    exact take_all F h1 F.length 0 0 r [] (Nat.zero_le _) (by omega) h2 B0 p q s [] [] s.data.toList w hd (by omega) (by simp only [List.length_nil]; omega)
  rw [← hS]
  rw [← hS] at hck
  unfold decO at hx
  rw [← form_56] at hx
  have HCK := Lib.hid hck
  have HTK := Lib.hid htk
  clear hck htk hS hdt
  cases hf : form num6 F with
  | none =>
    rw [hf] at hx HCK
    simp only at hx
    subst hx
    go_enter Tryz.func7, Tryz.ntmps7
    go_wp2_with fail
    refine (HCK.out _).mono ?_
    rintro e w1 ⟨rfl, hB1⟩
    have hg := (hB1.block w.heap.size (by simp)).trans (heap_alloc_new w (.cells #[nilS, nilS] 30))
    have HB1 := Lib.hid (((Below.refl w.heap.size w).alloc (Nat.le_refl _) (.cells #[nilS, nilS] 30)).trans (hB1.mono (by simp)))
    obtain ⟨c0, c1, f0, f1⟩ := res_cells hg
    have HG := Lib.hid hg
    clear hB1 hg
    simp only [Option.isSome_none]
    go_wp2
    obtain ⟨hs2, hb2⟩ := res_set HG.out (B := w.heap.size) (Nat.le_refl _) nilS nilS
    (try simp only [Exit.inBlock, Exit.then])
    refine bodyPost_ret (two_res rfl _ _ w.heap.size 30 #[nilS, nilS] (0, 0) _ rfl hs2 Tryz.underlying30 rfl (by kernel_rfl)) rfl ?_
    exact ⟨HB1.out.trans hb2, rfl⟩
  | some r =>
    rw [hf] at hx HCK
    simp only at hx
    have HF := Lib.hid hf
    clear hf
    by_cases hsz : 65536 < s.size
    · rw [if_pos hsz] at hx
      subst hx
      go_enter Tryz.func7, Tryz.ntmps7
      go_wp2_with fail
      refine (HCK.out _).mono ?_
      rintro e w1 ⟨rfl, hB1⟩
      have hg := (hB1.block w.heap.size (by simp)).trans (heap_alloc_new w (.cells #[nilS, nilS] 30))
      have HB1 := Lib.hid (((Below.refl w.heap.size w).alloc (Nat.le_refl _) (.cells #[nilS, nilS] 30)).trans (hB1.mono (by simp)))
      obtain ⟨c0, c1, f0, f1⟩ := res_cells hg
      have HG := Lib.hid hg
      clear hB1 hg HTK HF
      simp only [Option.isSome_some]
      go_wp2
      obtain ⟨hs2, hb2⟩ := res_set HG.out (B := w.heap.size) (Nat.le_refl _) nilS nilS
      (try simp only [Exit.inBlock, Exit.then])
      refine bodyPost_ret (two_res rfl _ _ w.heap.size 30 #[nilS, nilS] (0, 0) _ rfl hs2 Tryz.underlying30 rfl (by kernel_rfl)) rfl ?_
      exact ⟨HB1.out.trans hb2, rfl⟩
    · rw [if_neg hsz] at hx
      have HX := Lib.hid hx
      clear hx
      go_enter Tryz.func7, Tryz.ntmps7
      go_wp2_with fail
      refine (HCK.out _).mono ?_
      rintro e w1 ⟨rfl, hB1⟩
      have hg := (hB1.block w.heap.size (by simp)).trans (heap_alloc_new w (.cells #[nilS, nilS] 30))
      have HB1 := Lib.hid (((Below.refl w.heap.size w).alloc (Nat.le_refl _) (.cells #[nilS, nilS] 30)).trans (hB1.mono (by simp)))
      have HG := Lib.hid hg
      have hw1 : w.heap.size < w1.heap.size := by have := hB1.size; simp at this; omega
      clear hB1 hg HCK
      simp only [Option.isSome_some]
      go_wp2_with fail
      have hd := DS.start ((w1.alloc (.cells #[nilS, nilS] 30)).alloc (.cells #[.string s, .int .i64 0, .int .i64 0] 48)) w1.heap.size w1.heap.size (w1.heap.size + 1) s (Nat.le_refl _) (by omega) (by omega) ((Below.heap_alloc _ _ _ (by simp)).trans (heap_alloc_new w1 _)) (by
        have h := heap_alloc_new (w1.alloc (.cells #[nilS, nilS] 30)) (.cells #[.string s, .int .i64 0, .int .i64 0] 48)
        simpa using h)
      have hb2 : Below w1.heap.size w1 ((w1.alloc (.cells #[nilS, nilS] 30)).alloc (.cells #[.string s, .int .i64 0, .int .i64 0] 48)) := ((Below.refl _ _).alloc (Nat.le_refl _) _).alloc (by simp) _
      unfold nilS at hd hb2
      generalize (w1.alloc (.cells #[.slice none 0 0, .slice none 0 0] 30)).alloc (.cells #[.string s, .int .i64 0, .int .i64 0] 48) = w2 at *
      have hw2 : w1.heap.size ≤ w2.heap.size := hb2.size
      refine (HTK.out r HF.out w1.heap.size w1.heap.size (w1.heap.size + 1) w2 hd (by omega)).mono ?_
      rintro e w3 ⟨rfl, hb3, hout⟩
      have hkeep3 : w3.heap[w.heap.size]? = some (.cells #[nilS, nilS] 30 (0, 0)) := (hb3.block _ hw1).trans ((hb2.block _ hw1).trans HG.out)
      have HB3 := Lib.hid (HB1.out.trans ((hb2.trans hb3).mono (by omega)))
      have hq3 : w1.heap.size + 1 < w3.heap.size := by have := rl_lt hd.2.1; have := hb3.size; omega
      have hx2 : x = takenO r s.data.toList := HX.out.symm
      unfold takenO at hx2
      clear hd hb2 hb3 HG HTK HF HX HB1
      cases hy : tk none r s.data.toList with
      | error e =>
        rw [hy] at hout hx2
        simp only at hx2
        obtain ⟨he, N', T', l', hds⟩ := hout
        have HX2 := Lib.hid hx2
        have HDS := Lib.hid hds
        have HKE := Lib.hid hkeep3
        clear hy hx2 hds hkeep3
        go_wp2_with fail
        refine (X.refEnd_any (w1.heap.size + 1) s l' e w3 HDS.out.2.1).mono ?_
        rintro e4 w4 ⟨rfl, nd, rfl⟩
        have hen : X.endR l' e = e := if_neg he
        rw [hen]
        have he' : (e != 0) = true := by rw [bne_iff_ne]; exact he
        have hkeep : (w3.drewN nd).heap[w.heap.size]? = some (.cells #[nilS, nilS] 30 (0, 0)) := HKE.out
        have HB3' := Lib.hid (HB3.out.trans (below_drewN w.heap.size w3 nd))
        clear hen HDS HKE HB3
        generalize w3.drewN nd = w4 at *
        have hg4 := hkeep
        obtain ⟨c0, c1, f0, f1⟩ := res_cells hg4
        have HG := Lib.hid hg4
        clear hg4 hkeep
        go_wp2
        obtain ⟨hs2, hb2⟩ := res_set HG.out (B := w.heap.size) (Nat.le_refl _) nilS nilS
        (try simp only [Exit.inBlock, Exit.then])
        refine bodyPost_ret (two_res rfl _ _ w.heap.size 30 #[nilS, nilS] (0, 0) _ rfl hs2 Tryz.underlying30 rfl (by kernel_rfl)) rfl ?_
        rw [HX2.out]
        exact ⟨HB3'.out.trans hb2, rfl⟩
      | ok z =>
        obtain ⟨n, t2, l'⟩ := z
        rw [hy] at hout hx2
        simp only at hx2
        have hds : DS w1.heap.size w1.heap.size (w1.heap.size + 1) s n t2 l' 0 w3 := by have h : DS _ _ _ _ ([] ++ n) ([] ++ t2) _ _ _ := hout; simpa using h
        have HDS := Lib.hid hds
        have HKE := Lib.hid hkeep3
        by_cases hl : l' = []
        · subst hl
          rw [if_pos rfl] at hx2
          have HX2 := Lib.hid hx2
          clear hy hx2 hds hkeep3 hout
          go_wp2_with fail
          refine (X.refEnd_any (w1.heap.size + 1) s [] 0 w3 HDS.out.2.1).mono ?_
          rintro e4 w4 ⟨rfl, nd, rfl⟩
          have hen : X.endR [] 0 = 0 := rfl
          rw [hen]
          have hkeep : (w3.drewN nd).heap[w.heap.size]? = some (.cells #[nilS, nilS] 30 (0, 0)) := HKE.out
          have HB3' := Lib.hid (HB3.out.trans (below_drewN w.heap.size w3 nd))
          obtain ⟨⟨vN, vT, hv⟩, _, _⟩ := HDS.out.heap (w' := w3.drewN nd) rfl
          clear hen HDS HKE HB3
          generalize w3.drewN nd = w4 at *
          obtain ⟨c0, c1, f0, f1⟩ := res_cells hkeep
          obtain ⟨k0, k1, _, _⟩ := hv.cells
          have HG := Lib.hid hkeep
          obtain ⟨oN, cN, rfl⟩ := owns_sliceA hv.n
          obtain ⟨oT, cT, rfl⟩ := owns_sliceA hv.t
          have HV := Lib.hid hv
          clear hkeep hv
          go_wp2
          obtain ⟨hs2, hb2⟩ := res_set HG.out (B := w.heap.size) (Nat.le_refl _) (.slice oN n.length cN) (.slice oT t2.length cT)
          (try simp only [Exit.inBlock, Exit.then])
          refine bodyPost_ret (two_res rfl _ _ w.heap.size 30 #[.slice oN n.length cN, .slice oT t2.length cT] (0, 0) _ rfl hs2 Tryz.underlying30 rfl (by kernel_rfl)) rfl ?_
          rw [HX2.out]
          refine ⟨HB3'.out.trans hb2, _, _, rfl, ?_, ?_⟩
          · refine ownsB_low (ownsB_kept HV.out.n fun k hk => ?_) (by omega)
            have h1 := (ownsB_type HV.out.n hk).1
            exact (Below.heap_setCell _ _ _ _ (by show k ≠ w.heap.size; omega)).trans (Below.heap_setCell _ _ _ _ (by show k ≠ w.heap.size; omega))
          · refine ownsB_low (ownsB_kept HV.out.t fun k hk => ?_) (by omega)
            have h1 := (ownsB_type HV.out.t hk).1
            exact (Below.heap_setCell _ _ _ _ (by show k ≠ w.heap.size; omega)).trans (Below.heap_setCell _ _ _ _ (by show k ≠ w.heap.size; omega))
        · rw [if_neg hl] at hx2
          have HX2 := Lib.hid hx2
          have hl0 : ¬ l'.length = 0 := fun e => hl (List.length_eq_zero_iff.1 e)
          clear hy hx2 hds hkeep3 hout hl
          go_wp2_with fail
          refine (X.refEnd_any (w1.heap.size + 1) s l' 0 w3 HDS.out.2.1).mono ?_
          rintro e4 w4 ⟨rfl, nd, rfl⟩
          have hen : X.endR l' 0 = 6 := by unfold X.endR; rw [if_pos rfl, if_neg hl0]
          rw [hen]
          have hkeep : (w3.drewN nd).heap[w.heap.size]? = some (.cells #[nilS, nilS] 30 (0, 0)) := HKE.out
          have HB3' := Lib.hid (HB3.out.trans (below_drewN w.heap.size w3 nd))
          clear hen HDS HKE HB3 hl0
          generalize w3.drewN nd = w4 at *
          have hg4 := hkeep
          obtain ⟨c0, c1, f0, f1⟩ := res_cells hg4
          have HG := Lib.hid hg4
          clear hg4 hkeep
          go_wp2
          obtain ⟨hs2, hb2⟩ := res_set HG.out (B := w.heap.size) (Nat.le_refl _) nilS nilS
          (try simp only [Exit.inBlock, Exit.then])
          refine bodyPost_ret (two_res rfl _ _ w.heap.size 30 #[nilS, nilS] (0, 0) _ rfl hs2 Tryz.underlying30 rfl (by kernel_rfl)) rfl ?_
          rw [HX2.out]
          exact ⟨HB3'.out.trans hb2, rfl⟩
end Go.Proofs.YtjogcdkebplcpaaGreatDoor
