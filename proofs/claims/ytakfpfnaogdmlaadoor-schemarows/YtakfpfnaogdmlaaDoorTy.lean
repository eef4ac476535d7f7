/-
  What a form is, and taken: all the bytes as a value, whatever the form. No condition.
-/
import Derived.Test.YtakfpfnaogdmlaaDoorTx
import Derived.Test.YtakfpfnaogdmlaaDoorPs
namespace Go.Proofs.YtakfpfnaogdmlaaDoor
open Go.RowKit Sch
theorem num5_le {t : List UInt8} {n : Nat} {r : List UInt8} (h : num5 t = some (n, r)) : n ≤ 99999 := by
  unfold num5 at h
  split at h
  · cases h
  · simp only [Option.some.injEq, Prod.mk.injEq] at h
    obtain ⟨rfl, _⟩ := h
    have h1 := decOf_lt (digs t) (fun c hc => by unfold digs at hc; exact (List.all_eq_true.1 (List.all_takeWhile (l := t.take 5) (p := isDig))) c hc)
    have h2 : (digs t).length ≤ 5 := by
      unfold digs
      have h3 := (List.takeWhile_sublist (p := isDig) (l := t.take 5)).length_le
      simp at h3
      omega
    have h4 : 10 ^ (digs t).length ≤ 10 ^ 5 := Nat.pow_le_pow_right (by decide) h2
    omega
theorem wf_pG : ∀ (f : Nat) (m : Bool) (n : Nat) (seen : List Int) (t : List UInt8) (r : Row) (t' : List UInt8), pG num5 f m n seen t = some (r, t') → wf m r ∧ r.sz + t'.length ≤ t.length
  | 0, _, _, _, _, _, _, h => by simp [pG] at h
  | f + 1, true, n, seen, t, r, t', h => by
    have ih := wf_pG f
    unfold pG at h
    split at h
    · simp at h; obtain ⟨rfl, rfl⟩ := h; simp [wf, Sch.Row.sz]
    · rename_i c t1
      split at h
      · rename_i hc
        simp at h; obtain ⟨a, h1, rfl⟩ := h; have := ih _ _ _ _ _ _ h1; simp only [wf, Sch.Row.sz, List.length_cons]; exact ⟨⟨hc, this.1⟩, by omega⟩
      · split at h
        · rename_i hc
          split at h
          · cases h
          · rename_i k t2 h2
            simp at h; obtain ⟨a, h1, rfl⟩ := h; have := ih _ _ _ _ _ _ h1; have := num5_lt h2; have hk := num5_le h2; simp only [wf, Sch.Row.sz, List.length_cons]; exact ⟨⟨hc, hk, by simp_all⟩, by omega⟩
        · split at h
          · rename_i hc
            split at h
            · cases h
            · rename_i d t2
              split at h
              · cases h
              · split at h
                · rename_i i e t3 h3
                  split at h
                  · cases h
                  · simp at h; obtain ⟨a, h1, rfl⟩ := h; have ha := ih _ _ _ _ _ _ h1; have hb := ih _ _ _ _ _ _ h3; have hb2 := hb.2; simp only [List.length_cons] at hb2; simp only [wf, Sch.Row.sz, List.length_cons]; exact ⟨⟨hc, hb.1, ha.1⟩, by have := ha.2; omega⟩
                · cases h
          · split at h
            · split at h
              · cases h
              · split at h
                · rename_i a t2 h2
                  simp at h; obtain ⟨b, h1, rfl⟩ := h; have ha := ih _ _ _ _ _ _ h1; have hb := ih _ _ _ _ _ _ h2; simp only [wf, Sch.Row.sz, List.length_cons]; exact ⟨⟨hb.1, ha.1⟩, by have := ha.2; have := hb.2; omega⟩
                · cases h
            · simp at h; obtain ⟨rfl, rfl⟩ := h; simp [wf, Sch.Row.sz]
  | f + 1, false, n, seen, t, r, t', h => by
    have ih := wf_pG f
    unfold pG at h
    split at h
    · cases h
    · rename_i k t1 hk
      have := key_lt num5_short hk
      split at h
      · rename_i i d t2 h2
        have hi := ih _ _ _ _ _ _ h2
        have hi2 := hi.2
        simp only [List.length_cons] at hi2
        split at h
        · cases h
        · split at h
          · simp at h; obtain ⟨b, h1, rfl⟩ := h; have ha := ih _ _ _ _ _ _ h1; simp only [wf, Sch.Row.sz]; exact ⟨⟨hi.1, ha.1⟩, by have := ha.2; omega⟩
          · split at h
            · simp at h; obtain ⟨rfl, rfl⟩ := h; simp only [wf, Sch.Row.sz]; exact ⟨⟨hi.1, trivial⟩, by omega⟩
            · cases h
      · cases h
theorem wf_form {t : List UInt8} {r : Row} (h : form num5 t = some r) : wf true r ∧ r.sz ≤ 1000 := by
  unfold form at h
  split at h
  · cases h
  · rename_i hl
    split at h
    · rename_i r' hp
      simp only [Option.some.injEq] at h
      subst h
      have := wf_pG _ _ _ _ _ _ _ hp
      exact ⟨this.1, by have := this.2; simp at this; omega⟩
    · cases h
theorem _root_.Go.World.ownsRow.of_le {w : World} {B B' e sz : Nat} {v : Value} {n : Nat} {xs : List Value} (h : w.ownsRow B e sz v n xs) (hB : B' ≤ B) : w.ownsRow B' e sz v n xs := by
  refine ⟨h.1, ?_⟩
  rcases h.2 with e | ⟨g, cap, cur, e, hg, r⟩
  · exact .inl e
  · exact .inr ⟨g, cap, cur, e, Nat.le_trans hB hg, r⟩
/-- The value that is all of the bytes. -/
def takenO (r : Row) (l : List UInt8) : Except Int (List Int × List ByteArray) :=
  match tk none r l with
  | .error e => .error e
  | .ok (n, t, l') => if l' = [] then .ok (n, t) else .error 6
def ValAt (B : Nat) (n : List Int) (t : List ByteArray) (vN vT : Value) (w : World) : Prop := w.ownsRow B 3 1 vN n.length (ints n) ∧ w.ownsRow B 9 1 vT t.length (strs t)
def TnTo (w : World) (x : Except Int (List Int × List ByteArray)) (r : Ending) (w' : World) : Prop :=
  Below w.heap.size w w' ∧ match x with
    | .error e => r = Bad e
    | .ok (n, t) => ∃ vN vT, r = .returned (.agg #[vN, vT]) ∧ ValAt w.heap.size n t vN vT w'
theorem results_row1 {P : Program} {fn : Func} {p : Tmp} {ty : TypeId} (h : fn.results = #[.cell p ty]) (tmps : Array Value) (w : World) (g : Nat) (t : TypeId) (cs : Array Value) (fr : Nat × Nat) (d : TypeDesc)
    (hp : tmps.getD p undef = .pointer (some ⟨g, 0, none⟩)) (hg : w.heap[g]? = some (.cells cs t fr))
    (hu : P.underlying ty = some d) (hd : (match d with | .struct _ | .array _ _ => true | _ => false) = true) (hi : (P.info? ty).map (·.size) = some cs.size) :
    (results fn tmps).run P w = .ok (.agg cs) w := by
  have hp' : tmps[p]?.getD undef = .pointer (some ⟨g, 0, none⟩) := by simpa using hp
  simp [results, h, hp', asAddr, run_loadVar_row w g t ty cs fr d hg hu hd hi]
theorem owns_slice {w : World} {B e sz : Nat} {v : Value} {n : Nat} {xs : List Value} (h : w.ownsRow B e sz v n xs) : ∃ o c, v = .slice o n c := by
  rcases h.2 with ⟨e, e2⟩ | ⟨g, cap, cur, e, _⟩
  · exact ⟨none, 0, by rw [e, e2]⟩
  · exact ⟨_, _, e⟩
set_option maxRecDepth 100000 in
set_option maxHeartbeats 1000000 in
theorem taken_any (r : Row) (v : Value) (s : ByteArray) (w : World) (hv : SlR w (Lo w.heap.size) 109 4 v r) (hw : wf true r) (hz : r.sz ≤ 1000) (hs : s.size ≤ 65536) (x : Except Int (List Int × List ByteArray)) (hx : takenO r s.data.toList = x) :
    Calls Tryd.prog 44 #[v, .string s] w (TnTo w x) := by
  have HX := Lib.hid hx
  have HV := Lib.hid hv
  clear hx hv
  have hsl : s.data.toList.length = s.size := by simp
  have HB := Lib.hid ((Below.refl _ w).alloc (Nat.le_refl _) (.cells #[.slice none 0 0, .slice none 0 0] 31))
  have HK := Lib.hid (heap_alloc_new w (.cells #[.slice none 0 0, .slice none 0 0] 31))
  have hsz : (w.alloc (.cells #[.slice none 0 0, .slice none 0 0] 31)).heap.size = w.heap.size + 1 := by simp
  have HSZ := Lib.hid hsz
  clear hsz
  go_enter Tryd.func44, Tryd.ntmps44
  go_wp2_with fail
  generalize w.alloc (.cells #[.slice none 0 0, .slice none 0 0] 31) = w1 at *
  refine (X.open_any s w1 (by unfold maxLen; omega)).mono ?_
  rintro r1 w2 ⟨rfl, hR2, hB2, hs2⟩
  have HR2 := Lib.hid hR2
  have HB2 := Lib.hid hB2
  have HS2 := Lib.hid hs2
  clear hR2 hB2 hs2
  go_wp2_with fail
  have hsz := HSZ.out
  have hs2 := HS2.out
  have hB3 : Below w1.heap.size w1 (w2.alloc (.cells #[.pointer (some ⟨w1.heap.size + 1, 0, none⟩), .slice none 0 0, .slice none 0 0] 104)) := HB2.out.alloc (by omega) _
  have hS3 : TkS w1.heap.size w2.heap.size (w1.heap.size + 1) [] [] s.data.toList 0 (w2.alloc (.cells #[.pointer (some ⟨w1.heap.size + 1, 0, none⟩), .slice none 0 0, .slice none 0 0] 104)) :=
    ⟨⟨.slice none 0 0, .slice none 0 0, ⟨heap_alloc_new w2 _, ⟨by simp [ints], .inl ⟨rfl, rfl⟩⟩, ⟨by simp [strs], .inl ⟨rfl, rfl⟩⟩, by omega, by omega⟩⟩, rd_kept HR2.out fun k cur t fr _ hk => Below.heap_alloc _ _ _ (Array.getElem?_eq_some_iff.1 hk).1⟩
  generalize w2.alloc (.cells #[.pointer (some ⟨w1.heap.size + 1, 0, none⟩), .slice none 0 0, .slice none 0 0] 104) = w3 at *
  have HB3 := Lib.hid hB3
  have hv3 : SlR w3 (Lo w1.heap.size) 109 4 v r := (HV.out.kept (fun k hk => (by show k < w1.heap.size; have : k < w.heap.size := hk; omega)) fun k hk _ => (hB3.block k (by have : k < w.heap.size := hk; omega)).trans (HB.out.block k hk))
  refine (rowT_all 1000 (by omega) r hz hw w1.heap.size w2.heap.size (w1.heap.size + 1) [] [] s.data.toList v w3 hv3 hS3 (by omega) ?_).mono ?_
  · have h1 : r.sz * (s.data.toList.length / 4 + 1) ≤ 1000 * (65536 / 4 + 1) := Nat.mul_le_mul hz (by omega)
    simp only [List.length_nil]
    omega
  clear hB3 hS3 hv3 hsz hs2
  have hx := HX.out
  unfold takenO at hx
  generalize tk none r s.data.toList = y at *
  rintro r4 w4 ⟨hB4, hr⟩
  have hB5 := HB3.out.trans hB4.low
  have hk4 : w4.heap[w.heap.size]? = _ := (hB5.block w.heap.size (by have := HSZ.out; omega)).trans HK.out
  have HW := Lib.hid (HB.out.trans (hB5.mono (by have := HSZ.out; omega)))
  have HK4 := Lib.hid hk4
  clear hB4 hB5 hk4
  cases y with
  | error e =>
    simp only at hr hx
    subst hr hx
    go_wp2
    exact ⟨rfl, HW.out, rfl⟩
  | ok y =>
    obtain ⟨n, t, l'⟩ := y
    obtain ⟨rfl, ⟨vN, vT, hTB⟩, hR4⟩ := hr
    simp only [List.nil_append] at hTB
    obtain ⟨c0, c1, c2, f1, f2⟩ := hTB.cells
    have HR4 := Lib.hid hR4
    have HTB := Lib.hid hTB
    simp only at hx
    have HX4 := Lib.hid hx
    clear hR4 hTB hx
    go_wp2_with fail
    refine (X.end_any (w1.heap.size + 1) l' 0 w4 HR4.out).mono ?_
    rintro r5 w5 ⟨rfl, rfl⟩
    by_cases hl : l' = []
    · subst hl
      have hx := HX4.out
      rw [if_pos rfl] at hx
      subst hx
      have he : X.endR [] 0 = 0 := rfl
      rw [he]
      obtain ⟨on, cn, rfl⟩ := owns_slice HTB.out.n
      obtain ⟨ot, ct, rfl⟩ := owns_slice HTB.out.t
      have k0 : w4.cell? ⟨w.heap.size, 0, none⟩ = some (.slice none 0 0) := by rw [cell_of_row _ _ _ _ _ _ HK4.out]; rfl
      have k1 : w4.cell? ⟨w.heap.size, 1, none⟩ = some (.slice none 0 0) := by rw [cell_of_row _ _ _ _ _ _ HK4.out]; rfl
      have g0 : w4.frozen? ⟨w.heap.size, 0, none⟩ = false := Lib.frozen_of_heap HK4.out _
      have g1 : w4.frozen? ⟨w.heap.size, 1, none⟩ = false := Lib.frozen_of_heap HK4.out _
      go_wp2
      have ho : X.Only w.heap.size w4 ((w4.setCell ⟨w.heap.size, 0, none⟩ (.slice on n.length cn)).setCell ⟨w.heap.size, 1, none⟩ (.slice ot t.length ct)) := ((X.Only.refl w.heap.size w4).set 0 _).set 1 _
      have hk5 : ((w4.setCell ⟨w.heap.size, 0, none⟩ (.slice on n.length cn)).setCell ⟨w.heap.size, 1, none⟩ (.slice ot t.length ct)).heap[w.heap.size]? = some (.cells #[.slice on n.length cn, .slice ot t.length ct] 31 (0, 0)) := by
        simp [World.setCell, Array.getElem?_modify, HK4.out]
      generalize ((w4.setCell ⟨w.heap.size, 0, none⟩ (.slice on n.length cn)).setCell ⟨w.heap.size, 1, none⟩ (.slice ot t.length ct)) = w6 at *
      refine bodyPost_ret (results_row1 rfl _ _ w.heap.size 31 _ (0, 0) _ rfl hk5 Tryd.underlying31 rfl (by kernel_rfl)) rfl ?_
      refine ⟨HW.out.trans (ho.below (Nat.le_refl _)), _, _, rfl, ?_, ?_⟩
      · refine (ownsB_kept HTB.out.n fun k e => ho.block k fun e' => ?_).of_le (by have := HSZ.out; omega)
        obtain ⟨_, cur, hc⟩ := ownsB_type HTB.out.n e
        subst e'
        exact absurd (blk_type hc HK4.out) (by decide)
      · refine (ownsB_kept HTB.out.t fun k e => ho.block k fun e' => ?_).of_le (by have := HSZ.out; omega)
        obtain ⟨_, cur, hc⟩ := ownsB_type HTB.out.t e
        subst e'
        exact absurd (blk_type hc HK4.out) (by decide)
    · have hx := HX4.out
      rw [if_neg hl] at hx
      subst hx
      have he : X.endR l' 0 = 6 := by unfold X.endR; rw [if_pos rfl, if_neg (by simpa using hl)]
      rw [he]
      go_wp2_with fail
      refine (refuse_any 6 _).mono ?_
      rintro r6 w6 ⟨rfl, rfl⟩
      go_wp2
      exact ⟨rfl, HW.out, rfl⟩
end Go.Proofs.YtakfpfnaogdmlaaDoor
