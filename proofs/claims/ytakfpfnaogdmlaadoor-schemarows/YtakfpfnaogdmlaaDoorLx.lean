/-
  A form counts nothing that isn't there; laid: the bytes of just this value, whatever the form. Its condition: there is room.
-/
import Derived.Test.YtakfpfnaogdmlaaDoorLw
import Derived.Test.YtakfpfnaogdmlaaDoorTy
namespace Go.Proofs.YtakfpfnaogdmlaaDoor
open Go.RowKit Sch
theorem full_pG : ∀ (f : Nat) (m : Bool) (n : Nat) (seen : List Int) (t : List UInt8) (r : Row) (t' : List UInt8), pG num5 f m n seen t = some (r, t') → fullR r
  | 0, _, _, _, _, _, _, h => by simp [pG] at h
  | f + 1, true, n, seen, t, r, t', h => by
    have ih := full_pG f
    unfold pG at h
    split at h
    · simp at h; obtain ⟨rfl, _⟩ := h; trivial
    · rename_i c t1
      split at h
      · simp at h; obtain ⟨a, h1, rfl⟩ := h; have hq := ih _ _ _ _ _ _ h1; exact hq
      · split at h
        · split at h
          · cases h
          · simp at h; obtain ⟨a, h1, rfl⟩ := h; have hq := ih _ _ _ _ _ _ h1; exact hq
        · split at h
          · rename_i hc
            split at h
            · cases h
            · rename_i d t2
              split at h
              · cases h
              · split at h
                · rename_i i e t3 h3
                  split at h
                  · cases h
                  · rename_i hno
                    simp at h; obtain ⟨a, h1, rfl⟩ := h
                    refine ⟨fun h63 => ?_, ih _ _ _ _ _ _ h3, ih _ _ _ _ _ _ h1⟩
                    simp only [isOpt, Bool.or_eq_true, beq_iff_eq] at hc
                    have h42 : c = 42 := hc.resolve_left h63
                    cases he : i.empty with
                    | false => rfl
                    | true => exact absurd (Or.inr ⟨h42, he⟩) hno
                · cases h
          · split at h
            · split at h
              · cases h
              · split at h
                · rename_i a t2 h2
                  simp at h; obtain ⟨b, h1, rfl⟩ := h; exact ⟨ih _ _ _ _ _ _ h2, ih _ _ _ _ _ _ h1⟩
                · cases h
            · simp at h; obtain ⟨rfl, _⟩ := h; trivial
  | f + 1, false, n, seen, t, r, t', h => by
    have ih := full_pG f
    unfold pG at h
    split at h
    · cases h
    · split at h
      · rename_i i d t2 h2
        split at h
        · cases h
        · split at h
          · simp at h; obtain ⟨b, h1, rfl⟩ := h; exact ⟨ih _ _ _ _ _ _ h2, ih _ _ _ _ _ _ h1⟩
          · split at h
            · simp at h; obtain ⟨rfl, _⟩ := h; exact ⟨ih _ _ _ _ _ _ h2, trivial⟩
            · cases h
      · cases h
theorem full_form {t : List UInt8} {r : Row} (h : form num5 t = some r) : fullR r := by
  unfold form at h
  split at h
  · cases h
  · split at h
    · rename_i r' hp
      simp only [Option.some.injEq] at h
      subst h
      exact full_pG _ _ _ _ _ _ _ hp
    · cases h
/-- The bytes of just this value. -/
def laidO (r : Row) (N : List Int) (T : List ByteArray) : Except Int (List UInt8) :=
  match ly none r N T with
  | .error e => .error e
  | .ok (b, N', T') => if N' = [] ∧ T' = [] then .ok b else .error 4
def LdTo (w : World) (x : Except Int (List UInt8)) (r : Ending) (w' : World) : Prop :=
  Below w.heap.size w w' ∧ match x with
    | .error e => r = Bad e
    | .ok b => r = .returned (.string ⟨b.toArray⟩)
set_option maxRecDepth 100000 in
set_option maxHeartbeats 1000000 in
theorem laid_any (r : Row) (v : Value) (N : List Int) (T : List ByteArray) (aN : Option Addr) (cN : Nat) (aT : Option Addr) (cT : Nat) (w : World) (hv : SlR w (Lo w.heap.size) 109 4 v r) (hw : wf true r) (hf : fullR r) (hz : r.sz ≤ 1000) (hN : ItsAt w.heap.size w aN N) (hT : StsAt w.heap.size w aT T) (hcn : N.length ≤ cN ∧ cN ≤ 9223372036854775807) (hct : T.length ≤ cT ∧ cT ≤ 9223372036854775807) (hK : worth N T + 200000 ≤ 140737488355328) (x : Except Int (List UInt8)) (hx : laidO r N T = x) :
    Calls Tryd.prog 31 #[v, .agg #[.slice aN N.length cN, .slice aT T.length cT]] w (LdTo w x) := by
  have HX := Lib.hid hx
  have HV := Lib.hid hv
  have HN := Lib.hid hN
  have HT := Lib.hid hT
  have HCN := Lib.hid hcn
  have HCT := Lib.hid hct
  clear hx hv hN hT hcn hct
  have hB1 : Below w.heap.size w ((w.alloc (.cells #[.slice aN N.length cN, .slice aT T.length cT] 31)).alloc (.cells #[.slice none 0 0, .slice aN N.length cN, .slice aT T.length cT] 94)) := ((Below.refl _ w).alloc (Nat.le_refl _) _).alloc (by simp) _
  have hS1 : LyS w.heap.size (w.heap.size + 1) N T [] ((w.alloc (.cells #[.slice aN N.length cN, .slice aT T.length cT] 31)).alloc (.cells #[.slice none 0 0, .slice aN N.length cN, .slice aT T.length cT] 94)) :=
    ⟨.slice none 0 0, aN, cN, aT, cT, ⟨⟨by decide, by
      have := heap_alloc_new (w.alloc (.cells #[.slice aN N.length cN, .slice aT T.length cT] 31)) (.cells #[.slice none 0 0, .slice aN N.length cN, .slice aT T.length cT] 94)
      simpa using this⟩, ⟨by simp [Y.cellsOf], .inl ⟨rfl, rfl⟩⟩⟩, HN.out.low hB1, HT.out.low hB1, HCN.out, HCT.out, by omega, fun k e => by cases e⟩
  have HB1 := Lib.hid hB1
  have HS1 := Lib.hid hS1
  clear hB1 hS1
  go_enter Tryd.func31, Tryd.ntmps31
  go_wp2_with fail
  generalize (w.alloc (.cells #[.slice aN N.length cN, .slice aT T.length cT] 31)).alloc (.cells #[.slice none 0 0, .slice aN N.length cN, .slice aT T.length cT] 94) = w1 at *
  refine (rowL_all 1000 (by omega) r hz hw hf w.heap.size (w.heap.size + 1) N T [] v w1 (HV.out.low HB1.out) HS1.out (by simpa using hK)).mono ?_
  have hx := HX.out
  unfold laidO at hx
  generalize ly none r N T = y at *
  rintro r2 w2 ⟨hF2, hr⟩
  have HB2 := Lib.hid (HB1.out.trans hF2.low)
  clear hF2
  cases y with
  | error e =>
    simp only at hr hx
    subst hr hx
    go_wp2
    exact ⟨rfl, HB2.out, rfl⟩
  | ok y =>
    obtain ⟨b, N', T'⟩ := y
    obtain ⟨rfl, v', aN', cN', aT', cT', hL⟩ := hr
    obtain ⟨c1, c2, _, _⟩ := hL.cells
    rw [List.nil_append] at hL
    have HW := Lib.hid hL.wr
    simp only at hx
    have HX2 := Lib.hid hx
    clear hL hx
    by_cases h1 : N' = []
    · by_cases h2 : T' = []
      · subst h1 h2
        have hx := HX2.out
        rw [if_pos ⟨rfl, rfl⟩] at hx
        subst hx
        simp only [List.length_nil] at c1 c2
        go_wp2_with fail
        refine (Y.bytes_any (w.heap.size + 1) v' b w2 HW.out).mono ?_
        rintro r3 w3 ⟨rfl, rfl⟩
        go_wp2
        go_ret
        exact ⟨HB2.out, rfl⟩
      · subst h1
        have hx := HX2.out
        rw [if_neg (fun q => h2 q.2)] at hx
        subst hx
        have hp : 0 < T'.length := List.length_pos_iff.2 h2
        simp only [List.length_nil] at c1
        go_wp2_with fail
        refine (refuse_any 4 w2).mono ?_
        rintro r3 w3 ⟨rfl, rfl⟩
        go_wp2
        exact ⟨rfl, HB2.out, rfl⟩
    · have hx := HX2.out
      rw [if_neg (fun q => h1 q.1)] at hx
      subst hx
      have hp : 0 < N'.length := List.length_pos_iff.2 h1
      go_wp2_with fail
      refine (refuse_any 4 w2).mono ?_
      rintro r3 w3 ⟨rfl, rfl⟩
      go_wp2
      exact ⟨rfl, HB2.out, rfl⟩
end Go.Proofs.YtakfpfnaogdmlaaDoor
