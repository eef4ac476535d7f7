/-
  Decode: the value that bytes hold, whatever the form and the bytes. No condition.
-/
import Derived.Test.YtjogcdkebplcpaaGreatDoorTz
import Derived.Test.YtjogcdkebplcpaaGreatDoorCk
namespace Go.Proofs.YtjogcdkebplcpaaGreatDoor
open Go.RowKit Sch
theorem SlR.lo {w : World} {A : Nat → Prop} {v : Value} {r : Row} (h : SlR w A 92 4 v r) : SlR w (Lo w.heap.size) 92 4 v r := by
  obtain ⟨zs, h1, h2, h3⟩ := h
  exact ⟨zs, h1, cellsL.kept (fun k hk => hk.2) (fun _ _ _ => rfl) r zs (cellsL.lt r zs h2), fun g hg => owns_lt h1 hg⟩
/-- What Decode answers. -/
def decO (t : List UInt8) (s : ByteArray) : Except Int (List Int × List ByteArray) :=
  match form num5 t with
  | none => .error 1
  | some r => if 65536 < s.size then .error 2 else takenO r s.data.toList
def DeTo (w : World) (x : Except Int (List Int × List ByteArray)) (r : Ending) (w' : World) : Prop :=
  Below w.heap.size w w' ∧ match x with
    | .error e => r = .returned (.tuple #[.agg #[nilS, nilS], .int .i64 e])
    | .ok (n, t) => ∃ vN vT, r = .returned (.tuple #[.agg #[vN, vT], .int .i64 0]) ∧ ValAt w.heap.size n t vN vT w'
/-- Decode's two result blocks. -/
structure Two (a : Nat) (x y : Value) (e : Int) (w : World) : Prop where
  v : w.heap[a]? = some (.cells #[x, y] 26 (0, 0))
  e : w.heap[a + 1]? = some (.cells #[.int .i64 e] 27 (0, 0))
theorem Two.below {a B : Nat} {x y : Value} {e : Int} {w w' : World} (h : Two a x y e w) (hb : Below B w w') (hB : a + 1 < B) : Two a x y e w' := ⟨(hb.block a (by omega)).trans h.v, (hb.block (a + 1) hB).trans h.e⟩
theorem Two.cells {a : Nat} {x y : Value} {e : Int} {w : World} (h : Two a x y e w) : w.cell? ⟨a, 0, none⟩ = some x ∧ w.cell? ⟨a, 1, none⟩ = some y ∧ w.cell? ⟨a + 1, 0, none⟩ = some (.int .i64 e) ∧ w.frozen? ⟨a, 0, none⟩ = false ∧ w.frozen? ⟨a, 1, none⟩ = false ∧ w.frozen? ⟨a + 1, 0, none⟩ = false := by
  refine ⟨?_, ?_, ?_, Lib.frozen_of_heap h.v _, Lib.frozen_of_heap h.v _, Lib.frozen_of_heap h.e _⟩
  · rw [cell_of_row _ _ _ _ _ _ h.v]; rfl
  · rw [cell_of_row _ _ _ _ _ _ h.v]; rfl
  · rw [cell_of_row _ _ _ _ _ _ h.e]; rfl
theorem Two.set {a : Nat} {x y : Value} {e : Int} {w : World} (h : Two a x y e w) (x' y' : Value) (e' : Int) :
    Two a x' y' e' (((w.setCell ⟨a, 0, none⟩ x').setCell ⟨a, 1, none⟩ y').setCell ⟨a + 1, 0, none⟩ (.int .i64 e')) ∧ Below a w (((w.setCell ⟨a, 0, none⟩ x').setCell ⟨a, 1, none⟩ y').setCell ⟨a + 1, 0, none⟩ (.int .i64 e')) ∧ (∀ k, k ≠ a → k ≠ a + 1 → (((w.setCell ⟨a, 0, none⟩ x').setCell ⟨a, 1, none⟩ y').setCell ⟨a + 1, 0, none⟩ (.int .i64 e')).heap[k]? = w.heap[k]?) := by
  have o1 : X.Only a w ((w.setCell ⟨a, 0, none⟩ x').setCell ⟨a, 1, none⟩ y') := ((X.Only.refl a w).set 0 _).set 1 _
  have h1 : ((w.setCell ⟨a, 0, none⟩ x').setCell ⟨a, 1, none⟩ y').heap[a]? = some (.cells #[x', y'] 26 (0, 0)) := by simp [World.setCell, Array.getElem?_modify, h.v]
  have h2 := (o1.block (a + 1) (by omega)).trans h.e
  generalize (w.setCell ⟨a, 0, none⟩ x').setCell ⟨a, 1, none⟩ y' = u at *
  have o2 : X.Only (a + 1) u (u.setCell ⟨a + 1, 0, none⟩ (.int .i64 e')) := (X.Only.refl (a + 1) u).set 0 _
  refine ⟨⟨(o2.block a (by omega)).trans h1, by simp [World.setCell, Array.getElem?_modify, h2]⟩, (o1.below (Nat.le_refl _)).trans (o2.below (by omega)), fun k hk hk2 => (o2.block k hk2).trans (o1.block k hk)⟩
set_option maxRecDepth 100000 in
set_option maxHeartbeats 400000 in
theorem catch32 (a : Nat) (e : Int) (w : World) (h : Two a (.slice none 0 0) (.slice none 0 0) 0 w) :
    CallsD Tryz.prog 11 #[.pointer (some ⟨a, 0, none⟩), .pointer (some ⟨a + 1, 0, none⟩)] (.panicking [{ v := .iface 58 (.int .i64 e), recovered := false }]) w fun r u' w' =>
      r = .returned (.tuple #[]) ∧ u' = .panicking [{ v := .iface 58 (.int .i64 e), recovered := true }] ∧ Two a (.slice none 0 0) (.slice none 0 0) e w' ∧ Below a w w' := by
  obtain ⟨c0, c1, c2, f0, f1, f2⟩ := h.cells
  have hne : a ≠ a + 1 := by omega
  have HT := Lib.hid (h.set (.slice none 0 0) (.slice none 0 0) e)
  clear h
  refine callsD_of_wpS Tryz.func11 rfl fun c₀ cs hu => ?_
  apply wpS_seq
  apply wpS_region
  simp [wpOpsS, go_sem, recoverD, hu, Tryz.ntmps11, Exit.thenS]
  refine wpS_of_wp ?_
  go_wp2_with fail
  refine (refused_any e w).mono ?_
  rintro r w' ⟨rfl, rfl⟩
  go_wp2
  simp [bodyPostS, results, Tryz.results11]
  exact ⟨HT.out.1, HT.out.2.1⟩
set_option maxRecDepth 100000 in
set_option maxHeartbeats 400000 in
theorem idle32 (a b : Nat) (w : World) :
    CallsD Tryz.prog 11 #[.pointer (some ⟨a, 0, none⟩), .pointer (some ⟨b, 0, none⟩)] .returning w fun r u' w' => r = .returned (.tuple #[]) ∧ u' = .returning ∧ w' = w := by
  refine callsD_of_wpS Tryz.func11 rfl fun c₀ cs hu => ?_
  apply wpS_seq
  apply wpS_region
  simp [wpOpsS, go_sem, recoverD, hu, Tryz.ntmps11, Exit.thenS]
  refine wpS_of_wp ?_
  go_wp2_with fail
  cases c₀
  simp_all [bodyPostS, results, Tryz.results11]
set_option maxRecDepth 100000 in
set_option maxHeartbeats 1000000 in
theorem decode_any (t : List UInt8) (s : ByteArray) (w : World) (x : Except Int (List Int × List ByteArray)) (hx : decO t s = x) : Calls Tryz.prog 6 #[.string ⟨t.toArray⟩, .string s] w (DeTo w x) := by
  have hmf : ∀ (fn : Fn) (first cap : Array Value) (w : World), (Instr.makeFunc fn first cap).run Tryz.prog w = .ok (.func fn first cap) w := fun _ _ _ _ => rfl
  have HX := Lib.hid hx
  clear hx
  obtain ⟨S, hS⟩ : ∃ S : ByteArray, S = ⟨t.toArray⟩ := ⟨_, rfl⟩
  rw [← hS]
  have HSS := Lib.hid hS
  clear hS
  go_enter_defers Tryz.func6, Tryz.ntmps6
  go_wp2_with fail
  have hT : Two w.heap.size (.slice none 0 0) (.slice none 0 0) 0 ((w.alloc (.cells #[.slice none 0 0, .slice none 0 0] 26)).alloc (.cells #[.int .i64 0] 27)) := ⟨(Below.heap_alloc _ _ _ (by simp)).trans (heap_alloc_new w _), by
    have := heap_alloc_new (w.alloc (.cells #[.slice none 0 0, .slice none 0 0] 26)) (.cells #[.int .i64 0] 27)
    simpa using this⟩
  have hbe : Below w.heap.size w ((w.alloc (.cells #[.slice none 0 0, .slice none 0 0] 26)).alloc (.cells #[.int .i64 0] 27)) := ((Below.refl _ _).alloc (Nat.le_refl _) _).alloc (by simp) _
  have hsz : ((w.alloc (.cells #[.slice none 0 0, .slice none 0 0] 26)).alloc (.cells #[.int .i64 0] 27)).heap.size = w.heap.size + 2 := by simp
  generalize (w.alloc (.cells #[.slice none 0 0, .slice none 0 0] 26)).alloc (.cells #[.int .i64 0] 27) = wa at *
  have HT := Lib.hid hT
  have HBE := Lib.hid hbe
  have HSZ := Lib.hid hsz
  clear hT hbe hsz
  have hpar := parse_any t wa
  rw [← HSS.out] at hpar
  refine hpar.mono ?_
  clear hpar
  rintro r w1 ⟨hb1, h1⟩
  have HT1 := Lib.hid (HT.out.below hb1 (by have := HSZ.out; omega))
  have HB1 := Lib.hid (HBE.out.trans (hb1.mono (by have := HSZ.out; omega)))
  have HN1 := Lib.hid (show wa.heap.size ≤ w1.heap.size from hb1.size)
  clear hb1
  have hx := HX.out
  unfold decO at hx
  have hbad : ∀ (e : Int) (w2 : World), Two w.heap.size (.slice none 0 0) (.slice none 0 0) e w2 → Below w.heap.size w w2 → DeTo w (.error e) (.returned (.tuple #[.agg #[.slice none 0 0, .slice none 0 0], .int .i64 e])) w2 := fun e w2 _ hb => ⟨hb, rfl⟩
  have HBAD := Lib.hid hbad
  clear hbad
  cases hf : form num5 t with
  | none =>
    rw [hf] at h1 hx
    simp only at h1 hx
    subst h1 hx
    go_wp2
    refine leaves_cons (f := 11) (args := #[.pointer (some ⟨w.heap.size, 0, none⟩), .pointer (some ⟨w.heap.size + 1, 0, none⟩)]) (by simp) (by simp [go_sem]) ?_
    refine (catch32 w.heap.size 1 w1 HT1.out).mono ?_
    rintro e u' w2 ⟨rfl, rfl, hT2, hB2⟩
    have hfin := HBAD.out 1 w2 hT2 (HB1.out.trans hB2)
    have hL := run_loadVar_row (P := Tryz.prog) w2 w.heap.size 26 26 _ (0, 0) _ hT2.v Tryz.underlying26 rfl (by kernel_rfl)
    have c2 := hT2.cells.2.2.1
    clear hT2 hB2
    generalize w.heap.size = A at *
    simp [Leaves, settle, results, Tryz.results6, hL, asAddr]
    simp [go_sem, c2, hfin]
  | some row =>
    rw [hf] at h1 hx
    simp only at hx
    obtain ⟨v, rfl, hv⟩ := h1
    have HV := Lib.hid hv.lo
    obtain ⟨hwf, hrz⟩ := wf_form hf
    clear hv hf
    by_cases hl : 65536 < s.size
    · rw [if_pos hl] at hx
      subst hx
      go_wp2_with fail
      refine (refuse_any 2 w1).mono ?_
      rintro r w' ⟨rfl, rfl⟩
      go_wp2
      refine leaves_cons (f := 11) (args := #[.pointer (some ⟨w.heap.size, 0, none⟩), .pointer (some ⟨w.heap.size + 1, 0, none⟩)]) (by simp) (by simp [go_sem]) ?_
      refine (catch32 w.heap.size 2 w1 HT1.out).mono ?_
      rintro e u' w2 ⟨rfl, rfl, hT2, hB2⟩
      have hfin := HBAD.out 2 w2 hT2 (HB1.out.trans hB2)
      have hL := run_loadVar_row (P := Tryz.prog) w2 w.heap.size 26 26 _ (0, 0) _ hT2.v Tryz.underlying26 rfl (by kernel_rfl)
      have c2 := hT2.cells.2.2.1
      clear hT2 hB2
      generalize w.heap.size = A at *
      simp [Leaves, settle, results, Tryz.results6, hL, asAddr]
      simp [go_sem, c2, hfin]
    · rw [if_neg hl] at hx
      have HX2 := Lib.hid hx
      clear hx
      go_wp2_with fail
      refine (taken_any row v s w1 HV.out hwf hrz (by omega) x HX2.out).mono ?_
      rintro r w2 ⟨hB2, hr⟩
      have HT2 := Lib.hid (HT1.out.below hB2 (by have := HSZ.out; have := HN1.out; omega))
      have HB2 := Lib.hid (HB1.out.trans (hB2.mono HB1.out.size))
      have HN2 := Lib.hid (show w.heap.size + 2 ≤ w1.heap.size by have := HSZ.out; have := HN1.out; omega)
      clear hB2
      cases x with
      | error e =>
        simp only at hr
        subst hr
        go_wp2
        refine leaves_cons (f := 11) (args := #[.pointer (some ⟨w.heap.size, 0, none⟩), .pointer (some ⟨w.heap.size + 1, 0, none⟩)]) (by simp) (by simp [go_sem]) ?_
        refine (catch32 w.heap.size e w2 HT2.out).mono ?_
        rintro e u' w3 ⟨rfl, rfl, hT3, hB3⟩
        have hfin := HBAD.out e w3 hT3 (HB2.out.trans hB3)
        have hL := run_loadVar_row (P := Tryz.prog) w3 w.heap.size 26 26 _ (0, 0) _ hT3.v Tryz.underlying26 rfl (by kernel_rfl)
        have c2 := hT3.cells.2.2.1
        clear hT3 hB3
        generalize w.heap.size = A at *
        simp [Leaves, settle, results, Tryz.results6, hL, asAddr]
        simp [go_sem, c2, hfin]
      | ok y =>
        obtain ⟨n, tt⟩ := y
        obtain ⟨vN, vT, rfl, hval⟩ := hr
        obtain ⟨on, cn, rfl⟩ := owns_slice hval.1
        obtain ⟨ot, ct, rfl⟩ := owns_slice hval.2
        obtain ⟨c0, c1, c2, f0, f1, f2⟩ := HT2.out.cells
        have HVAL := Lib.hid hval
        clear hval
        have hne : w.heap.size ≠ w.heap.size + 1 := by omega
        go_wp2
        obtain ⟨hT3, hB3, hK3⟩ := HT2.out.set (.slice on n.length cn) (.slice ot tt.length ct) 0
        generalize ((w2.setCell ⟨w.heap.size, 0, none⟩ (.slice on n.length cn)).setCell ⟨w.heap.size, 1, none⟩ (.slice ot tt.length ct)).setCell ⟨w.heap.size + 1, 0, none⟩ (.int .i64 0) = w3 at *
        refine leaves_cons (f := 11) (args := #[.pointer (some ⟨w.heap.size, 0, none⟩), .pointer (some ⟨w.heap.size + 1, 0, none⟩)]) (by simp) (by simp [go_sem]) ?_
        refine (idle32 w.heap.size (w.heap.size + 1) w3).mono ?_
        rintro e u' w4 ⟨rfl, rfl, rfl⟩
        have hfin : DeTo w (.ok (n, tt)) (.returned (.tuple #[.agg #[.slice on n.length cn, .slice ot tt.length ct], .int .i64 0])) w4 := by
          have hN := HN2.out
          refine ⟨HB2.out.trans hB3, _, _, rfl, ?_, ?_⟩
          · exact (ownsB_kept HVAL.out.1 fun k e => hK3 k (by have := (ownsB_type HVAL.out.1 e).1; omega) (by have := (ownsB_type HVAL.out.1 e).1; omega)).of_le (by omega)
          · exact (ownsB_kept HVAL.out.2 fun k e => hK3 k (by have := (ownsB_type HVAL.out.2 e).1; omega) (by have := (ownsB_type HVAL.out.2 e).1; omega)).of_le (by omega)
        have hL := run_loadVar_row (P := Tryz.prog) w4 w.heap.size 26 26 _ (0, 0) _ hT3.v Tryz.underlying26 rfl (by kernel_rfl)
        have d2 := hT3.cells.2.2.1
        clear hT3 hB3 hK3
        generalize w.heap.size = A at *
        simp [Leaves, settle, results, Tryz.results6, hL, asAddr]
        simp [go_sem, d2, hfin]
end Go.Proofs.YtjogcdkebplcpaaGreatDoor
