/-
  Encode: the bytes of a value, whatever the form and the value. Its condition: there is room.
-/
import Derived.Test.YtjogcdkebplcpaaGreatDoorLz
import Derived.Test.YtjogcdkebplcpaaGreatDoorDe
namespace Go.Proofs.YtjogcdkebplcpaaGreatDoor
open Go.RowKit Sch
/-- What Encode answers. -/
def encO (t : List UInt8) (N : List Int) (T : List ByteArray) : Except Int (List UInt8) :=
  match form num5 t with
  | none => .error 1
  | some r => match laidO r N T with
    | .error e => .error e
    | .ok b => if 65536 < b.length then .error 2 else .ok b
def EnTo (w : World) (x : Except Int (List UInt8)) (r : Ending) (w' : World) : Prop :=
  Below w.heap.size w w' ∧ match x with
    | .error e => r = .returned (.tuple #[.string ⟨#[]⟩, .int .i64 e])
    | .ok b => r = .returned (.tuple #[.string ⟨b.toArray⟩, .int .i64 0])
/-- Encode's two result blocks. -/
structure Tws (a : Nat) (s : ByteArray) (e : Int) (w : World) : Prop where
  v : w.heap[a]? = some (.cells #[.string s] 9 (0, 0))
  e : w.heap[a + 1]? = some (.cells #[.int .i64 e] 27 (0, 0))
theorem Tws.below {a B : Nat} {s : ByteArray} {e : Int} {w w' : World} (h : Tws a s e w) (hb : Below B w w') (hB : a + 1 < B) : Tws a s e w' := ⟨(hb.block a (by omega)).trans h.v, (hb.block (a + 1) hB).trans h.e⟩
theorem Tws.cells {a : Nat} {s : ByteArray} {e : Int} {w : World} (h : Tws a s e w) : w.cell? ⟨a, 0, none⟩ = some (.string s) ∧ w.cell? ⟨a + 1, 0, none⟩ = some (.int .i64 e) ∧ w.frozen? ⟨a, 0, none⟩ = false ∧ w.frozen? ⟨a + 1, 0, none⟩ = false := by
  refine ⟨?_, ?_, Lib.frozen_of_heap h.v _, Lib.frozen_of_heap h.e _⟩
  · rw [cell_of_row _ _ _ _ _ _ h.v]; rfl
  · rw [cell_of_row _ _ _ _ _ _ h.e]; rfl
theorem Tws.set0 {a : Nat} {s : ByteArray} {e : Int} {w : World} (h : Tws a s e w) (s' : ByteArray) : Tws a s' e (w.setCell ⟨a, 0, none⟩ (.string s')) ∧ Below a w (w.setCell ⟨a, 0, none⟩ (.string s')) := by
  have o1 : X.Only a w (w.setCell ⟨a, 0, none⟩ (.string s')) := (X.Only.refl a w).set 0 _
  exact ⟨⟨by simp [World.setCell, Array.getElem?_modify, h.v], (o1.block (a + 1) (by omega)).trans h.e⟩, o1.below (Nat.le_refl _)⟩
theorem Tws.set1 {a : Nat} {s : ByteArray} {e : Int} {w : World} (h : Tws a s e w) (e' : Int) : Tws a s e' (w.setCell ⟨a + 1, 0, none⟩ (.int .i64 e')) ∧ Below a w (w.setCell ⟨a + 1, 0, none⟩ (.int .i64 e')) := by
  have o1 : X.Only (a + 1) w (w.setCell ⟨a + 1, 0, none⟩ (.int .i64 e')) := (X.Only.refl (a + 1) w).set 0 _
  exact ⟨⟨(o1.block a (by omega)).trans h.v, by simp [World.setCell, Array.getElem?_modify, h.e]⟩, o1.below (by omega)⟩
theorem Tws.set {a : Nat} {s : ByteArray} {e : Int} {w : World} (h : Tws a s e w) (s' : ByteArray) (e' : Int) : Tws a s' e' ((w.setCell ⟨a, 0, none⟩ (.string s')).setCell ⟨a + 1, 0, none⟩ (.int .i64 e')) ∧ Below a w ((w.setCell ⟨a, 0, none⟩ (.string s')).setCell ⟨a + 1, 0, none⟩ (.int .i64 e')) := by
  obtain ⟨h1, b1⟩ := h.set0 s'
  obtain ⟨h2, b2⟩ := h1.set1 e'
  exact ⟨h2, b1.trans b2⟩
set_option maxRecDepth 100000 in
set_option maxHeartbeats 400000 in
theorem catch29 (a : Nat) (s : ByteArray) (e : Int) (w : World) (h : Tws a s 0 w) :
    CallsD Tryz.prog 19 #[.pointer (some ⟨a, 0, none⟩), .pointer (some ⟨a + 1, 0, none⟩)] (.panicking [{ v := .iface 58 (.int .i64 e), recovered := false }]) w fun r u' w' =>
      r = .returned (.tuple #[]) ∧ u' = .panicking [{ v := .iface 58 (.int .i64 e), recovered := true }] ∧ Tws a ⟨#[]⟩ e w' ∧ Below a w w' := by
  obtain ⟨c0, c2, f0, f2⟩ := h.cells
  have hne : a ≠ a + 1 := by omega
  have HT := Lib.hid (h.set ⟨#[]⟩ e)
  clear h
  refine callsD_of_wpS Tryz.func19 rfl fun c₀ cs hu => ?_
  apply wpS_seq
  apply wpS_region
  simp [wpOpsS, go_sem, recoverD, hu, Tryz.ntmps19, Exit.thenS]
  refine wpS_of_wp ?_
  go_wp2_with fail
  refine (refused_any e w).mono ?_
  rintro r w' ⟨rfl, rfl⟩
  go_wp2
  simp [bodyPostS, results, Tryz.results19]
  exact ⟨HT.out.1, HT.out.2⟩
set_option maxRecDepth 100000 in
set_option maxHeartbeats 400000 in
theorem idle29 (a b : Nat) (w : World) :
    CallsD Tryz.prog 19 #[.pointer (some ⟨a, 0, none⟩), .pointer (some ⟨b, 0, none⟩)] .returning w fun r u' w' => r = .returned (.tuple #[]) ∧ u' = .returning ∧ w' = w := by
  refine callsD_of_wpS Tryz.func19 rfl fun c₀ cs hu => ?_
  apply wpS_seq
  apply wpS_region
  simp [wpOpsS, go_sem, recoverD, hu, Tryz.ntmps19, Exit.thenS]
  refine wpS_of_wp ?_
  go_wp2_with fail
  cases c₀
  simp_all [bodyPostS, results, Tryz.results19]
theorem ItsAt.up {B B' : Nat} {w w' : World} {ao : Option Addr} {L : List Int} (h : ItsAt B w ao L) (hb : Below B w w') (hB : B ≤ B') : ItsAt B' w' ao L := fun i hi => by
  obtain ⟨g, off, e, hg, hc⟩ := h.low hb i hi
  exact ⟨g, off, e, by omega, hc⟩
theorem StsAt.up {B B' : Nat} {w w' : World} {ao : Option Addr} {L : List ByteArray} (h : StsAt B w ao L) (hb : Below B w w') (hB : B ≤ B') : StsAt B' w' ao L := fun i hi => by
  obtain ⟨g, off, e, hg, hc⟩ := h.low hb i hi
  exact ⟨g, off, e, by omega, hc⟩
set_option maxRecDepth 100000 in
set_option maxHeartbeats 2000000 in
theorem encode_any (t : List UInt8) (N : List Int) (T : List ByteArray) (aN : Option Addr) (cN : Nat) (aT : Option Addr) (cT : Nat) (w : World) (hN : ItsAt w.heap.size w aN N) (hT : StsAt w.heap.size w aT T) (hcn : N.length ≤ cN ∧ cN ≤ 9223372036854775807) (hct : T.length ≤ cT ∧ cT ≤ 9223372036854775807) (hK : worth N T + 200000 ≤ 140737488355328) (x : Except Int (List UInt8)) (hx : encO t N T = x) :
    Calls Tryz.prog 9 #[.string ⟨t.toArray⟩, .agg #[.slice aN N.length cN, .slice aT T.length cT]] w (EnTo w x) := by
  have hmf : ∀ (fn : Fn) (first cap : Array Value) (w : World), (Instr.makeFunc fn first cap).run Tryz.prog w = .ok (.func fn first cap) w := fun _ _ _ _ => rfl
  have HX := Lib.hid hx
  have HN := Lib.hid hN
  have HTT := Lib.hid hT
  have HC := Lib.hid (And.intro hcn hct)
  have HK := Lib.hid hK
  clear hx hN hT hcn hct hK
  obtain ⟨S, hS⟩ : ∃ S : ByteArray, S = ⟨t.toArray⟩ := ⟨_, rfl⟩
  rw [← hS]
  have HSS := Lib.hid hS
  clear hS
  obtain ⟨ln, hln⟩ : ∃ ln, N.length = ln := ⟨_, rfl⟩
  obtain ⟨lt, hlt⟩ : ∃ lt, T.length = lt := ⟨_, rfl⟩
  rw [hln, hlt]
  have HL := Lib.hid (And.intro hln hlt)
  clear hln hlt
  go_enter_defers Tryz.func9, Tryz.ntmps9
  go_wp2_with fail
  have hTw : Tws (w.heap.size + 1) ⟨#[]⟩ 0 (((w.alloc (.cells #[.slice aN ln cN, .slice aT lt cT] 26)).alloc (.cells #[.string ⟨#[]⟩] 9)).alloc (.cells #[.int .i64 0] 27)) := ⟨(Below.heap_alloc _ _ _ (by simp)).trans (by
      have := heap_alloc_new (w.alloc (.cells #[.slice aN ln cN, .slice aT lt cT] 26)) (.cells #[.string ⟨#[]⟩] 9)
      simpa using this), by
    have := heap_alloc_new ((w.alloc (.cells #[.slice aN ln cN, .slice aT lt cT] 26)).alloc (.cells #[.string ⟨#[]⟩] 9)) (.cells #[.int .i64 0] 27)
    simpa using this⟩
  have hV : (((w.alloc (.cells #[.slice aN ln cN, .slice aT lt cT] 26)).alloc (.cells #[.string ⟨#[]⟩] 9)).alloc (.cells #[.int .i64 0] 27)).heap[w.heap.size]? = some (.cells #[.slice aN ln cN, .slice aT lt cT] 26 (0, 0)) := (Below.heap_alloc _ _ _ (by simp; omega)).trans ((Below.heap_alloc _ _ _ (by simp)).trans (heap_alloc_new w _))
  have hbe : Below w.heap.size w (((w.alloc (.cells #[.slice aN ln cN, .slice aT lt cT] 26)).alloc (.cells #[.string ⟨#[]⟩] 9)).alloc (.cells #[.int .i64 0] 27)) := (((Below.refl _ _).alloc (Nat.le_refl _) _).alloc (by simp) _).alloc (by simp; omega) _
  have hsz : (((w.alloc (.cells #[.slice aN ln cN, .slice aT lt cT] 26)).alloc (.cells #[.string ⟨#[]⟩] 9)).alloc (.cells #[.int .i64 0] 27)).heap.size = w.heap.size + 1 + 1 + 1 := by simp
  generalize ((w.alloc (.cells #[.slice aN ln cN, .slice aT lt cT] 26)).alloc (.cells #[.string ⟨#[]⟩] 9)).alloc (.cells #[.int .i64 0] 27) = wa at *
  obtain ⟨A, hA⟩ : ∃ A, w.heap.size + 1 = A := ⟨_, rfl⟩
  obtain ⟨B, hB⟩ : ∃ B, w.heap.size = B := ⟨_, rfl⟩
  rw [hA] at hTw hsz ⊢
  rw [hB] at hV hA ⊢
  have HT := Lib.hid hTw
  have HBE := Lib.hid hbe
  have HSZ := Lib.hid hsz
  have HV := Lib.hid hV
  have HA := Lib.hid hA
  have HB := Lib.hid hB
  clear hTw hbe hsz hV hA hB
  have hbad : ∀ (e : Int) (w1 w2 : World), Below w.heap.size w w1 → Tws A ⟨#[]⟩ e w2 → Below A w1 w2 → EnTo w (.error e) (.returned (.tuple #[.string ⟨#[]⟩, .int .i64 e])) w2 := fun e w1 w2 h1 _ h2 => ⟨h1.trans (h2.mono (by have := HA.out; have := HB.out; omega)), rfl⟩
  have v0 : ∀ w1 : World, Below wa.heap.size wa w1 → w1.cell? ⟨B, 0, none⟩ = some (.slice aN ln cN) ∧ w1.cell? ⟨B, 1, none⟩ = some (.slice aT lt cT) := fun w1 h => by
    have h1 := (h.block B (by have := HSZ.out; have := HA.out; omega)).trans HV.out
    refine ⟨?_, ?_⟩ <;> (rw [cell_of_row _ _ _ _ _ _ h1]; rfl)
  have HV0 := Lib.hid v0
  obtain ⟨k0, k1⟩ := v0 wa (Below.refl _ _)
  clear v0
  have hx := HX.out
  unfold encO at hx
  have hpar := parse_any t wa.drew
  rw [← HSS.out] at hpar
  have HALE := Lib.hid (show w.heap.size ≤ A from by have := HA.out; have := HB.out; omega)
  have HQ := Lib.hid (show ∀ w1 : World, Below wa.drew.heap.size wa.drew w1 → Tws A ⟨#[]⟩ 0 w1 ∧ Below w.heap.size w w1 ∧ wa.heap.size ≤ w1.heap.size ∧ w1.cell? ⟨B, 0, none⟩ = some (.slice aN ln cN) ∧ w1.cell? ⟨B, 1, none⟩ = some (.slice aT lt cT) from fun w1 h => by
    have h : Below wa.heap.size wa w1 := ⟨h.os, h.tape, h.output, h.size, h.block⟩
    exact ⟨HT.out.below h (by have := HSZ.out; omega), HBE.out.trans (h.mono HBE.out.size), h.size, HV0.out w1 h⟩)
  cases hf : form num5 t with
  | none =>
    rw [hf] at hpar hx
    simp only at hx
    subst hx
    have HP := Lib.hid hpar
    have HBAD := Lib.hid hbad
    clear hpar hbad
    refine wp_region_any (by kernel_rfl) ?_
    change wpAny _ _ _ _ _ _ _ (World.drew _)
    refine wpAny_ready (rs := [0, 2]) (by kernel_rfl) (by simp) ?_
    refine AllReady.cons rfl (fun K1 hK1 => ?_) (AllReady.cons rfl (fun K1 hK1 => ?_) AllReady.nil)
    · go_simp
      refine hK1 _ _ ?_
      clear hK1 K1
      refine wpAny_ready (rs := [1, 2]) (by kernel_rfl) (by simp) ?_
      refine AllReady.cons rfl (fun K2 hK2 => ?_) (AllReady.cons rfl (fun K2 hK2 => ?_) AllReady.nil)
      · go_simp
        go_wp2_with fail
        refine HP.out.mono ?_
        rintro r w1 ⟨hb1, rfl⟩
        go_wp2
        refine leaves_cons (f := 19) (args := #[.pointer (some ⟨A, 0, none⟩), .pointer (some ⟨A + 1, 0, none⟩)]) (by simp) (by simp [go_sem]) ?_
        refine (catch29 A _ 1 w1 (HQ.out w1 hb1).1).mono ?_
        rintro r u' w9 ⟨rfl, rfl, hT9, hB9⟩
        have hfin := HBAD.out 1 w1 w9 (HQ.out w1 hb1).2.1 hT9 hB9
        obtain ⟨d0, d2, _, _⟩ := hT9.cells
        clear hT9 hB9
        simp [Leaves, settle, results, Tryz.results9, asAddr]
        simp [go_sem, d0, d2, hfin]
      · go_simp
        refine hK2 _ _ ?_
        clear hK2 K2
        refine wpAny_ready (rs := [1]) (by kernel_rfl) (by simp) ?_
        refine AllReady.cons rfl (fun K3 hK3 => ?_) AllReady.nil
        go_simp
        go_wp2_with fail
        refine HP.out.mono ?_
        rintro r w1 ⟨hb1, rfl⟩
        go_wp2
        refine leaves_cons (f := 19) (args := #[.pointer (some ⟨A, 0, none⟩), .pointer (some ⟨A + 1, 0, none⟩)]) (by simp) (by simp [go_sem]) ?_
        refine (catch29 A _ 1 w1 (HQ.out w1 hb1).1).mono ?_
        rintro r u' w9 ⟨rfl, rfl, hT9, hB9⟩
        have hfin := HBAD.out 1 w1 w9 (HQ.out w1 hb1).2.1 hT9 hB9
        obtain ⟨d0, d2, _, _⟩ := hT9.cells
        clear hT9 hB9
        simp [Leaves, settle, results, Tryz.results9, asAddr]
        simp [go_sem, d0, d2, hfin]
    · go_simp
      refine hK1 _ _ ?_
      clear hK1 K1
      refine wpAny_ready (rs := [0]) (by kernel_rfl) (by simp) ?_
      refine AllReady.cons rfl (fun K2 hK2 => ?_) AllReady.nil
      go_simp
      refine hK2 _ _ ?_
      clear hK2 K2
      refine wpAny_ready (rs := [1]) (by kernel_rfl) (by simp) ?_
      refine AllReady.cons rfl (fun K3 hK3 => ?_) AllReady.nil
      go_simp
      go_wp2_with fail
      refine HP.out.mono ?_
      rintro r w1 ⟨hb1, rfl⟩
      go_wp2
      refine leaves_cons (f := 19) (args := #[.pointer (some ⟨A, 0, none⟩), .pointer (some ⟨A + 1, 0, none⟩)]) (by simp) (by simp [go_sem]) ?_
      refine (catch29 A _ 1 w1 (HQ.out w1 hb1).1).mono ?_
      rintro r u' w9 ⟨rfl, rfl, hT9, hB9⟩
      have hfin := HBAD.out 1 w1 w9 (HQ.out w1 hb1).2.1 hT9 hB9
      obtain ⟨d0, d2, _, _⟩ := hT9.cells
      clear hT9 hB9
      simp [Leaves, settle, results, Tryz.results9, asAddr]
      simp [go_sem, d0, d2, hfin]
  | some row =>
    rw [hf] at hpar hx
    simp only at hx
    obtain ⟨hwf, hrz⟩ := wf_form hf
    have hfull := full_form hf
    have HP := Lib.hid hpar
    have HBAD := Lib.hid hbad
    clear hpar hbad hf
    obtain ⟨y, hy⟩ : ∃ y, laidO row N T = y := ⟨_, rfl⟩
    rw [hy] at hx
    have HY := Lib.hid hy
    have HX2 := Lib.hid hx
    clear hy hx
    refine wp_region_any (by kernel_rfl) ?_
    change wpAny _ _ _ _ _ _ _ (World.drew _)
    refine wpAny_ready (rs := [0, 2]) (by kernel_rfl) (by simp) ?_
    refine AllReady.cons rfl (fun K1 hK1 => ?_) (AllReady.cons rfl (fun K1 hK1 => ?_) AllReady.nil)
    · go_simp
      refine hK1 _ _ ?_
      clear hK1 K1
      refine wpAny_ready (rs := [1, 2]) (by kernel_rfl) (by simp) ?_
      refine AllReady.cons rfl (fun K2 hK2 => ?_) (AllReady.cons rfl (fun K2 hK2 => ?_) AllReady.nil)
      · go_simp
        go_wp2_with fail
        refine HP.out.mono ?_
        rintro r w1 ⟨hb1, v, rfl, hv⟩
        have hq := HQ.out w1 hb1
        have hlay := laid_any row v N T aN cN aT cT w1 hv.lo hwf hfull hrz (HN.out.up hq.2.1 hq.2.1.size) (HTT.out.up hq.2.1 hq.2.1.size) HC.out.1 HC.out.2 HK.out y HY.out
        rw [HL.out.1, HL.out.2] at hlay
        have HLAY := Lib.hid hlay
        have HQ1 := Lib.hid hq
        obtain ⟨m0, m1⟩ := hq.2.2.2
        clear hlay hq hv hb1
        refine hK2 _ _ ?_
        clear hK2 K2
        refine wpAny_ready (rs := [2]) (by kernel_rfl) (by simp) ?_
        refine AllReady.cons rfl (fun K5 hK5 => ?_) AllReady.nil
        go_simp
        refine hK5 _ _ ?_
        clear hK5 K5
        refine wpAny_ready (rs := [3]) (by kernel_rfl) (by simp) ?_
        refine AllReady.cons rfl (fun K6 hK6 => ?_) AllReady.nil
        go_simp
        go_wp2_with fail
        refine HLAY.out.mono ?_
        rintro r w2 ⟨hB2, hr⟩
        have HT2 := Lib.hid (HQ1.out.1.below hB2 (by have := HQ1.out.2.2.1; have := HSZ.out; omega))
        have HB2 := Lib.hid (HQ1.out.2.1.trans (hB2.mono HQ1.out.2.1.size))
        clear hB2
        cases y with
        | error e =>
          simp only at hr
          have hx := HX2.out
          simp only at hx
          subst hr hx
          go_wp2
          refine leaves_cons (f := 19) (args := #[.pointer (some ⟨A, 0, none⟩), .pointer (some ⟨A + 1, 0, none⟩)]) (by simp) (by simp [go_sem]) ?_
          refine (catch29 A _ e w2 HT2.out).mono ?_
          rintro r u' w9 ⟨rfl, rfl, hT9, hB9⟩
          have hfin := HBAD.out e w2 w9 HB2.out hT9 hB9
          obtain ⟨d0, d2, _, _⟩ := hT9.cells
          clear hT9 hB9
          simp [Leaves, settle, results, Tryz.results9, asAddr]
          simp [go_sem, d0, d2, hfin]
        | ok b =>
          simp only at hr
          subst hr
          refine hK6 _ _ ?_
          clear hK6 K6
          obtain ⟨c0, c2, f0, f2⟩ := HT2.out.cells
          refine wpAny_ready (rs := [4]) (by kernel_rfl) (by simp) ?_
          refine AllReady.cons rfl (fun K7 hK7 => ?_) AllReady.nil
          go_simp
          refine hK7 _ _ ?_
          clear hK7 K7
          refine wpAny_done (by kernel_rfl) ?_ _
          obtain ⟨hT3, hB3⟩ := HT2.out.set0 ⟨b.toArray⟩
          have HT3 := Lib.hid hT3
          have HB3 := Lib.hid (HB2.out.trans (hB3.mono HALE.out))
          clear hT3 hB3 c0 c2 f0 f2
          generalize w2.setCell ⟨A, 0, none⟩ (.string ⟨b.toArray⟩) = w3 at *
          obtain ⟨c0, c2, f0, f2⟩ := HT3.out.cells
          have hne : A ≠ A + 1 := by omega
          have hx := HX2.out
          simp only at hx
          obtain ⟨Z, hZ⟩ : ∃ Z : ByteArray, Z = ⟨b.toArray⟩ := ⟨_, rfl⟩
          have hzs : Z.size = b.length := by rw [hZ]; show b.toArray.size = _; simp
          rw [← hZ] at HT3 c0 ⊢
          by_cases hl : 65536 < b.length
          · rw [if_pos hl] at hx
            subst hx
            rw [← hzs] at hl
            go_wp2_with fail
            refine (refuse_any 2 w3).mono ?_
            rintro r w4 ⟨rfl, rfl⟩
            go_wp2
            refine leaves_cons (f := 19) (args := #[.pointer (some ⟨A, 0, none⟩), .pointer (some ⟨A + 1, 0, none⟩)]) (by simp) (by simp [go_sem]) ?_
            refine (catch29 A _ 2 w3 HT3.out).mono ?_
            rintro r u' w9 ⟨rfl, rfl, hT9, hB9⟩
            have hfin := HBAD.out 2 w3 w9 HB3.out hT9 hB9
            obtain ⟨d0, d2, _, _⟩ := hT9.cells
            clear hT9 hB9
            simp [Leaves, settle, results, Tryz.results9, asAddr]
            simp [go_sem, d0, d2, hfin]
          · rw [if_neg hl] at hx
            subst hx
            rw [← hzs] at hl
            have HZ := Lib.hid hZ
            clear hZ hzs
            go_wp2
            obtain ⟨hT4, hB4⟩ := HT3.out.set Z 0
            have hfin : EnTo w (.ok b) (.returned (.tuple #[.string Z, .int .i64 0])) ((w3.setCell ⟨A, 0, none⟩ (.string Z)).setCell ⟨A + 1, 0, none⟩ (.int .i64 0)) := ⟨HB3.out.trans (hB4.mono HALE.out), by rw [HZ.out]⟩
            generalize (w3.setCell ⟨A, 0, none⟩ (.string Z)).setCell ⟨A + 1, 0, none⟩ (.int .i64 0) = w4 at *
            refine leaves_cons (f := 19) (args := #[.pointer (some ⟨A, 0, none⟩), .pointer (some ⟨A + 1, 0, none⟩)]) (by simp) (by simp [go_sem]) ?_
            refine (idle29 A (A + 1) w4).mono ?_
            rintro r u' w9 ⟨rfl, rfl, rfl⟩
            obtain ⟨d0, d2, _, _⟩ := hT4.cells
            clear hT4 hB4
            simp [Leaves, settle, results, Tryz.results9, asAddr]
            simp [go_sem, d0, d2, hfin]
      · go_simp
        refine hK2 _ _ ?_
        clear hK2 K2
        refine wpAny_ready (rs := [1]) (by kernel_rfl) (by simp) ?_
        refine AllReady.cons rfl (fun K3 hK3 => ?_) AllReady.nil
        go_simp
        go_wp2_with fail
        refine HP.out.mono ?_
        rintro r w1 ⟨hb1, v, rfl, hv⟩
        have hq := HQ.out w1 hb1
        have hlay := laid_any row v N T aN cN aT cT w1 hv.lo hwf hfull hrz (HN.out.up hq.2.1 hq.2.1.size) (HTT.out.up hq.2.1 hq.2.1.size) HC.out.1 HC.out.2 HK.out y HY.out
        rw [HL.out.1, HL.out.2] at hlay
        have HLAY := Lib.hid hlay
        have HQ1 := Lib.hid hq
        obtain ⟨m0, m1⟩ := hq.2.2.2
        clear hlay hq hv hb1
        refine hK3 _ _ ?_
        clear hK3 K3
        refine wpAny_ready (rs := [3]) (by kernel_rfl) (by simp) ?_
        refine AllReady.cons rfl (fun K6 hK6 => ?_) AllReady.nil
        go_simp
        go_wp2_with fail
        refine HLAY.out.mono ?_
        rintro r w2 ⟨hB2, hr⟩
        have HT2 := Lib.hid (HQ1.out.1.below hB2 (by have := HQ1.out.2.2.1; have := HSZ.out; omega))
        have HB2 := Lib.hid (HQ1.out.2.1.trans (hB2.mono HQ1.out.2.1.size))
        clear hB2
        cases y with
        | error e =>
          simp only at hr
          have hx := HX2.out
          simp only at hx
          subst hr hx
          go_wp2
          refine leaves_cons (f := 19) (args := #[.pointer (some ⟨A, 0, none⟩), .pointer (some ⟨A + 1, 0, none⟩)]) (by simp) (by simp [go_sem]) ?_
          refine (catch29 A _ e w2 HT2.out).mono ?_
          rintro r u' w9 ⟨rfl, rfl, hT9, hB9⟩
          have hfin := HBAD.out e w2 w9 HB2.out hT9 hB9
          obtain ⟨d0, d2, _, _⟩ := hT9.cells
          clear hT9 hB9
          simp [Leaves, settle, results, Tryz.results9, asAddr]
          simp [go_sem, d0, d2, hfin]
        | ok b =>
          simp only at hr
          subst hr
          refine hK6 _ _ ?_
          clear hK6 K6
          obtain ⟨c0, c2, f0, f2⟩ := HT2.out.cells
          refine wpAny_ready (rs := [4]) (by kernel_rfl) (by simp) ?_
          refine AllReady.cons rfl (fun K7 hK7 => ?_) AllReady.nil
          go_simp
          refine hK7 _ _ ?_
          clear hK7 K7
          refine wpAny_done (by kernel_rfl) ?_ _
          obtain ⟨hT3, hB3⟩ := HT2.out.set0 ⟨b.toArray⟩
          have HT3 := Lib.hid hT3
          have HB3 := Lib.hid (HB2.out.trans (hB3.mono HALE.out))
          clear hT3 hB3 c0 c2 f0 f2
          generalize w2.setCell ⟨A, 0, none⟩ (.string ⟨b.toArray⟩) = w3 at *
          obtain ⟨c0, c2, f0, f2⟩ := HT3.out.cells
          have hne : A ≠ A + 1 := by omega
          have hx := HX2.out
          simp only at hx
          obtain ⟨Z, hZ⟩ : ∃ Z : ByteArray, Z = ⟨b.toArray⟩ := ⟨_, rfl⟩
          have hzs : Z.size = b.length := by rw [hZ]; show b.toArray.size = _; simp
          rw [← hZ] at HT3 c0 ⊢
          by_cases hl : 65536 < b.length
          · rw [if_pos hl] at hx
            subst hx
            rw [← hzs] at hl
            go_wp2_with fail
            refine (refuse_any 2 w3).mono ?_
            rintro r w4 ⟨rfl, rfl⟩
            go_wp2
            refine leaves_cons (f := 19) (args := #[.pointer (some ⟨A, 0, none⟩), .pointer (some ⟨A + 1, 0, none⟩)]) (by simp) (by simp [go_sem]) ?_
            refine (catch29 A _ 2 w3 HT3.out).mono ?_
            rintro r u' w9 ⟨rfl, rfl, hT9, hB9⟩
            have hfin := HBAD.out 2 w3 w9 HB3.out hT9 hB9
            obtain ⟨d0, d2, _, _⟩ := hT9.cells
            clear hT9 hB9
            simp [Leaves, settle, results, Tryz.results9, asAddr]
            simp [go_sem, d0, d2, hfin]
          · rw [if_neg hl] at hx
            subst hx
            rw [← hzs] at hl
            have HZ := Lib.hid hZ
            clear hZ hzs
            go_wp2
            obtain ⟨hT4, hB4⟩ := HT3.out.set Z 0
            have hfin : EnTo w (.ok b) (.returned (.tuple #[.string Z, .int .i64 0])) ((w3.setCell ⟨A, 0, none⟩ (.string Z)).setCell ⟨A + 1, 0, none⟩ (.int .i64 0)) := ⟨HB3.out.trans (hB4.mono HALE.out), by rw [HZ.out]⟩
            generalize (w3.setCell ⟨A, 0, none⟩ (.string Z)).setCell ⟨A + 1, 0, none⟩ (.int .i64 0) = w4 at *
            refine leaves_cons (f := 19) (args := #[.pointer (some ⟨A, 0, none⟩), .pointer (some ⟨A + 1, 0, none⟩)]) (by simp) (by simp [go_sem]) ?_
            refine (idle29 A (A + 1) w4).mono ?_
            rintro r u' w9 ⟨rfl, rfl, rfl⟩
            obtain ⟨d0, d2, _, _⟩ := hT4.cells
            clear hT4 hB4
            simp [Leaves, settle, results, Tryz.results9, asAddr]
            simp [go_sem, d0, d2, hfin]
    · go_simp
      refine hK1 _ _ ?_
      clear hK1 K1
      refine wpAny_ready (rs := [0]) (by kernel_rfl) (by simp) ?_
      refine AllReady.cons rfl (fun K2 hK2 => ?_) AllReady.nil
      go_simp
      refine hK2 _ _ ?_
      clear hK2 K2
      refine wpAny_ready (rs := [1]) (by kernel_rfl) (by simp) ?_
      refine AllReady.cons rfl (fun K3 hK3 => ?_) AllReady.nil
      go_simp
      go_wp2_with fail
      refine HP.out.mono ?_
      rintro r w1 ⟨hb1, v, rfl, hv⟩
      have hq := HQ.out w1 hb1
      have hlay := laid_any row v N T aN cN aT cT w1 hv.lo hwf hfull hrz (HN.out.up hq.2.1 hq.2.1.size) (HTT.out.up hq.2.1 hq.2.1.size) HC.out.1 HC.out.2 HK.out y HY.out
      rw [HL.out.1, HL.out.2] at hlay
      have HLAY := Lib.hid hlay
      have HQ1 := Lib.hid hq
      obtain ⟨m0, m1⟩ := hq.2.2.2
      clear hlay hq hv hb1
      refine hK3 _ _ ?_
      clear hK3 K3
      refine wpAny_ready (rs := [3]) (by kernel_rfl) (by simp) ?_
      refine AllReady.cons rfl (fun K6 hK6 => ?_) AllReady.nil
      go_simp
      go_wp2_with fail
      refine HLAY.out.mono ?_
      rintro r w2 ⟨hB2, hr⟩
      have HT2 := Lib.hid (HQ1.out.1.below hB2 (by have := HQ1.out.2.2.1; have := HSZ.out; omega))
      have HB2 := Lib.hid (HQ1.out.2.1.trans (hB2.mono HQ1.out.2.1.size))
      clear hB2
      cases y with
      | error e =>
        simp only at hr
        have hx := HX2.out
        simp only at hx
        subst hr hx
        go_wp2
        refine leaves_cons (f := 19) (args := #[.pointer (some ⟨A, 0, none⟩), .pointer (some ⟨A + 1, 0, none⟩)]) (by simp) (by simp [go_sem]) ?_
        refine (catch29 A _ e w2 HT2.out).mono ?_
        rintro r u' w9 ⟨rfl, rfl, hT9, hB9⟩
        have hfin := HBAD.out e w2 w9 HB2.out hT9 hB9
        obtain ⟨d0, d2, _, _⟩ := hT9.cells
        clear hT9 hB9
        simp [Leaves, settle, results, Tryz.results9, asAddr]
        simp [go_sem, d0, d2, hfin]
      | ok b =>
        simp only at hr
        subst hr
        refine hK6 _ _ ?_
        clear hK6 K6
        obtain ⟨c0, c2, f0, f2⟩ := HT2.out.cells
        refine wpAny_ready (rs := [4]) (by kernel_rfl) (by simp) ?_
        refine AllReady.cons rfl (fun K7 hK7 => ?_) AllReady.nil
        go_simp
        refine hK7 _ _ ?_
        clear hK7 K7
        refine wpAny_done (by kernel_rfl) ?_ _
        obtain ⟨hT3, hB3⟩ := HT2.out.set0 ⟨b.toArray⟩
        have HT3 := Lib.hid hT3
        have HB3 := Lib.hid (HB2.out.trans (hB3.mono HALE.out))
        clear hT3 hB3 c0 c2 f0 f2
        generalize w2.setCell ⟨A, 0, none⟩ (.string ⟨b.toArray⟩) = w3 at *
        obtain ⟨c0, c2, f0, f2⟩ := HT3.out.cells
        have hne : A ≠ A + 1 := by omega
        have hx := HX2.out
        simp only at hx
        obtain ⟨Z, hZ⟩ : ∃ Z : ByteArray, Z = ⟨b.toArray⟩ := ⟨_, rfl⟩
        have hzs : Z.size = b.length := by rw [hZ]; show b.toArray.size = _; simp
        rw [← hZ] at HT3 c0 ⊢
        by_cases hl : 65536 < b.length
        · rw [if_pos hl] at hx
          subst hx
          rw [← hzs] at hl
          go_wp2_with fail
          refine (refuse_any 2 w3).mono ?_
          rintro r w4 ⟨rfl, rfl⟩
          go_wp2
          refine leaves_cons (f := 19) (args := #[.pointer (some ⟨A, 0, none⟩), .pointer (some ⟨A + 1, 0, none⟩)]) (by simp) (by simp [go_sem]) ?_
          refine (catch29 A _ 2 w3 HT3.out).mono ?_
          rintro r u' w9 ⟨rfl, rfl, hT9, hB9⟩
          have hfin := HBAD.out 2 w3 w9 HB3.out hT9 hB9
          obtain ⟨d0, d2, _, _⟩ := hT9.cells
          clear hT9 hB9
          simp [Leaves, settle, results, Tryz.results9, asAddr]
          simp [go_sem, d0, d2, hfin]
        · rw [if_neg hl] at hx
          subst hx
          rw [← hzs] at hl
          have HZ := Lib.hid hZ
          clear hZ hzs
          go_wp2
          obtain ⟨hT4, hB4⟩ := HT3.out.set Z 0
          have hfin : EnTo w (.ok b) (.returned (.tuple #[.string Z, .int .i64 0])) ((w3.setCell ⟨A, 0, none⟩ (.string Z)).setCell ⟨A + 1, 0, none⟩ (.int .i64 0)) := ⟨HB3.out.trans (hB4.mono HALE.out), by rw [HZ.out]⟩
          generalize (w3.setCell ⟨A, 0, none⟩ (.string Z)).setCell ⟨A + 1, 0, none⟩ (.int .i64 0) = w4 at *
          refine leaves_cons (f := 19) (args := #[.pointer (some ⟨A, 0, none⟩), .pointer (some ⟨A + 1, 0, none⟩)]) (by simp) (by simp [go_sem]) ?_
          refine (idle29 A (A + 1) w4).mono ?_
          rintro r u' w9 ⟨rfl, rfl, rfl⟩
          obtain ⟨d0, d2, _, _⟩ := hT4.cells
          clear hT4 hB4
          simp [Leaves, settle, results, Tryz.results9, asAddr]
          simp [go_sem, d0, d2, hfin]
end Go.Proofs.YtjogcdkebplcpaaGreatDoor
