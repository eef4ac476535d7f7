/-
  GetSet: the Set of numbers, or none. Its condition: the numbers lie in memory.
-/
import Derived.Test.YtedcgmagkkoggaaSu
import Derived.Test.YtedcgmagkkoggaaGp
namespace Go.Proofs.Ytedcgmagkkoggaa
open Go.RowKit
theorem up_len {m x : Int} {L q : List Int} (h : upO m L = some (x, q)) : q.length ≤ L.length := by
  cases L with
  | nil => cases h
  | cons y q' =>
    by_cases k : 0 ≤ y ∧ y ≤ m
    · simp only [upO, if_pos k, Option.some.injEq, Prod.mk.injEq] at h
      obtain ⟨rfl, rfl⟩ := h
      simp
    · simp only [upO, if_neg k] at h
      cases h
theorem pe_len {b : Bool} {x : Int} {L q : List Int} (h : peO L = some (b, x, q)) : q.length ≤ L.length := by
  unfold peO at h
  cases hu : upO 1 L with
  | none => rw [hu] at h; cases h
  | some y =>
    obtain ⟨c, r⟩ := y
    rw [hu] at h
    have := up_len hu
    dsimp only at h
    split at h
    · injection h with h; injection h with _ h; injection h with _ h; subst h; exact this
    · cases r with
      | nil => cases h
      | cons z q' => injection h with h; injection h with _ h; injection h with _ h; subst h; simp at this; omega
theorem mo_len {a b c : Int} {L q : List Int} (h : moO L = some (a, b, c, q)) : q.length ≤ L.length := by
  unfold moO at h
  cases hu : upO 2 L with
  | none => rw [hu] at h; cases h
  | some y =>
    obtain ⟨d, r⟩ := y
    rw [hu] at h
    have := up_len hu
    dsimp only at h
    split at h
    · match r, h with
      | [], h => cases h
      | [x], h => cases h
      | x :: y :: q', h => injection h with h; injection h with _ h; injection h with _ h; injection h with _ h; subst h; simp at this; omega
    · injection h with h; injection h with _ h; injection h with _ h; injection h with _ h; subst h; exact this
theorem set_form {L M : List Int} {cs : Array Value} (h : setO L = some (cs, M)) : (∃ (b0 b1 b2 b3 : Bool) (x0 x1 x2 x3 h0 h1 a0 a1 m0 m1 : Int), cs = #[.bool b0, .bool b1, .bool b2, .bool b3, .int .i64 x0, .int .i64 x1, .int .i64 x2, .int .i64 x3, .int .i64 h0, .int .i64 h1, .int .i64 a0, .int .i64 a1, .int .i64 m0, .int .i64 m1]) ∧ M.length ≤ L.length := by
  unfold setO at h
  cases o0 : peO L with
  | none => rw [o0] at h; cases h
  | some y0 =>
  obtain ⟨b0, x0, L0⟩ := y0
  cases o1 : peO L0 with
  | none => simp only [o0, o1] at h; cases h
  | some y1 =>
  obtain ⟨b1, x1, L1⟩ := y1
  cases o2 : peO L1 with
  | none => simp only [o0, o1, o2] at h; cases h
  | some y2 =>
  obtain ⟨b2, x2, L2⟩ := y2
  cases o3 : peO L2 with
  | none => simp only [o0, o1, o2, o3] at h; cases h
  | some y3 =>
  obtain ⟨b3, x3, L3⟩ := y3
  cases o4 : moO L3 with
  | none => simp only [o0, o1, o2, o3, o4] at h; cases h
  | some y4 =>
  obtain ⟨h0, a0, a1, L4⟩ := y4
  cases o5 : moO L4 with
  | none => simp only [o0, o1, o2, o3, o4, o5] at h; cases h
  | some y5 =>
  obtain ⟨h1, m0, m1, L5⟩ := y5
  simp only [o0, o1, o2, o3, o4, o5] at h
  injection h with h
  injection h with e1 e2
  have k0 := pe_len o0
  have k1 := pe_len o1
  have k2 := pe_len o2
  have k3 := pe_len o3
  have k4 := mo_len o4
  have k5 := mo_len o5
  refine ⟨⟨b0, b1, b2, b3, x0, x1, x2, x3, h0, h1, a0, a1, m0, m1, e1.symm⟩, ?_⟩
  rw [← e2]
  omega
set_option maxRecDepth 100000 in
set_option maxHeartbeats 400000 in
theorem idle30 (w : World) :
    CallsD Try.prog 30 #[] .returning w fun r u' w' => r = .returned (.tuple #[]) ∧ u' = .returning ∧ w' = w := by
  refine callsD_of_wpS Try.func30 rfl fun c₀ cs hu => ?_
  apply wpS_seq
  apply wpS_region
  simp [wpOpsS, go_sem, recoverD, hu, Try.ntmps30, Exit.thenS]
  refine wpS_of_wp ?_
  go_wp2_with fail
  cases c₀
  simp_all [bodyPostS, results, Try.results30]
set_option maxRecDepth 100000 in
set_option maxHeartbeats 400000 in
theorem catch30 (w : World) :
    CallsD Try.prog 30 #[] (.panicking [{ v := .iface 79 (.agg #[]), recovered := false }]) w fun r u' w' =>
      r = .returned (.tuple #[]) ∧ u' = .panicking [{ v := .iface 79 (.agg #[]), recovered := true }] ∧ Below w.heap.size w w' := by
  refine callsD_of_wpS Try.func30 rfl fun c₀ cs hu => ?_
  apply wpS_seq
  apply wpS_region
  simp [wpOpsS, go_sem, recoverD, hu, Try.ntmps30, Exit.thenS]
  refine wpS_of_wp ?_
  go_wp2_with fail
  refine (only_any w).mono ?_
  rintro r w' ⟨rfl, hB⟩
  have HB := Lib.hid hB
  clear hB
  go_wp2
  simp [bodyPostS, results, Try.results30]
  exact HB.out
theorem two_boxes' (w : World) (ao : Option Addr) (L : List Int) (cap : Nat) (hI : IntsAt w ao L) (hc : L.length ≤ cap) (hc2 : cap ≤ 9223372036854775807) :
    TF w.heap.size (w.heap.size + 1) L w ((w.alloc (.cells #[.bool false, .bool false, .bool false, .bool false, .int .i64 0, .int .i64 0, .int .i64 0, .int .i64 0, .int .i64 0, .int .i64 0, .int .i64 0, .int .i64 0, .int .i64 0, .int .i64 0] 43)).alloc (.cells #[.slice ao L.length cap] 70)) ∧ SAt ((w.alloc (.cells #[.bool false, .bool false, .bool false, .bool false, .int .i64 0, .int .i64 0, .int .i64 0, .int .i64 0, .int .i64 0, .int .i64 0, .int .i64 0, .int .i64 0, .int .i64 0, .int .i64 0] 43)).alloc (.cells #[.slice ao L.length cap] 70)) w.heap.size #[.bool false, .bool false, .bool false, .bool false, .int .i64 0, .int .i64 0, .int .i64 0, .int .i64 0, .int .i64 0, .int .i64 0, .int .i64 0, .int .i64 0, .int .i64 0, .int .i64 0] := by
  have hB := ((Below.refl w.heap.size w).alloc (Nat.le_refl _) (.cells #[.bool false, .bool false, .bool false, .bool false, .int .i64 0, .int .i64 0, .int .i64 0, .int .i64 0, .int .i64 0, .int .i64 0, .int .i64 0, .int .i64 0, .int .i64 0, .int .i64 0] 43)).alloc (by simp) (.cells #[.slice ao L.length cap] 70)
  have h2 := heap_alloc_new (w.alloc (.cells #[.bool false, .bool false, .bool false, .bool false, .int .i64 0, .int .i64 0, .int .i64 0, .int .i64 0, .int .i64 0, .int .i64 0, .int .i64 0, .int .i64 0, .int .i64 0, .int .i64 0] 43)) (.cells #[.slice ao L.length cap] 70)
  rw [show (w.alloc (.cells #[.bool false, .bool false, .bool false, .bool false, .int .i64 0, .int .i64 0, .int .i64 0, .int .i64 0, .int .i64 0, .int .i64 0, .int .i64 0, .int .i64 0, .int .i64 0, .int .i64 0] 43)).heap.size = w.heap.size + 1 from by simp] at h2
  refine ⟨⟨by omega, by simp; omega, ⟨ao, cap, h2, ?_, hc, hc2⟩, hB⟩, ?_⟩
  · intro i hi
    obtain ⟨g, off, e1, e2, e3⟩ := hI i hi
    exact ⟨g, off, e1, e2, (hB.cell (p := ⟨g, _, none⟩) e2).trans e3⟩
  · exact ((World.grownBy_alloc _ _ none).block w.heap.size (by simp) (by simp)).trans (heap_alloc_new w _)
/-- What GetSet answers. -/
def GetTo (w : World) (x : Option (Array Value × List Int)) (r : Ending) (w' : World) : Prop :=
  Below w.heap.size w w' ∧ match x with
    | none => r = .returned (.tuple #[.agg #[.bool false, .bool false, .bool false, .bool false, .int .i64 0, .int .i64 0, .int .i64 0, .int .i64 0, .int .i64 0, .int .i64 0, .int .i64 0, .int .i64 0, .int .i64 0, .int .i64 0], .slice none 0 0, .bool false])
    | some (cs, M) => ∃ bo bcap, r = .returned (.tuple #[.agg cs, .slice bo M.length bcap, .bool true]) ∧ IntsAt w' bo M ∧ ∀ g off, bo = some ⟨g, off, none⟩ → w.heap.size ≤ g
set_option maxRecDepth 100000 in
set_option maxHeartbeats 4000000 in
theorem taken_set (L : List Int) (ao : Option Addr) (cap : Nat) (w : World) (hI : IntsAt w ao L) (hc : L.length ≤ cap) (hc2 : cap ≤ 9223372036854775807) (hsz : L.length * 8 ≤ 140737488355328) (X : Option (Array Value × List Int)) (hX : setO L = X) :
    Calls Try.prog 23 #[.slice ao L.length cap, .func (.func 24) #[] #[]] w (GetTo w X) := by
  obtain ⟨hT, hA⟩ := two_boxes' w ao L cap hI hc hc2
  have HT := Lib.hid hT
  have HA := Lib.hid hA
  have HX := Lib.hid hX
  clear hT hA hI hX
  go_enter_defers Try.func23, Try.ntmps23
  go_wp2_with fail
  generalize ((w.alloc (.cells #[.bool false, .bool false, .bool false, .bool false, .int .i64 0, .int .i64 0, .int .i64 0, .int .i64 0, .int .i64 0, .int .i64 0, .int .i64 0, .int .i64 0, .int .i64 0, .int .i64 0] 43)).alloc (.cells #[.slice ao L.length cap] 70)) = W at *
  have hsm : w.heap.size ≤ W.heap.size := HT.out.hN
  refine (set_any HT.out X HX.out).mono ?_
  cases X with
  | none =>
    rintro r w1 ⟨rfl, hF⟩
    have HA1 := Lib.hid (show SAt w1 w.heap.size #[.bool false, .bool false, .bool false, .bool false, .int .i64 0, .int .i64 0, .int .i64 0, .int .i64 0, .int .i64 0, .int .i64 0, .int .i64 0, .int .i64 0, .int .i64 0, .int .i64 0] from (hF.block _ HA.out.lt (by omega)).trans HA.out)
    have HB1 := Lib.hid (hF.below HT.out.low HT.out.hp HT.out.hN)
    clear hF HT HA
    go_wp2
    refine leaves_cons (f := 30) (args := #[]) (by simp) (by simp [go_sem]) ?_
    refine (catch30 w1).mono ?_
    rintro e u' w2 ⟨rfl, rfl, hB⟩
    have hfin : GetTo w none (.returned (.tuple #[.agg #[.bool false, .bool false, .bool false, .bool false, .int .i64 0, .int .i64 0, .int .i64 0, .int .i64 0, .int .i64 0, .int .i64 0, .int .i64 0, .int .i64 0, .int .i64 0, .int .i64 0], .slice none 0 0, .bool false])) w2 := ⟨HB1.out.trans (hB.mono HB1.out.size), rfl⟩
    have hL := run_loadVar_row (P := Try.prog) w2 w.heap.size 43 43 _ (0, 0) _ (HA1.out.keep hB) Try.underlying43 rfl (by kernel_rfl)
    clear hB
    generalize w.heap.size = A at *
    simp [Leaves, settle, results, Try.results23, hL, asAddr]
    exact hfin
  | some y =>
    obtain ⟨cs, M⟩ := y
    obtain ⟨⟨b0, b1, b2, b3, x0, x1, x2, x3, h0, h1, a0, a1, m0, m1, rfl⟩, hM⟩ := set_form HX.out
    rintro r w1 ⟨rfl, hT1, hF⟩
    have HA1 := Lib.hid (show SAt w1 w.heap.size #[.bool false, .bool false, .bool false, .bool false, .int .i64 0, .int .i64 0, .int .i64 0, .int .i64 0, .int .i64 0, .int .i64 0, .int .i64 0, .int .i64 0, .int .i64 0, .int .i64 0] from (hF.block _ HA.out.lt (by omega)).trans HA.out)
    have HT1 := Lib.hid hT1
    clear hF HT HA hT1
    go_upto_region 4 with (refine wpList_store_row rfl 43 _ _ rfl w.heap.size #[.bool b0, .bool b1, .bool b2, .bool b3, .int .i64 x0, .int .i64 x1, .int .i64 x2, .int .i64 x3, .int .i64 h0, .int .i64 h1, .int .i64 a0, .int .i64 a1, .int .i64 m0, .int .i64 m1] rfl rfl 43 _ HA1.out (by kernel_rfl) rfl (by simp [Value.oneCell']) ?_; simp only [Act.put])
    have hF := set_row_fq' w1 w.heap.size #[.bool b0, .bool b1, .bool b2, .bool b3, .int .i64 x0, .int .i64 x1, .int .i64 x2, .int .i64 x3, .int .i64 h0, .int .i64 h1, .int .i64 a0, .int .i64 a1, .int .i64 m0, .int .i64 m1]
    have hT2 := HT1.out.keep hF (Nat.le_refl _) (by omega)
    have HAd : Hid (SAt (w1.setRow w.heap.size #[.bool b0, .bool b1, .bool b2, .bool b3, .int .i64 x0, .int .i64 x1, .int .i64 x2, .int .i64 x3, .int .i64 h0, .int .i64 h1, .int .i64 a0, .int .i64 a1, .int .i64 m0, .int .i64 m1]).drew w.heap.size #[.bool b0, .bool b1, .bool b2, .bool b3, .int .i64 x0, .int .i64 x1, .int .i64 x2, .int .i64 x3, .int .i64 h0, .int .i64 h1, .int .i64 a0, .int .i64 a1, .int .i64 m0, .int .i64 m1]) := Lib.hid (HA1.out.set #[.bool b0, .bool b1, .bool b2, .bool b3, .int .i64 x0, .int .i64 x1, .int .i64 x2, .int .i64 x3, .int .i64 h0, .int .i64 h1, .int .i64 a0, .int .i64 a1, .int .i64 m0, .int .i64 m1])
    have HBd : Hid (Below w.heap.size w (w1.setRow w.heap.size #[.bool b0, .bool b1, .bool b2, .bool b3, .int .i64 x0, .int .i64 x1, .int .i64 x2, .int .i64 x3, .int .i64 h0, .int .i64 h1, .int .i64 a0, .int .i64 a1, .int .i64 m0, .int .i64 m1]).drew) := Lib.hid hT2.low.drew
    obtain ⟨bo, bcap, q1, q2, q3, q4⟩ := hT2.box
    have c0 : (w1.setRow w.heap.size #[.bool b0, .bool b1, .bool b2, .bool b3, .int .i64 x0, .int .i64 x1, .int .i64 x2, .int .i64 x3, .int .i64 h0, .int .i64 h1, .int .i64 a0, .int .i64 a1, .int .i64 m0, .int .i64 m1]).drew.cell? ⟨w.heap.size + 1, 0, none⟩ = some (.slice bo M.length bcap) := by
      have : (w1.setRow w.heap.size #[.bool b0, .bool b1, .bool b2, .bool b3, .int .i64 x0, .int .i64 x1, .int .i64 x2, .int .i64 x3, .int .i64 h0, .int .i64 h1, .int .i64 a0, .int .i64 a1, .int .i64 m0, .int .i64 m1]).cell? ⟨w.heap.size + 1, 0, none⟩ = some (.slice bo M.length bcap) := by rw [cell_of_row _ _ 0 _ _ _ q1]; rfl
      exact this
    have HI : Hid (IntsAt (w1.setRow w.heap.size #[.bool b0, .bool b1, .bool b2, .bool b3, .int .i64 x0, .int .i64 x1, .int .i64 x2, .int .i64 x3, .int .i64 h0, .int .i64 h1, .int .i64 a0, .int .i64 a1, .int .i64 m0, .int .i64 m1]).drew bo M) := Lib.hid (b_ints q2 hT2.hN)
    have hone : (#[.bool b0, .bool b1, .bool b2, .bool b3, .int .i64 x0, .int .i64 x1, .int .i64 x2, .int .i64 x3, .int .i64 h0, .int .i64 h1, .int .i64 a0, .int .i64 a1, .int .i64 m0, .int .i64 m1] : Array Value).all (·.oneCell') = true := by simp [Value.oneCell']
    clear hF hT2 q1 q2 q3 q4 HA1 HT1
    go_cut [5, 6] from 12 to 15 (fun v b wc => b = .bool true ∧ (∃ co ccap, v = .slice co M.length ccap ∧ IntsAt wc co M ∧ ∀ g off, co = some ⟨g, off, none⟩ → w.heap.size ≤ g) ∧ SAt wc w.heap.size #[.bool b0, .bool b1, .bool b2, .bool b3, .int .i64 x0, .int .i64 x1, .int .i64 x2, .int .i64 x3, .int .i64 h0, .int .i64 h1, .int .i64 a0, .int .i64 a1, .int .i64 m0, .int .i64 m1] ∧ Below w.heap.size w wc)
    case first =>
      as_aux_lemma =>
        refine wp_region_noPanic ?_
        refine wp_region_any (by kernel_rfl) ?_
        change wpAny _ _ _ _ _ _ _ (World.drew _)
        generalize (w1.setRow w.heap.size #[.bool b0, .bool b1, .bool b2, .bool b3, .int .i64 x0, .int .i64 x1, .int .i64 x2, .int .i64 x3, .int .i64 h0, .int .i64 h1, .int .i64 a0, .int .i64 a1, .int .i64 m0, .int .i64 m1]).drew = wd at *
        refine wpAny_take (i := 1) (v := .pointer (some ⟨w.heap.size + 1, 0, none⟩)) rfl (by kernel_rfl) (by kernel_rfl) (by kernel_rfl) (fun _ _ _ h => h) (Or.inl ⟨by rfl, fun w => by go_simp⟩) ?_
        refine wpAny_ready (rs := [0, 2]) (by kernel_rfl) (by simp) ?_
        refine AllReady.cons rfl (fun K1 hK1 => ?_) (AllReady.cons rfl (fun K1 hK1 => ?_) AllReady.nil)
        · rw [if_pos (by rfl)]
          refine wp_load_row 43 _ rfl w.heap.size rfl 43 _ (0, 0) _ HAd.out Try.underlying43 rfl (by kernel_rfl) ?_
          refine hK1 _ _ ?_
          clear hK1 K1
          refine wpAny_ready (rs := [2]) (by kernel_rfl) (by simp) ?_
          refine AllReady.cons rfl (fun K2 hK2 => ?_) AllReady.nil
          go_simp
          refine hK2 _ _ ?_
          clear hK2 K2
          refine wpAny_ready (rs := [3]) (by kernel_rfl) (by simp) ?_
          refine AllReady.cons rfl (fun K3 hK3 => ?_) AllReady.nil
          refine step_app (by rfl) _ _ (by rfl) wd.heap.size _ [] (by rfl) (own_none _ _) bo M bcap (by rfl) HI.out (by simp; omega) (Nat.le_refl _) ?_
          intro v' w3 hT3
          have HO : Hid (∃ co ccap, v' = .slice co M.length ccap ∧ IntsAt w3 co M ∧ ∀ g off, co = some ⟨g, off, none⟩ → wd.heap.size ≤ g) := Lib.hid (by
            obtain ⟨co, ccap, h1, h2, _⟩ := ints_of_own hT3.own
            exact ⟨co, ccap, h1, h2, fun g off e => (own_lt hT3.own (by rw [h1, e]; rfl)).1⟩)
          have hb3 : Below wd.heap.size wd w3 := hT3.below (own_none _ wd.heap.size) (Below.refl _ _) (Nat.le_refl _)
          have HA3 := Lib.hid (HAd.out.keep hb3)
          have HB3 := Lib.hid (HBd.out.trans (hb3.mono HBd.out.size))
          clear hb3 hT3
          refine hK3 _ _ ?_
          clear hK3 K3
          refine wpAny_ready (rs := [4]) (by kernel_rfl) (by simp) ?_
          refine AllReady.cons rfl (fun K4 hK4 => ?_) AllReady.nil
          rw [if_pos (by rfl)]
          refine wp_store_row 43 _ _ rfl w.heap.size #[.bool b0, .bool b1, .bool b2, .bool b3, .int .i64 x0, .int .i64 x1, .int .i64 x2, .int .i64 x3, .int .i64 h0, .int .i64 h1, .int .i64 a0, .int .i64 a1, .int .i64 m0, .int .i64 m1] rfl rfl 43 _ HA3.out (by kernel_rfl) rfl hone ?_
          have HA4 := Lib.hid (HA3.out.set #[.bool b0, .bool b1, .bool b2, .bool b3, .int .i64 x0, .int .i64 x1, .int .i64 x2, .int .i64 x3, .int .i64 h0, .int .i64 h1, .int .i64 a0, .int .i64 a1, .int .i64 m0, .int .i64 m1])
          have hF4 := set_row_fq' w3 w.heap.size #[.bool b0, .bool b1, .bool b2, .bool b3, .int .i64 x0, .int .i64 x1, .int .i64 x2, .int .i64 x3, .int .i64 h0, .int .i64 h1, .int .i64 a0, .int .i64 a1, .int .i64 m0, .int .i64 m1]
          have HB4 := Lib.hid (hF4.below HB3.out (Nat.le_refl _) HB3.out.size)
          have hlA := HAd.out.lt
          have HO4 : Hid (∃ co ccap, v' = .slice co M.length ccap ∧ IntsAt (w3.setRow w.heap.size #[.bool b0, .bool b1, .bool b2, .bool b3, .int .i64 x0, .int .i64 x1, .int .i64 x2, .int .i64 x3, .int .i64 h0, .int .i64 h1, .int .i64 a0, .int .i64 a1, .int .i64 m0, .int .i64 m1]) co M ∧ ∀ g off, co = some ⟨g, off, none⟩ → w.heap.size ≤ g) := Lib.hid (by
            obtain ⟨co, ccap, e, h, hge⟩ := HO.out
            refine ⟨co, ccap, e, ?_, fun g off e1 => by have := hge g off e1; omega⟩
            intro i hi
            obtain ⟨g, off, e1, e2, e3⟩ := h i hi
            have hne : g ≠ w.heap.size := by
              have := hge g off e1
              omega
            exact ⟨g, off, e1, Nat.lt_of_lt_of_le e2 hF4.size, (World.cell?_of_block (a := ⟨g, off + i, none⟩) (hF4.block g e2 hne)).trans e3⟩)
          clear HA3 HB3 HO hF4
          refine hK4 _ _ ?_
          clear hK4 K4
          refine wpAny_ready (rs := [5]) (by kernel_rfl) (by simp) ?_
          refine AllReady.cons rfl (fun K5 hK5 => ?_) AllReady.nil
          go_simp
          refine hK5 _ _ ?_
          clear hK5 K5
          refine wpAny_ready (rs := [6]) (by kernel_rfl) (by simp) ?_
          refine AllReady.cons rfl (fun K6 hK6 => ?_) AllReady.nil
          go_simp
          refine hK6 _ _ ?_
          clear hK6 K6
          refine wpAny_done (by kernel_rfl) ?_ _
          refine NoPanic.normal ?_
          go_wp2
          go_meet
          exact ⟨rfl, HO4.out, HA4.out, HB4.out⟩
        · go_simp
          refine hK1 _ _ ?_
          clear hK1 K1
          refine wpAny_ready (rs := [0, 3]) (by kernel_rfl) (by simp) ?_
          refine AllReady.cons rfl (fun K2 hK2 => ?_) (AllReady.cons rfl (fun K2 hK2 => ?_) AllReady.nil)
          · rw [if_pos (by rfl)]
            refine wp_load_row 43 _ rfl w.heap.size rfl 43 _ (0, 0) _ HAd.out Try.underlying43 rfl (by kernel_rfl) ?_
            refine hK2 _ _ ?_
            clear hK2 K2
            refine wpAny_ready (rs := [3]) (by kernel_rfl) (by simp) ?_
            refine AllReady.cons rfl (fun K3 hK3 => ?_) AllReady.nil
            refine step_app (by rfl) _ _ (by rfl) wd.heap.size _ [] (by rfl) (own_none _ _) bo M bcap (by rfl) HI.out (by simp; omega) (Nat.le_refl _) ?_
            intro v' w3 hT3
            have HO : Hid (∃ co ccap, v' = .slice co M.length ccap ∧ IntsAt w3 co M ∧ ∀ g off, co = some ⟨g, off, none⟩ → wd.heap.size ≤ g) := Lib.hid (by
              obtain ⟨co, ccap, h1, h2, _⟩ := ints_of_own hT3.own
              exact ⟨co, ccap, h1, h2, fun g off e => (own_lt hT3.own (by rw [h1, e]; rfl)).1⟩)
            have hb3 : Below wd.heap.size wd w3 := hT3.below (own_none _ wd.heap.size) (Below.refl _ _) (Nat.le_refl _)
            have HA3 := Lib.hid (HAd.out.keep hb3)
            have HB3 := Lib.hid (HBd.out.trans (hb3.mono HBd.out.size))
            clear hb3 hT3
            refine hK3 _ _ ?_
            clear hK3 K3
            refine wpAny_ready (rs := [4]) (by kernel_rfl) (by simp) ?_
            refine AllReady.cons rfl (fun K4 hK4 => ?_) AllReady.nil
            rw [if_pos (by rfl)]
            refine wp_store_row 43 _ _ rfl w.heap.size #[.bool b0, .bool b1, .bool b2, .bool b3, .int .i64 x0, .int .i64 x1, .int .i64 x2, .int .i64 x3, .int .i64 h0, .int .i64 h1, .int .i64 a0, .int .i64 a1, .int .i64 m0, .int .i64 m1] rfl rfl 43 _ HA3.out (by kernel_rfl) rfl hone ?_
            have HA4 := Lib.hid (HA3.out.set #[.bool b0, .bool b1, .bool b2, .bool b3, .int .i64 x0, .int .i64 x1, .int .i64 x2, .int .i64 x3, .int .i64 h0, .int .i64 h1, .int .i64 a0, .int .i64 a1, .int .i64 m0, .int .i64 m1])
            have hF4 := set_row_fq' w3 w.heap.size #[.bool b0, .bool b1, .bool b2, .bool b3, .int .i64 x0, .int .i64 x1, .int .i64 x2, .int .i64 x3, .int .i64 h0, .int .i64 h1, .int .i64 a0, .int .i64 a1, .int .i64 m0, .int .i64 m1]
            have HB4 := Lib.hid (hF4.below HB3.out (Nat.le_refl _) HB3.out.size)
            have hlA := HAd.out.lt
            have HO4 : Hid (∃ co ccap, v' = .slice co M.length ccap ∧ IntsAt (w3.setRow w.heap.size #[.bool b0, .bool b1, .bool b2, .bool b3, .int .i64 x0, .int .i64 x1, .int .i64 x2, .int .i64 x3, .int .i64 h0, .int .i64 h1, .int .i64 a0, .int .i64 a1, .int .i64 m0, .int .i64 m1]) co M ∧ ∀ g off, co = some ⟨g, off, none⟩ → w.heap.size ≤ g) := Lib.hid (by
              obtain ⟨co, ccap, e, h, hge⟩ := HO.out
              refine ⟨co, ccap, e, ?_, fun g off e1 => by have := hge g off e1; omega⟩
              intro i hi
              obtain ⟨g, off, e1, e2, e3⟩ := h i hi
              have hne : g ≠ w.heap.size := by
                have := hge g off e1
                omega
              exact ⟨g, off, e1, Nat.lt_of_lt_of_le e2 hF4.size, (World.cell?_of_block (a := ⟨g, off + i, none⟩) (hF4.block g e2 hne)).trans e3⟩)
            clear HA3 HB3 HO hF4
            refine hK4 _ _ ?_
            clear hK4 K4
            refine wpAny_ready (rs := [5]) (by kernel_rfl) (by simp) ?_
            refine AllReady.cons rfl (fun K5 hK5 => ?_) AllReady.nil
            go_simp
            refine hK5 _ _ ?_
            clear hK5 K5
            refine wpAny_ready (rs := [6]) (by kernel_rfl) (by simp) ?_
            refine AllReady.cons rfl (fun K6 hK6 => ?_) AllReady.nil
            go_simp
            refine hK6 _ _ ?_
            clear hK6 K6
            refine wpAny_done (by kernel_rfl) ?_ _
            refine NoPanic.normal ?_
            go_wp2
            go_meet
            exact ⟨rfl, HO4.out, HA4.out, HB4.out⟩
          · refine step_app (by rfl) _ _ (by rfl) wd.heap.size _ [] (by rfl) (own_none _ _) bo M bcap (by rfl) HI.out (by simp; omega) (Nat.le_refl _) ?_
            intro v' w3 hT3
            have HO : Hid (∃ co ccap, v' = .slice co M.length ccap ∧ IntsAt w3 co M ∧ ∀ g off, co = some ⟨g, off, none⟩ → wd.heap.size ≤ g) := Lib.hid (by
              obtain ⟨co, ccap, h1, h2, _⟩ := ints_of_own hT3.own
              exact ⟨co, ccap, h1, h2, fun g off e => (own_lt hT3.own (by rw [h1, e]; rfl)).1⟩)
            have hb3 : Below wd.heap.size wd w3 := hT3.below (own_none _ wd.heap.size) (Below.refl _ _) (Nat.le_refl _)
            have HA3 := Lib.hid (HAd.out.keep hb3)
            have HB3 := Lib.hid (HBd.out.trans (hb3.mono HBd.out.size))
            clear hb3 hT3
            refine hK2 _ _ ?_
            clear hK2 K2
            refine wpAny_ready (rs := [0]) (by kernel_rfl) (by simp) ?_
            refine AllReady.cons rfl (fun K3 hK3 => ?_) AllReady.nil
            rw [if_pos (by rfl)]
            refine wp_load_row 43 _ rfl w.heap.size rfl 43 _ (0, 0) _ HA3.out Try.underlying43 rfl (by kernel_rfl) ?_
            refine hK3 _ _ ?_
            clear hK3 K3
            refine wpAny_ready (rs := [4]) (by kernel_rfl) (by simp) ?_
            refine AllReady.cons rfl (fun K4 hK4 => ?_) AllReady.nil
            rw [if_pos (by rfl)]
            refine wp_store_row 43 _ _ rfl w.heap.size #[.bool b0, .bool b1, .bool b2, .bool b3, .int .i64 x0, .int .i64 x1, .int .i64 x2, .int .i64 x3, .int .i64 h0, .int .i64 h1, .int .i64 a0, .int .i64 a1, .int .i64 m0, .int .i64 m1] rfl rfl 43 _ HA3.out (by kernel_rfl) rfl hone ?_
            have HA4 := Lib.hid (HA3.out.set #[.bool b0, .bool b1, .bool b2, .bool b3, .int .i64 x0, .int .i64 x1, .int .i64 x2, .int .i64 x3, .int .i64 h0, .int .i64 h1, .int .i64 a0, .int .i64 a1, .int .i64 m0, .int .i64 m1])
            have hF4 := set_row_fq' w3 w.heap.size #[.bool b0, .bool b1, .bool b2, .bool b3, .int .i64 x0, .int .i64 x1, .int .i64 x2, .int .i64 x3, .int .i64 h0, .int .i64 h1, .int .i64 a0, .int .i64 a1, .int .i64 m0, .int .i64 m1]
            have HB4 := Lib.hid (hF4.below HB3.out (Nat.le_refl _) HB3.out.size)
            have hlA := HAd.out.lt
            have HO4 : Hid (∃ co ccap, v' = .slice co M.length ccap ∧ IntsAt (w3.setRow w.heap.size #[.bool b0, .bool b1, .bool b2, .bool b3, .int .i64 x0, .int .i64 x1, .int .i64 x2, .int .i64 x3, .int .i64 h0, .int .i64 h1, .int .i64 a0, .int .i64 a1, .int .i64 m0, .int .i64 m1]) co M ∧ ∀ g off, co = some ⟨g, off, none⟩ → w.heap.size ≤ g) := Lib.hid (by
              obtain ⟨co, ccap, e, h, hge⟩ := HO.out
              refine ⟨co, ccap, e, ?_, fun g off e1 => by have := hge g off e1; omega⟩
              intro i hi
              obtain ⟨g, off, e1, e2, e3⟩ := h i hi
              have hne : g ≠ w.heap.size := by
                have := hge g off e1
                omega
              exact ⟨g, off, e1, Nat.lt_of_lt_of_le e2 hF4.size, (World.cell?_of_block (a := ⟨g, off + i, none⟩) (hF4.block g e2 hne)).trans e3⟩)
            clear HA3 HB3 HO hF4
            refine hK4 _ _ ?_
            clear hK4 K4
            refine wpAny_ready (rs := [5]) (by kernel_rfl) (by simp) ?_
            refine AllReady.cons rfl (fun K5 hK5 => ?_) AllReady.nil
            go_simp
            refine hK5 _ _ ?_
            clear hK5 K5
            refine wpAny_ready (rs := [6]) (by kernel_rfl) (by simp) ?_
            refine AllReady.cons rfl (fun K6 hK6 => ?_) AllReady.nil
            go_simp
            refine hK6 _ _ ?_
            clear hK6 K6
            refine wpAny_done (by kernel_rfl) ?_ _
            refine NoPanic.normal ?_
            go_wp2
            go_meet
            exact ⟨rfl, HO4.out, HA4.out, HB4.out⟩
    case rest =>
      obtain ⟨rfl, ⟨co, ccap, rfl, hI, hge⟩, hA, hB⟩ := hcut
      have HFIN : Hid (GetTo w (some (#[.bool b0, .bool b1, .bool b2, .bool b3, .int .i64 x0, .int .i64 x1, .int .i64 x2, .int .i64 x3, .int .i64 h0, .int .i64 h1, .int .i64 a0, .int .i64 a1, .int .i64 m0, .int .i64 m1], M)) (.returned (.tuple #[.agg #[.bool b0, .bool b1, .bool b2, .bool b3, .int .i64 x0, .int .i64 x1, .int .i64 x2, .int .i64 x3, .int .i64 h0, .int .i64 h1, .int .i64 a0, .int .i64 a1, .int .i64 m0, .int .i64 m1], .slice co M.length ccap, .bool true])) wc) := Lib.hid ⟨hB, co, ccap, rfl, hI, hge⟩
      have HA4 := Lib.hid hA
      clear hI hB hA HAd HBd c0 HI hge
      go_wp2
      refine leaves_cons (f := 30) (args := #[]) (by simp) (by simp [go_sem]) ?_
      refine (idle30 wc).mono ?_
      rintro e u' w2 ⟨rfl, rfl, rfl⟩
      have hL := run_loadVar_row (P := Try.prog) w2 w.heap.size 43 43 _ (0, 0) _ HA4.out Try.underlying43 rfl (by kernel_rfl)
      have hfin := HFIN.out
      clear HFIN HA4 hsm
      generalize w.heap.size = A at *
      simp [Leaves, settle, results, Try.results23, hL, asAddr]
      exact hfin
set_option maxRecDepth 100000 in
set_option maxHeartbeats 4000000 in
theorem get_set (L : List Int) (ao : Option Addr) (cap : Nat) (w : World) (hI : IntsAt w ao L) (hc : L.length ≤ cap) (hc2 : cap ≤ 9223372036854775807) (hsz : L.length * 8 ≤ 140737488355328) (X : Option (Array Value × List Int)) (hX : setO L = X) :
    Calls Try.prog 15 #[.slice ao L.length cap] w (GetTo w X) := by
  have HI := Lib.hid (hI.below ((Below.refl _ w).alloc (Nat.le_refl _) (.cells #[.bool false, .bool false, .bool false, .bool false, .int .i64 0, .int .i64 0, .int .i64 0, .int .i64 0, .int .i64 0, .int .i64 0, .int .i64 0, .int .i64 0, .int .i64 0, .int .i64 0] 43)))
  have HA := Lib.hid (SAt.new w #[.bool false, .bool false, .bool false, .bool false, .int .i64 0, .int .i64 0, .int .i64 0, .int .i64 0, .int .i64 0, .int .i64 0, .int .i64 0, .int .i64 0, .int .i64 0, .int .i64 0])
  have HB := Lib.hid ((Below.refl w.heap.size w).alloc (Nat.le_refl _) (.cells #[.bool false, .bool false, .bool false, .bool false, .int .i64 0, .int .i64 0, .int .i64 0, .int .i64 0, .int .i64 0, .int .i64 0, .int .i64 0, .int .i64 0, .int .i64 0, .int .i64 0] 43))
  have HX := Lib.hid hX
  clear hI hX
  go_enter Try.func15, Try.ntmps15
  go_wp2_with fail
  have hne : w.heap.size < (w.alloc (.cells #[.bool false, .bool false, .bool false, .bool false, .int .i64 0, .int .i64 0, .int .i64 0, .int .i64 0, .int .i64 0, .int .i64 0, .int .i64 0, .int .i64 0, .int .i64 0, .int .i64 0] 43)).heap.size := HA.out.lt
  generalize w.alloc (.cells #[.bool false, .bool false, .bool false, .bool false, .int .i64 0, .int .i64 0, .int .i64 0, .int .i64 0, .int .i64 0, .int .i64 0, .int .i64 0, .int .i64 0, .int .i64 0, .int .i64 0] 43) = W at *
  refine (taken_set L ao cap W HI.out hc hc2 hsz X HX.out).mono ?_
  cases X with
  | none =>
    rintro r w1 ⟨hB, rfl⟩
    have HA1 := Lib.hid (HA.out.keep hB)
    have HB1 := Lib.hid (HB.out.trans (hB.mono HB.out.size))
    clear hB HA HB HI
    go_wp2_with (refine wpList_store_row rfl 43 _ _ rfl w.heap.size #[.bool false, .bool false, .bool false, .bool false, .int .i64 0, .int .i64 0, .int .i64 0, .int .i64 0, .int .i64 0, .int .i64 0, .int .i64 0, .int .i64 0, .int .i64 0, .int .i64 0] rfl rfl 43 _ HA1.out (by kernel_rfl) rfl (by simp [Value.oneCell']) ?_)
    have HS := Lib.hid (HA1.out.set #[.bool false, .bool false, .bool false, .bool false, .int .i64 0, .int .i64 0, .int .i64 0, .int .i64 0, .int .i64 0, .int .i64 0, .int .i64 0, .int .i64 0, .int .i64 0, .int .i64 0])
    have HF := Lib.hid ((set_row_fq' w1 w.heap.size #[.bool false, .bool false, .bool false, .bool false, .int .i64 0, .int .i64 0, .int .i64 0, .int .i64 0, .int .i64 0, .int .i64 0, .int .i64 0, .int .i64 0, .int .i64 0, .int .i64 0]).below HB1.out (Nat.le_refl _) HB1.out.size)
    have hL := run_loadVar_row (P := Try.prog) _ w.heap.size 43 43 _ (0, 0) _ HS.out Try.underlying43 rfl (by kernel_rfl)
    clear HA1 HB1 HS
    generalize w1.setRow w.heap.size #[.bool false, .bool false, .bool false, .bool false, .int .i64 0, .int .i64 0, .int .i64 0, .int .i64 0, .int .i64 0, .int .i64 0, .int .i64 0, .int .i64 0, .int .i64 0, .int .i64 0] = W2 at *
    go_wp2
    refine bodyPost_ret (results_31 (by rfl) _ _ (by rfl) hL (by rfl) (by rfl)) rfl ⟨HF.out, rfl⟩
  | some y =>
    obtain ⟨cs, M⟩ := y
    obtain ⟨⟨b0, b1, b2, b3, x0, x1, x2, x3, h0, h1, a0, a1, m0, m1, rfl⟩, hM⟩ := set_form HX.out
    rintro r w1 ⟨hB, bo, bcap, rfl, hJ, hge⟩
    have HA1 := Lib.hid (HA.out.keep hB)
    have HB1 := Lib.hid (HB.out.trans (hB.mono HB.out.size))
    have HJ := Lib.hid hJ
    clear hB HA HB HI hJ
    go_wp2_with (refine wpList_store_row rfl 43 _ _ rfl w.heap.size #[.bool b0, .bool b1, .bool b2, .bool b3, .int .i64 x0, .int .i64 x1, .int .i64 x2, .int .i64 x3, .int .i64 h0, .int .i64 h1, .int .i64 a0, .int .i64 a1, .int .i64 m0, .int .i64 m1] rfl rfl 43 _ HA1.out (by kernel_rfl) rfl (by simp [Value.oneCell']) ?_)
    have HS := Lib.hid (HA1.out.set #[.bool b0, .bool b1, .bool b2, .bool b3, .int .i64 x0, .int .i64 x1, .int .i64 x2, .int .i64 x3, .int .i64 h0, .int .i64 h1, .int .i64 a0, .int .i64 a1, .int .i64 m0, .int .i64 m1])
    have hF := set_row_fq' w1 w.heap.size #[.bool b0, .bool b1, .bool b2, .bool b3, .int .i64 x0, .int .i64 x1, .int .i64 x2, .int .i64 x3, .int .i64 h0, .int .i64 h1, .int .i64 a0, .int .i64 a1, .int .i64 m0, .int .i64 m1]
    have HF := Lib.hid (hF.below HB1.out (Nat.le_refl _) HB1.out.size)
    have HG := Lib.hid (show IntsAt (w1.setRow w.heap.size #[.bool b0, .bool b1, .bool b2, .bool b3, .int .i64 x0, .int .i64 x1, .int .i64 x2, .int .i64 x3, .int .i64 h0, .int .i64 h1, .int .i64 a0, .int .i64 a1, .int .i64 m0, .int .i64 m1]) bo M from fun i hi => by
      obtain ⟨g, off, e1, e2, e3⟩ := HJ.out i hi
      have := hge g off e1
      exact ⟨g, off, e1, Nat.lt_of_lt_of_le e2 hF.size, (World.cell?_of_block (a := ⟨g, off + i, none⟩) (hF.block g e2 (by omega))).trans e3⟩)
    have hge' : ∀ g off, bo = some ⟨g, off, none⟩ → w.heap.size ≤ g := fun g off e => by have := hge g off e; omega
    have HGE := Lib.hid hge'
    have hL := run_loadVar_row (P := Try.prog) _ w.heap.size 43 43 _ (0, 0) _ HS.out Try.underlying43 rfl (by kernel_rfl)
    clear HA1 HB1 HS HJ hF hge hge'
    generalize w1.setRow w.heap.size #[.bool b0, .bool b1, .bool b2, .bool b3, .int .i64 x0, .int .i64 x1, .int .i64 x2, .int .i64 x3, .int .i64 h0, .int .i64 h1, .int .i64 a0, .int .i64 a1, .int .i64 m0, .int .i64 m1] = W2 at *
    go_wp2
    refine bodyPost_ret (results_31 (by rfl) _ _ (by rfl) hL (by rfl) (by rfl)) rfl ⟨HF.out, bo, bcap, rfl, HG.out, HGE.out⟩
end Go.Proofs.Ytedcgmagkkoggaa
