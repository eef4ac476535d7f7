/-
  Of, Changes, told. No condition.
-/
import Derived.Test.YtnfmpbcbppdkgaaDoorNf
import Derived.Deep.RegionWith
namespace Go.Proofs.YtnfmpbcbppdkgaaDoor
open Go.RowKit
/-- What a form of the table is: not long, of ASCII. -/
def okT (T : List (List UInt8 × List UInt8)) : Bool := T.all fun x => decide (x.1.length ≤ 100) && decide (x.2.length ≤ 100) && x.1.all (fun c => decide (c.toNat < 128)) && x.2.all (fun c => decide (c.toNat < 128))
theorem ok_nfs : okT nfsT = true := by kernel_rfl
theorem ok_mnt : okT mntT = true := by kernel_rfl
theorem okT_at {T : List (List UInt8 × List UInt8)} (h : okT T = true) (n : Nat) (hn : n < T.length) :
    ((T.getD n ([], [])).1.length ≤ 100 ∧ ∀ c ∈ (T.getD n ([], [])).1, c.toNat < 128) ∧ ((T.getD n ([], [])).2.length ≤ 100 ∧ ∀ c ∈ (T.getD n ([], [])).2, c.toNat < 128) := by
  have h1 := List.all_eq_true.1 h (T.getD n ([], [])) (by rw [List.getD_eq_getElem?_getD, List.getElem?_eq_getElem hn]; exact List.getElem_mem hn)
  simp only [Bool.and_eq_true, decide_eq_true_eq, List.all_eq_true] at h1
  exact ⟨⟨h1.1.1.1, h1.1.2⟩, ⟨h1.1.1.2, h1.2⟩⟩
theorem written_k {w0 w : World} {b ty : Nat} {T : List (List UInt8 × List UInt8)} (l : List UInt8) (hl : l.length ≤ 100 ∧ ∀ c ∈ l, c.toNat < 128) (h : Ft w0 b ty T w) :
    Calls Tryd.prog 10 #[.string (bs l)] w fun e w' => e = .returned (.string (bs (wo l))) ∧ Ft w0 b ty T w' :=
  (written_any l hl.1 hl.2 w).mono fun _ _ ⟨p, q⟩ => ⟨p, h.step q⟩
def tup (o : List UInt8 × List UInt8 × Bool) : Value := .tuple #[.string (bs o.1), .string (bs o.2.1), .bool o.2.2]
set_option maxRecDepth 100000 in
set_option maxHeartbeats 4000000 in
theorem of_tab (prog proc : Int) (T : List (List UInt8 × List UInt8)) (ty N : Nat) (hN : T.length = N) (hT : okT T = true)
    (hf : ∀ w, Calls Tryd.prog 9 #[.int .i64 prog] w fun e w' => ∃ b, e = .returned (.slice (some ⟨b, 0, none⟩) N N) ∧ Ft w b ty T w') (w : World) :
    Calls Tryd.prog 6 #[.int .i64 prog, .int .i64 proc] w fun e w' => e = .returned (tup (pickO T proc)) ∧ Below w.heap.size w w' := by
  by_cases hneg : proc < 0
  · have hp : pickO T proc = ([], [], false) := by unfold pickO; rw [if_pos (.inl hneg)]
    rw [hp]
    clear hp
    go_enter Tryd.func6, Tryd.ntmps6
    go_wp2_with fail
    refine (hf w).mono ?_
    rintro e w1 ⟨b, rfl, hF⟩
    have HF := Lib.hid hF
    clear hF hf
    go_wp2
    go_ret3
    exact ⟨rfl, HF.out.low⟩
  have hng : ¬ (proc < 0) := hneg
  by_cases hbig : (N : Int) ≤ proc
  · have hp : pickO T proc = ([], [], false) := by unfold pickO; rw [if_pos (.inr (by rw [hN]; exact hbig))]
    rw [hp]
    clear hp hneg
    go_enter Tryd.func6, Tryd.ntmps6
    go_wp2_with fail
    refine (hf w).mono ?_
    rintro e w1 ⟨b, rfl, hF⟩
    have HF := Lib.hid hF
    clear hF hf
    go_wp2
    go_ret3
    exact ⟨rfl, HF.out.low⟩
  obtain ⟨n, rfl⟩ : ∃ n : Nat, proc = n := ⟨proc.toNat, by omega⟩
  have hn : n < N := by omega
  have hp : pickO T n = (wo (T.getD n ([], [])).1, wo (T.getD n ([], [])).2, true) := by
    unfold pickO
    rw [if_neg (by rw [hN]; omega), Int.toNat_natCast]
  rw [hp]
  have hnz : (n : Int) < (N : Int) := by omega
  obtain ⟨k1, k2⟩ := okT_at hT n (by rw [hN]; exact hn)
  have hcl : ∀ (w0 w' : World) (b : Nat), Ft w0 b ty T w' → w'.cell? ⟨b, n * 2, none⟩ = some (.string (bs (T.getD n ([], [])).1)) ∧ w'.cell? ⟨b, n * 2 + 1, none⟩ = some (.string (bs (T.getD n ([], [])).2)) := fun _ _ _ h => h.cells n (by rw [hN]; exact hn)
  have HCL := Lib.hid hcl
  have K1 := Lib.hid k1
  have K2 := Lib.hid k2
  clear hp hneg hcl k1 k2 hT
  generalize (T.getD n ([], [])).1 = x at *
  generalize (T.getD n ([], [])).2 = y at *
  go_enter Tryd.func6, Tryd.ntmps6
  go_wp2_with fail
  refine (hf w).mono ?_
  rintro e w1 ⟨b, rfl, hF⟩
  clear hf
  have hFd := hF.drew
  obtain ⟨z0, z1⟩ := HCL.out _ _ _ hF
  go_wp2_with fail
  go_region_held3 (fun w' => w'.cell? ⟨b, n * 2, none⟩ = some (.string (bs x)) ∧ w'.cell? ⟨b, n * 2 + 1, none⟩ = some (.string (bs y))) (exact HCL.out _ _ _ (by assumption)) (first | ((go_at_call 10; first | (with_reducible refine (written_k x K1.out (by assumption)).mono ?_) | (with_reducible refine (written_k y K2.out (by assumption)).mono ?_)); (rintro e w' ⟨rfl, hk⟩); (have hkd := hk.drew); (obtain ⟨z0, z1⟩ := HCL.out _ _ _ hk)))
  all_goals go_wp2
  all_goals go_ret3
  all_goals exact ⟨rfl, hk.low⟩
set_option maxRecDepth 100000 in
theorem of_any (prog proc : Int) (w : World) : Calls Tryd.prog 6 #[.int .i64 prog, .int .i64 proc] w fun e w' => e = .returned (tup (ofO prog proc)) ∧ Below w.heap.size w w' := by
  unfold ofO
  by_cases h3 : prog = 100003
  · subst h3
    rw [if_pos rfl]
    exact of_tab 100003 proc nfsT 47 22 (by rfl) ok_nfs forms_nfs w
  · rw [if_neg h3]
    by_cases h5 : prog = 100005
    · subst h5
      rw [if_pos rfl]
      exact of_tab 100005 proc mntT 49 6 (by rfl) ok_mnt forms_mnt w
    · rw [if_neg h5]
      go_enter Tryd.func6, Tryd.ntmps6
      go_wp2_with fail
      refine (forms_none prog h3 h5 w).mono ?_
      rintro e w1 ⟨rfl, rfl⟩
      by_cases hneg : proc < 0
      · go_wp2
        go_ret3
        exact ⟨rfl, Below.refl _ _⟩
      · have hnn : (0 : Int) ≤ proc := by omega
        go_wp2
        go_ret3
        exact ⟨rfl, Below.refl _ _⟩
end Go.Proofs.YtnfmpbcbppdkgaaDoor
