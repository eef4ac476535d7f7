/-
  What May answers, and the document's. Their conditions: the groups lie in memory.
-/
import Derived.Test.YtakfpfnaogdmlaaDoorBt
namespace Go.Proofs.YtakfpfnaogdmlaaDoor.A
open Go.RowKit
/-- Who may do what. -/
def mayB (mode own grp uid gid : Int) (G : List Int) (b : Int) : Bool :=
  if uid = 0 then true else if uid = own then ok3 b (mode / 64) else if gid = grp ∨ grp ∈ G then ok3 b (mode / 8) else ok3 b mode

set_option maxRecDepth 100000 in
set_option maxHeartbeats 1000000 in
theorem may_any (n0 n1 n2 n3 n4 n5 n6 n7 n8 n9 n10 n11 n12 n13 n14 n15 n16 uid gid b : Int) (G : List Int) (ao : Option Addr) (cap : Nat) (w : World) (hI : IntsAt w ao G) (hl : G.length ≤ 9223372036854775807) :
    Calls Tryd.prog 33 #[.agg #[.int .i64 n0, .int .i64 n1, .int .i64 n2, .int .i64 n3, .int .i64 n4, .int .i64 n5, .int .i64 n6, .int .i64 n7, .int .i64 n8, .int .i64 n9, .int .i64 n10, .int .i64 n11, .int .i64 n12, .int .i64 n13, .int .i64 n14, .int .i64 n15, .int .i64 n16], .int .i64 uid, .int .i64 gid, .slice ao G.length cap, .int .i64 b] w fun e w' => e = .returned (.bool (mayB n1 n3 n4 uid gid G b)) ∧ Below w.heap.size w w' := by
  have HI := Lib.hid (hI.below ((Below.refl _ w).alloc (Nat.le_refl _) (.cells #[.int .i64 n0, .int .i64 n1, .int .i64 n2, .int .i64 n3, .int .i64 n4, .int .i64 n5, .int .i64 n6, .int .i64 n7, .int .i64 n8, .int .i64 n9, .int .i64 n10, .int .i64 n11, .int .i64 n12, .int .i64 n13, .int .i64 n14, .int .i64 n15, .int .i64 n16] 41)))
  have HB := Lib.hid ((Below.refl _ w).alloc (Nat.le_refl _) (.cells #[.int .i64 n0, .int .i64 n1, .int .i64 n2, .int .i64 n3, .int .i64 n4, .int .i64 n5, .int .i64 n6, .int .i64 n7, .int .i64 n8, .int .i64 n9, .int .i64 n10, .int .i64 n11, .int .i64 n12, .int .i64 n13, .int .i64 n14, .int .i64 n15, .int .i64 n16] 41))
  clear hI
  have HM : Hid (mayB n1 n3 n4 uid gid G b = if uid = 0 then true else if uid = n3 then ok3 b (n1 / 64) else if gid = n4 ∨ n4 ∈ G then ok3 b (n1 / 8) else ok3 b n1) := Lib.hid rfl
  by_cases h0 : uid = 0
  · subst h0
    rw [if_pos rfl] at HM
    go_enter Tryd.func33, Tryd.ntmps33
    go_wp2
    go_ret
    exact ⟨congrArg (fun b => Ending.returned (Value.bool b)) HM.out.symm, HB.out⟩
  · have b0 : (uid == 0) = false := by simpa using h0
    rw [if_neg h0] at HM
    by_cases h1 : uid = n3
    · subst h1
      rw [if_pos rfl] at HM
      go_enter Tryd.func33, Tryd.ntmps33
      go_wp2
      go_ret
      exact ⟨congrArg (fun b => Ending.returned (Value.bool b)) ((andNot7 _ _).trans HM.out.symm), HB.out⟩
    · have b1 : (uid == n3) = false := by simpa using h1
      rw [if_neg h1] at HM
      by_cases h2 : gid = n4
      · subst h2
        rw [if_pos (Or.inl rfl)] at HM
        go_enter Tryd.func33, Tryd.ntmps33
        go_wp2
        go_ret
        exact ⟨congrArg (fun b => Ending.returned (Value.bool b)) ((andNot7 _ _).trans HM.out.symm), HB.out⟩
      · have b2 : (gid == n4) = false := by simpa using h2
        by_cases h3 : n4 ∈ G
        · have d3 : decide (n4 ∈ G) = true := decide_eq_true h3
          rw [if_pos (Or.inr h3)] at HM
          go_enter Tryd.func33, Tryd.ntmps33
          go_wp2_with (go_at_call 47; refine (contains_any G n4 ao cap _ HI.out hl).mono ?_; rintro e w' ⟨rfl, rfl⟩; rw [d3])
          go_ret
          exact ⟨congrArg (fun b => Ending.returned (Value.bool b)) ((andNot7 _ _).trans HM.out.symm), HB.out⟩
        · have d3 : decide (n4 ∈ G) = false := decide_eq_false h3
          rw [if_neg (fun h => h.elim h2 h3)] at HM
          go_enter Tryd.func33, Tryd.ntmps33
          go_wp2_with (go_at_call 47; refine (contains_any G n4 ao cap _ HI.out hl).mono ?_; rintro e w' ⟨rfl, rfl⟩; rw [d3])
          go_ret
          exact ⟨congrArg (fun b => Ending.returned (Value.bool b)) ((andNot7 _ _).trans HM.out.symm), HB.out⟩
end Go.Proofs.YtakfpfnaogdmlaaDoor.A
