/-
  PutCall of a call with an AUTH_SYS credential. Its conditions: the groups lie in memory, the texts are of a length that a machine has.
-/
import Derived.Test.YtkbjimbnbocfpaaPr
namespace Go.Proofs.Ytkbjimbnbocfpaa
open Go.RowKit
theorem IntsAt.alloc {w : World} {ao : Option Addr} {L : List Int} (h : IntsAt w ao L) (o : Obj) : IntsAt (w.alloc o) ao L := h.below ((Below.refl _ _).alloc (Nat.le_refl _) o)

set_option maxRecDepth 100000 in
set_option maxHeartbeats 2000000 in
theorem isCall_unix (xid prog vers proc stamp uid gid : Int) (mach args : ByteArray) (G : List Int) (ao : Option Addr) (cap : Nat) (w : World) (hI : IntsAt w ao G) (hG : G.length ≤ 140737488355328) (b : Bool) (hb : Cl.ok ⟨xid, prog, vers, proc, true, stamp, mach, uid, gid, G, args⟩ = b) :
    Calls Try.prog 20 #[.agg #[.int .i64 xid, .int .i64 prog, .int .i64 vers, .int .i64 proc, .bool true, .int .i64 stamp, .string mach, .int .i64 uid, .int .i64 gid, .slice ao G.length cap, .string args]] w
      fun e w' => e = .returned (.bool b) ∧ Below w.heap.size w w' := by
  have HI := Lib.hid hI
  clear hI
  obtain ⟨b1, h1⟩ : ∃ b, areU [xid, prog, vers, proc] = b := ⟨_, rfl⟩
  obtain ⟨b2, h2⟩ : ∃ b, areU [stamp, uid, gid] = b := ⟨_, rfl⟩
  obtain ⟨b3, h3⟩ : ∃ b, areU G = b := ⟨_, rfl⟩
  have hb' : (b1 && (b2 && decide (mach.size ≤ 255) && decide (G.length ≤ 16) && b3)) = b := by rw [← hb, ← h1, ← h2, ← h3]; rfl
  have HB := Lib.hid hb'
  have H1 := Lib.hid h1
  have H2 := Lib.hid h2
  have H3 := Lib.hid h3
  clear h1 h2 h3 hb hb'
  go_enter Try.func20, Try.ntmps20
  go_wp2_with fail
  refine (areU_n [xid, prog, vers, proc] 4 rfl (some ⟨w.heap.size + 1, 0, none⟩) 4 _ (built4 _ _ (by simp) _ _ _ _) (by decide) b1 H1.out).mono ?_
  rintro e w' ⟨rfl, rfl⟩
  cases b1
  · go_wp2
    go_ret
    exact ⟨by rw [← HB.out]; rfl, ((Below.refl _ w).alloc (Nat.le_refl _) _).alloc (by simp) _⟩
  · go_wp2_with fail
    refine (areU_n [stamp, uid, gid] 3 rfl (some ⟨w.heap.size + 1 + 1, 0, none⟩) 3 _ (built3 _ _ (by simp) _ _ _) (by decide) b2 H2.out).mono ?_
    rintro e w' ⟨rfl, rfl⟩
    cases b2
    · go_wp2
      go_ret
      exact ⟨by rw [← HB.out]; rfl, (((Below.refl _ w).alloc (Nat.le_refl _) _).alloc (by simp) _).alloc (by simp; omega) _⟩
    · by_cases c1 : mach.size ≤ 255
      · have d1 : decide ((mach.size : Int) ≤ 255) = true := decide_eq_true (by omega)
        by_cases c2 : G.length ≤ 16
        · have d2 : decide ((G.length : Int) ≤ 16) = true := decide_eq_true (by omega)
          go_wp2_with fail
          refine (areU_n G G.length rfl ao cap _ (((HI.out.alloc _).alloc _).alloc _) (by omega) b3 H3.out).mono ?_
          rintro e w' ⟨rfl, rfl⟩
          go_wp2
          go_ret
          exact ⟨by rw [← HB.out]; simp [c1, c2], (((Below.refl _ w).alloc (Nat.le_refl _) _).alloc (by simp) _).alloc (by simp; omega) _⟩
        · have d2 : decide ((G.length : Int) ≤ 16) = false := decide_eq_false (by omega)
          go_wp2
          go_ret
          exact ⟨by rw [← HB.out]; simp [c1, c2], (((Below.refl _ w).alloc (Nat.le_refl _) _).alloc (by simp) _).alloc (by simp; omega) _⟩
      · have d1 : decide ((mach.size : Int) ≤ 255) = false := decide_eq_false (by omega)
        go_wp2
        go_ret
        exact ⟨by rw [← HB.out]; simp [c1], (((Below.refl _ w).alloc (Nat.le_refl _) _).alloc (by simp) _).alloc (by simp; omega) _⟩
end Go.Proofs.Ytkbjimbnbocfpaa
