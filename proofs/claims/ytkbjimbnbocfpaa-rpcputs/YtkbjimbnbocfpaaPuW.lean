/-
  RpcPuts' walk: it answers true, and makes new blocks alone. Its conditions: the groups lie in memory, and no memory bears more than 2^47 bytes.
-/
import Derived.Test.YtkbjimbnbocfpaaCa
import Derived.Test.YtkbjimbnbocfpaaRpu
import Derived.Test.YtkbjimbnbocfpaaGtW
import Derived.Test.YtkbjimbnbocfpaaFw
import Derived.Test.YtkbjimbnbocfpaaSk
import Derived.Test.YtkbjimbnbocfpaaSa
namespace Go.Proofs.Ytkbjimbnbocfpaa
open Go.RowKit
/-- PutCall of any call. -/
theorem put_any (c : Cl) (ao : Option Addr) (cap : Nat) (w : World) (hI : IntsAt w ao c.groups) (hao : ∀ g off, ao = some ⟨g, off, none⟩ → g < w.heap.size) (hG : c.groups.length ≤ 140737488355328) (hs : c.args.size ≤ 9223372036854700000) (S : ByteArray) (E : Int)
    (hS : (if c.ok then restS c.head c.args else ⟨#[]⟩) = S) (hE : (if c.ok then restC c.head c.args else 4) = E) :
    Calls Try.prog 11 #[.agg (c.cells (.slice ao c.groups.length cap))] w fun e w' => e = .returned (.tuple #[.string S, .int .i64 E]) ∧ Below w.heap.size w w' := by
  cases hu : c.unix with
  | false =>
    have h := putCall_plain c ao cap w hu hs
    rw [plain_head c hu, hS, hE] at h
    unfold Cl.cells
    rw [hu]
    exact h
  | true =>
    have h := putCall_unix c ao cap w hu hI hao hG hs S E hS hE
    unfold Cl.cells
    rw [hu]
    exact h
set_option maxRecDepth 100000 in
set_option maxHeartbeats 4000000 in
theorem puts_walk (a b c d : Int) (ux : Bool) (st uid gid : Int) (m : ByteArray) (G : List Int) (ao : Option Addr) (cap : Nat) (args : ByteArray) (w : World) (hI : IntsAt w ao G) (hcap : G.length ≤ cap) (hGl : 8 * G.length ≤ 140737488355328) (hm : m.size ≤ 140737488351232) (ha : args.size ≤ 140737488351232) :
    Calls Try.prog 3 #[.agg #[.int .i64 a, .int .i64 b, .int .i64 c, .int .i64 d], .agg #[.bool ux, .int .i64 st, .int .i64 uid, .int .i64 gid, .string m, .slice ao G.length cap], .string args] w fun e w' => e = .returned (.bool true) ∧ Below w.heap.size w w' := by
  obtain ⟨S, hS⟩ : ∃ S, (if (Cl.mk a b c d ux st m uid gid G args).ok then restS (Cl.mk a b c d ux st m uid gid G args).head args else ⟨#[]⟩) = S := ⟨_, rfl⟩
  obtain ⟨E, hE⟩ : ∃ E, (if (Cl.mk a b c d ux st m uid gid G args).ok then restC (Cl.mk a b c d ux st m uid gid G args).head args else 4) = E := ⟨_, rfl⟩
  have HS := Lib.hid hS
  have HE := Lib.hid hE
  have HI := Lib.hid ((hI.alloc (.cells #[.int .i64 a, .int .i64 b, .int .i64 c, .int .i64 d] 22)).alloc (.cells #[.bool ux, .int .i64 st, .int .i64 uid, .int .i64 gid, .string m, .slice ao G.length cap] 25))
  clear hS hE hI
  have hA : ((w.alloc (.cells #[.int .i64 a, .int .i64 b, .int .i64 c, .int .i64 d] 22)).alloc (.cells #[.bool ux, .int .i64 st, .int .i64 uid, .int .i64 gid, .string m, .slice ao G.length cap] 25)).heap[w.heap.size]? = some (.cells #[.int .i64 a, .int .i64 b, .int .i64 c, .int .i64 d] 22 (0, 0)) := keepA _ (newA _ rfl)
  have hB : ((w.alloc (.cells #[.int .i64 a, .int .i64 b, .int .i64 c, .int .i64 d] 22)).alloc (.cells #[.bool ux, .int .i64 st, .int .i64 uid, .int .i64 gid, .string m, .slice ao G.length cap] 25)).heap[w.heap.size + 1]? = some (.cells #[.bool ux, .int .i64 st, .int .i64 uid, .int .i64 gid, .string m, .slice ao G.length cap] 25 (0, 0)) := newA _ (by simp)
  have hL : Below w.heap.size w ((w.alloc (.cells #[.int .i64 a, .int .i64 b, .int .i64 c, .int .i64 d] 22)).alloc (.cells #[.bool ux, .int .i64 st, .int .i64 uid, .int .i64 gid, .string m, .slice ao G.length cap] 25)) := ((Below.refl _ w).alloc (Nat.le_refl _) _).alloc (by simp) _
  have HA := Lib.hid hA
  have HB := Lib.hid hB
  have HL := Lib.hid hL
  clear hA hB hL
  go_enter Try.func3, Try.ntmps3
  go_wp2_with fail
  generalize ((w.alloc (.cells #[.int .i64 a, .int .i64 b, .int .i64 c, .int .i64 d] 22)).alloc (.cells #[.bool ux, .int .i64 st, .int .i64 uid, .int .i64 gid, .string m, .slice ao G.length cap] 25)) = W at *
  refine (speaks_any W).mono ?_
  rintro e w1 ⟨rfl, hB1⟩
  have hA1 := (hB1.block _ (Array.getElem?_eq_some_iff.1 HA.out).1).trans HA.out
  have hBb1 := (hB1.block _ (Array.getElem?_eq_some_iff.1 HB.out).1).trans HB.out
  have HI1 := Lib.hid (HI.out.below hB1)
  have HL1 := Lib.hid (HL.out.trans (hB1.mono HL.out.size))
  clear hB1 HA HB HI HL
  have p0 : w1.cell? ⟨w.heap.size, 0, none⟩ = some (.int .i64 a) := by rw [cell_of_row _ _ _ _ _ _ hA1]; rfl
  have p1 : w1.cell? ⟨w.heap.size, 1, none⟩ = some (.int .i64 b) := by rw [cell_of_row _ _ _ _ _ _ hA1]; rfl
  have p2 : w1.cell? ⟨w.heap.size, 2, none⟩ = some (.int .i64 c) := by rw [cell_of_row _ _ _ _ _ _ hA1]; rfl
  have p3 : w1.cell? ⟨w.heap.size, 3, none⟩ = some (.int .i64 d) := by rw [cell_of_row _ _ _ _ _ _ hA1]; rfl
  have q0 : w1.cell? ⟨w.heap.size + 1, 0, none⟩ = some (.bool ux) := by rw [cell_of_row _ _ _ _ _ _ hBb1]; rfl
  have q1 : w1.cell? ⟨w.heap.size + 1, 1, none⟩ = some (.int .i64 st) := by rw [cell_of_row _ _ _ _ _ _ hBb1]; rfl
  have q2 : w1.cell? ⟨w.heap.size + 1, 2, none⟩ = some (.int .i64 uid) := by rw [cell_of_row _ _ _ _ _ _ hBb1]; rfl
  have q3 : w1.cell? ⟨w.heap.size + 1, 3, none⟩ = some (.int .i64 gid) := by rw [cell_of_row _ _ _ _ _ _ hBb1]; rfl
  have q4 : w1.cell? ⟨w.heap.size + 1, 4, none⟩ = some (.string m) := by rw [cell_of_row _ _ _ _ _ _ hBb1]; rfl
  have q5 : w1.cell? ⟨w.heap.size + 1, 5, none⟩ = some (.slice ao G.length cap) := by rw [cell_of_row _ _ _ _ _ _ hBb1]; rfl
  clear hA1 hBb1
  go_wp2_with fail
  refine (call_any a b c d ux st uid gid m G ao cap args w1 HI1.out hGl).mono ?_
  rintro e w2 ⟨g, cap', rfl, hown, hB2⟩
  clear p0 p1 p2 p3 q0 q1 q2 q3 q4 q5
  obtain ⟨ao', cap2, heq, hI2, hc2, hao2⟩ := ints_of_own hown
  have HI2 := Lib.hid hI2
  have HJ2 := Lib.hid (HI1.out.below hB2)
  have HAO := Lib.hid hao2
  have HL2 := Lib.hid (HL1.out.trans (hB2.mono HL1.out.size))
  clear hI2 hao2 hB2 hown HI1 HL1
  rw [heq]
  clear heq
  have hX : ((w2.alloc (.cells #[.int .i64 a, .int .i64 b, .int .i64 c, .int .i64 d, .bool ux, .int .i64 st, .string m, .int .i64 uid, .int .i64 gid, .slice ao' G.length cap2, .string args] 30)).alloc (.cells #[.int .i64 a, .int .i64 b, .int .i64 c, .int .i64 d, .bool ux, .int .i64 st, .string m, .int .i64 uid, .int .i64 gid, .slice ao G.length cap, .string args] 32)).heap[w2.heap.size]? = some (.cells #[.int .i64 a, .int .i64 b, .int .i64 c, .int .i64 d, .bool ux, .int .i64 st, .string m, .int .i64 uid, .int .i64 gid, .slice ao' G.length cap2, .string args] 30 (0, 0)) := keepA _ (newA _ rfl)
  have hY : ((w2.alloc (.cells #[.int .i64 a, .int .i64 b, .int .i64 c, .int .i64 d, .bool ux, .int .i64 st, .string m, .int .i64 uid, .int .i64 gid, .slice ao' G.length cap2, .string args] 30)).alloc (.cells #[.int .i64 a, .int .i64 b, .int .i64 c, .int .i64 d, .bool ux, .int .i64 st, .string m, .int .i64 uid, .int .i64 gid, .slice ao G.length cap, .string args] 32)).heap[w2.heap.size + 1]? = some (.cells #[.int .i64 a, .int .i64 b, .int .i64 c, .int .i64 d, .bool ux, .int .i64 st, .string m, .int .i64 uid, .int .i64 gid, .slice ao G.length cap, .string args] 32 (0, 0)) := newA _ (by simp)
  have HX := Lib.hid hX
  have HY := Lib.hid hY
  have HI3 := Lib.hid ((HI2.out.alloc (.cells #[.int .i64 a, .int .i64 b, .int .i64 c, .int .i64 d, .bool ux, .int .i64 st, .string m, .int .i64 uid, .int .i64 gid, .slice ao' G.length cap2, .string args] 30)).alloc (.cells #[.int .i64 a, .int .i64 b, .int .i64 c, .int .i64 d, .bool ux, .int .i64 st, .string m, .int .i64 uid, .int .i64 gid, .slice ao G.length cap, .string args] 32))
  have HJ3 := Lib.hid ((HJ2.out.alloc (.cells #[.int .i64 a, .int .i64 b, .int .i64 c, .int .i64 d, .bool ux, .int .i64 st, .string m, .int .i64 uid, .int .i64 gid, .slice ao' G.length cap2, .string args] 30)).alloc (.cells #[.int .i64 a, .int .i64 b, .int .i64 c, .int .i64 d, .bool ux, .int .i64 st, .string m, .int .i64 uid, .int .i64 gid, .slice ao G.length cap, .string args] 32))
  have HAO3 : Hid (∀ g off, ao' = some ⟨g, off, none⟩ → g < ((w2.alloc (.cells #[.int .i64 a, .int .i64 b, .int .i64 c, .int .i64 d, .bool ux, .int .i64 st, .string m, .int .i64 uid, .int .i64 gid, .slice ao' G.length cap2, .string args] 30)).alloc (.cells #[.int .i64 a, .int .i64 b, .int .i64 c, .int .i64 d, .bool ux, .int .i64 st, .string m, .int .i64 uid, .int .i64 gid, .slice ao G.length cap, .string args] 32)).heap.size) := Lib.hid (fun g off h => by have := HAO.out g off h; simp; omega)
  have HL3 := Lib.hid ((HL2.out.alloc HL2.out.size (.cells #[.int .i64 a, .int .i64 b, .int .i64 c, .int .i64 d, .bool ux, .int .i64 st, .string m, .int .i64 uid, .int .i64 gid, .slice ao' G.length cap2, .string args] 30)).alloc (by have := HL2.out.size; simp; omega) (.cells #[.int .i64 a, .int .i64 b, .int .i64 c, .int .i64 d, .bool ux, .int .i64 st, .string m, .int .i64 uid, .int .i64 gid, .slice ao G.length cap, .string args] 32))
  clear hX hY HI2 HJ2 HAO HL2
  go_wp2_with fail
  generalize ((w2.alloc (.cells #[.int .i64 a, .int .i64 b, .int .i64 c, .int .i64 d, .bool ux, .int .i64 st, .string m, .int .i64 uid, .int .i64 gid, .slice ao' G.length cap2, .string args] 30)).alloc (.cells #[.int .i64 a, .int .i64 b, .int .i64 c, .int .i64 d, .bool ux, .int .i64 st, .string m, .int .i64 uid, .int .i64 gid, .slice ao G.length cap, .string args] 32)) = W2 at *
  refine (put_any ⟨a, b, c, d, ux, st, m, uid, gid, G, args⟩ ao' cap2 W2 HI3.out HAO3.out (by show G.length ≤ _; omega) (by show args.size ≤ _; omega) S E HS.out HE.out).mono ?_
  rintro e w3 ⟨rfl, hB3⟩
  have hX3 := (hB3.block _ (Array.getElem?_eq_some_iff.1 HX.out).1).trans HX.out
  have hY3 := (hB3.block _ (Array.getElem?_eq_some_iff.1 HY.out).1).trans HY.out
  have HI4 := Lib.hid (HI3.out.below hB3)
  have HJ4 := Lib.hid (HJ3.out.below hB3)
  have HL4 := Lib.hid (HL3.out.trans (hB3.mono HL3.out.size))
  have HX3 := Lib.hid hX3
  have HY3 := Lib.hid hY3
  clear hB3 HX HY HI3 HJ3 HL3
  clear HAO3
  have y0 : w3.cell? ⟨w2.heap.size + 1, 0, none⟩ = some (.int .i64 a) := by rw [cell_of_row _ _ _ _ _ _ hY3]; rfl
  have y1 : w3.cell? ⟨w2.heap.size + 1, 1, none⟩ = some (.int .i64 b) := by rw [cell_of_row _ _ _ _ _ _ hY3]; rfl
  have y2 : w3.cell? ⟨w2.heap.size + 1, 2, none⟩ = some (.int .i64 c) := by rw [cell_of_row _ _ _ _ _ _ hY3]; rfl
  have y3 : w3.cell? ⟨w2.heap.size + 1, 3, none⟩ = some (.int .i64 d) := by rw [cell_of_row _ _ _ _ _ _ hY3]; rfl
  have y4 : w3.cell? ⟨w2.heap.size + 1, 4, none⟩ = some (.bool ux) := by rw [cell_of_row _ _ _ _ _ _ hY3]; rfl
  have y5 : w3.cell? ⟨w2.heap.size + 1, 5, none⟩ = some (.int .i64 st) := by rw [cell_of_row _ _ _ _ _ _ hY3]; rfl
  have y6 : w3.cell? ⟨w2.heap.size + 1, 6, none⟩ = some (.string m) := by rw [cell_of_row _ _ _ _ _ _ hY3]; rfl
  have y7 : w3.cell? ⟨w2.heap.size + 1, 7, none⟩ = some (.int .i64 uid) := by rw [cell_of_row _ _ _ _ _ _ hY3]; rfl
  have y8 : w3.cell? ⟨w2.heap.size + 1, 8, none⟩ = some (.int .i64 gid) := by rw [cell_of_row _ _ _ _ _ _ hY3]; rfl
  have y9 : w3.cell? ⟨w2.heap.size + 1, 9, none⟩ = some (.slice ao G.length cap) := by rw [cell_of_row _ _ _ _ _ _ hY3]; rfl
  have y10 : w3.cell? ⟨w2.heap.size + 1, 10, none⟩ = some (.string args) := by rw [cell_of_row _ _ _ _ _ _ hY3]; rfl
  clear hX3 hY3
  go_wp2_with fail
  refine (refPutCall_any ⟨a, b, c, d, ux, st, m, uid, gid, G, args⟩ ao cap w3 HJ4.out hcap (by show G.length ≤ _; omega) hm ha S E HS.out HE.out).mono ?_
  rintro e w4 ⟨rfl, hB4⟩
  clear y0 y1 y2 y3 y4 y5 y6 y7 y8 y9 y10
  have hX4 := (hB4.block _ (Array.getElem?_eq_some_iff.1 HX3.out).1).trans HX3.out
  have hY4 := (hB4.block _ (Array.getElem?_eq_some_iff.1 HY3.out).1).trans HY3.out
  have HI5 := Lib.hid (HI4.out.below hB4)
  have HJ5 := Lib.hid (HJ4.out.below hB4)
  have HL5 := Lib.hid (HL4.out.trans (hB4.mono HL4.out.size))
  have HX4 := Lib.hid hX4
  have HY4 := Lib.hid hY4
  clear hB4 HX3 HY3 HI4 HJ4 HL4
  have x0 : w4.cell? ⟨w2.heap.size, 0, none⟩ = some (.int .i64 a) := by rw [cell_of_row _ _ _ _ _ _ hX4]; rfl
  have x1 : w4.cell? ⟨w2.heap.size, 1, none⟩ = some (.int .i64 b) := by rw [cell_of_row _ _ _ _ _ _ hX4]; rfl
  have x2 : w4.cell? ⟨w2.heap.size, 2, none⟩ = some (.int .i64 c) := by rw [cell_of_row _ _ _ _ _ _ hX4]; rfl
  have x3 : w4.cell? ⟨w2.heap.size, 3, none⟩ = some (.int .i64 d) := by rw [cell_of_row _ _ _ _ _ _ hX4]; rfl
  have x4 : w4.cell? ⟨w2.heap.size, 4, none⟩ = some (.bool ux) := by rw [cell_of_row _ _ _ _ _ _ hX4]; rfl
  have x5 : w4.cell? ⟨w2.heap.size, 5, none⟩ = some (.int .i64 st) := by rw [cell_of_row _ _ _ _ _ _ hX4]; rfl
  have x6 : w4.cell? ⟨w2.heap.size, 6, none⟩ = some (.string m) := by rw [cell_of_row _ _ _ _ _ _ hX4]; rfl
  have x7 : w4.cell? ⟨w2.heap.size, 7, none⟩ = some (.int .i64 uid) := by rw [cell_of_row _ _ _ _ _ _ hX4]; rfl
  have x8 : w4.cell? ⟨w2.heap.size, 8, none⟩ = some (.int .i64 gid) := by rw [cell_of_row _ _ _ _ _ _ hX4]; rfl
  have x9 : w4.cell? ⟨w2.heap.size, 9, none⟩ = some (.slice ao' G.length cap2) := by rw [cell_of_row _ _ _ _ _ _ hX4]; rfl
  have x10 : w4.cell? ⟨w2.heap.size, 10, none⟩ = some (.string args) := by rw [cell_of_row _ _ _ _ _ _ hX4]; rfl
  have y0 : w4.cell? ⟨w2.heap.size + 1, 0, none⟩ = some (.int .i64 a) := by rw [cell_of_row _ _ _ _ _ _ hY4]; rfl
  have y1 : w4.cell? ⟨w2.heap.size + 1, 1, none⟩ = some (.int .i64 b) := by rw [cell_of_row _ _ _ _ _ _ hY4]; rfl
  have y2 : w4.cell? ⟨w2.heap.size + 1, 2, none⟩ = some (.int .i64 c) := by rw [cell_of_row _ _ _ _ _ _ hY4]; rfl
  have y3 : w4.cell? ⟨w2.heap.size + 1, 3, none⟩ = some (.int .i64 d) := by rw [cell_of_row _ _ _ _ _ _ hY4]; rfl
  have y4 : w4.cell? ⟨w2.heap.size + 1, 4, none⟩ = some (.bool ux) := by rw [cell_of_row _ _ _ _ _ _ hY4]; rfl
  have y5 : w4.cell? ⟨w2.heap.size + 1, 5, none⟩ = some (.int .i64 st) := by rw [cell_of_row _ _ _ _ _ _ hY4]; rfl
  have y6 : w4.cell? ⟨w2.heap.size + 1, 6, none⟩ = some (.string m) := by rw [cell_of_row _ _ _ _ _ _ hY4]; rfl
  have y7 : w4.cell? ⟨w2.heap.size + 1, 7, none⟩ = some (.int .i64 uid) := by rw [cell_of_row _ _ _ _ _ _ hY4]; rfl
  have y8 : w4.cell? ⟨w2.heap.size + 1, 8, none⟩ = some (.int .i64 gid) := by rw [cell_of_row _ _ _ _ _ _ hY4]; rfl
  have y9 : w4.cell? ⟨w2.heap.size + 1, 9, none⟩ = some (.slice ao G.length cap) := by rw [cell_of_row _ _ _ _ _ _ hY4]; rfl
  have y10 : w4.cell? ⟨w2.heap.size + 1, 10, none⟩ = some (.string args) := by rw [cell_of_row _ _ _ _ _ _ hY4]; rfl
  clear hX4 hY4
  go_wp2_with fail
  refine (same_any ⟨a, b, c, d, ux, st, m, uid, gid, G, args⟩ ao' ao cap2 cap w4 HI5.out HJ5.out (by show G.length ≤ _; omega) hc2 hcap).mono ?_
  rintro e w5 ⟨rfl, hB5⟩
  clear x0 x1 x2 x3 x4 x5 x6 x7 x8 x9 x10
  clear y0 y1 y2 y3 y4 y5 y6 y7 y8 y9 y10
  have hX5 := (hB5.block _ (Array.getElem?_eq_some_iff.1 HX4.out).1).trans HX4.out
  have hY5 := (hB5.block _ (Array.getElem?_eq_some_iff.1 HY4.out).1).trans HY4.out
  have HI6 := Lib.hid (HI5.out.below hB5)
  have HJ6 := Lib.hid (HJ5.out.below hB5)
  have HL6 := Lib.hid (HL5.out.trans (hB5.mono HL5.out.size))
  have HX5 := Lib.hid hX5
  have HY5 := Lib.hid hY5
  clear hB5 HX4 HY4 HI5 HJ5 HL5
  clear hX5 hY5
  by_cases h0 : E = 0
  · subst h0
    have hok : (Cl.mk a b c d ux st m uid gid G args).ok = true := by
      have h := HE.out
      cases hc : (Cl.mk a b c d ux st m uid gid G args).ok with
      | true => rfl
      | false => rw [hc] at h; simp at h
    have hE := HE.out
    have hS := HS.out
    rw [if_pos hok] at hE hS
    have hg := getO_put ⟨a, b, c, d, ux, st, m, uid, gid, G, args⟩ hok hE
    dsimp only at hg
    rw [hS] at hg
    have HG := Lib.hid hg
    clear hg hE hS hok HE HS
    go_wp2_with fail
    have h := getCall_any S w5
    rw [HG.out] at h
    refine h.mono ?_
    clear h
    rintro r w6 ⟨vg, rfl, ho, hB6⟩
    obtain ⟨bo, cap3, rfl, hI7, hc3, _⟩ := ints_of_own ho
    have hY6 := (hB6.block _ (Array.getElem?_eq_some_iff.1 HY5.out).1).trans HY5.out
    have HJ7 := Lib.hid (HJ6.out.below hB6)
    have HK7 := Lib.hid hI7
    have HL7 := Lib.hid (HL6.out.trans (hB6.mono HL6.out.size))
    clear hB6 ho hI7 HX5 HY5 HJ6 HI6 HL6
    have hlt : w2.heap.size + 1 < w6.heap.size := (Array.getElem?_eq_some_iff.1 hY6).1
    have y0 : (w6.alloc (.cells #[.int .i64 a, .int .i64 b, .int .i64 c, .int .i64 d, .bool ux, .int .i64 st, .string m, .int .i64 uid, .int .i64 gid, .slice bo G.length cap3, .string args] 30)).cell? ⟨w2.heap.size + 1, 0, none⟩ = some (.int .i64 a) := by rw [cell_of_row _ _ _ _ _ _ (keepA _ hY6)]; rfl
    have y1 : (w6.alloc (.cells #[.int .i64 a, .int .i64 b, .int .i64 c, .int .i64 d, .bool ux, .int .i64 st, .string m, .int .i64 uid, .int .i64 gid, .slice bo G.length cap3, .string args] 30)).cell? ⟨w2.heap.size + 1, 1, none⟩ = some (.int .i64 b) := by rw [cell_of_row _ _ _ _ _ _ (keepA _ hY6)]; rfl
    have y2 : (w6.alloc (.cells #[.int .i64 a, .int .i64 b, .int .i64 c, .int .i64 d, .bool ux, .int .i64 st, .string m, .int .i64 uid, .int .i64 gid, .slice bo G.length cap3, .string args] 30)).cell? ⟨w2.heap.size + 1, 2, none⟩ = some (.int .i64 c) := by rw [cell_of_row _ _ _ _ _ _ (keepA _ hY6)]; rfl
    have y3 : (w6.alloc (.cells #[.int .i64 a, .int .i64 b, .int .i64 c, .int .i64 d, .bool ux, .int .i64 st, .string m, .int .i64 uid, .int .i64 gid, .slice bo G.length cap3, .string args] 30)).cell? ⟨w2.heap.size + 1, 3, none⟩ = some (.int .i64 d) := by rw [cell_of_row _ _ _ _ _ _ (keepA _ hY6)]; rfl
    have y4 : (w6.alloc (.cells #[.int .i64 a, .int .i64 b, .int .i64 c, .int .i64 d, .bool ux, .int .i64 st, .string m, .int .i64 uid, .int .i64 gid, .slice bo G.length cap3, .string args] 30)).cell? ⟨w2.heap.size + 1, 4, none⟩ = some (.bool ux) := by rw [cell_of_row _ _ _ _ _ _ (keepA _ hY6)]; rfl
    have y5 : (w6.alloc (.cells #[.int .i64 a, .int .i64 b, .int .i64 c, .int .i64 d, .bool ux, .int .i64 st, .string m, .int .i64 uid, .int .i64 gid, .slice bo G.length cap3, .string args] 30)).cell? ⟨w2.heap.size + 1, 5, none⟩ = some (.int .i64 st) := by rw [cell_of_row _ _ _ _ _ _ (keepA _ hY6)]; rfl
    have y6 : (w6.alloc (.cells #[.int .i64 a, .int .i64 b, .int .i64 c, .int .i64 d, .bool ux, .int .i64 st, .string m, .int .i64 uid, .int .i64 gid, .slice bo G.length cap3, .string args] 30)).cell? ⟨w2.heap.size + 1, 6, none⟩ = some (.string m) := by rw [cell_of_row _ _ _ _ _ _ (keepA _ hY6)]; rfl
    have y7 : (w6.alloc (.cells #[.int .i64 a, .int .i64 b, .int .i64 c, .int .i64 d, .bool ux, .int .i64 st, .string m, .int .i64 uid, .int .i64 gid, .slice bo G.length cap3, .string args] 30)).cell? ⟨w2.heap.size + 1, 7, none⟩ = some (.int .i64 uid) := by rw [cell_of_row _ _ _ _ _ _ (keepA _ hY6)]; rfl
    have y8 : (w6.alloc (.cells #[.int .i64 a, .int .i64 b, .int .i64 c, .int .i64 d, .bool ux, .int .i64 st, .string m, .int .i64 uid, .int .i64 gid, .slice bo G.length cap3, .string args] 30)).cell? ⟨w2.heap.size + 1, 8, none⟩ = some (.int .i64 gid) := by rw [cell_of_row _ _ _ _ _ _ (keepA _ hY6)]; rfl
    have y9 : (w6.alloc (.cells #[.int .i64 a, .int .i64 b, .int .i64 c, .int .i64 d, .bool ux, .int .i64 st, .string m, .int .i64 uid, .int .i64 gid, .slice bo G.length cap3, .string args] 30)).cell? ⟨w2.heap.size + 1, 9, none⟩ = some (.slice ao G.length cap) := by rw [cell_of_row _ _ _ _ _ _ (keepA _ hY6)]; rfl
    have y10 : (w6.alloc (.cells #[.int .i64 a, .int .i64 b, .int .i64 c, .int .i64 d, .bool ux, .int .i64 st, .string m, .int .i64 uid, .int .i64 gid, .slice bo G.length cap3, .string args] 30)).cell? ⟨w2.heap.size + 1, 10, none⟩ = some (.string args) := by rw [cell_of_row _ _ _ _ _ _ (keepA _ hY6)]; rfl
    have HL8 := Lib.hid (HL7.out.alloc HL7.out.size (.cells #[.int .i64 a, .int .i64 b, .int .i64 c, .int .i64 d, .bool ux, .int .i64 st, .string m, .int .i64 uid, .int .i64 gid, .slice bo G.length cap3, .string args] 30))
    clear hY6
    go_wp2_with fail
    refine (same_any ⟨a, b, c, d, ux, st, m, uid, gid, G, args⟩ bo ao cap3 cap _ (HK7.out.alloc _) (HJ7.out.alloc _) (by show G.length ≤ _; omega) hc3 hcap).mono ?_
    rintro r w8 ⟨rfl, hB8⟩
    have HL9 := Lib.hid (HL8.out.trans (hB8.mono HL8.out.size))
    clear hB8
    go_wp2
    go_ret
    exact ⟨rfl, HL9.out⟩
  · have he : (E != 0) = true := by simpa using h0
    clear h0
    go_wp2
    go_ret
    exact ⟨rfl, HL6.out⟩
end Go.Proofs.Ytkbjimbnbocfpaa
