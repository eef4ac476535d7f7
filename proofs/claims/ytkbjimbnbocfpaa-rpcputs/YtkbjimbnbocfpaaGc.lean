/-
  GetCall: the refusal that is caught. No condition.
-/
import Derived.Test.YtkbjimbnbocfpaaTe
import Derived.Test.YtkbjimbnbocfpaaPr
namespace Go.Proofs.Ytkbjimbnbocfpaa
open Go.RowKit

/-- The bytes of a reply. -/
def Rp.bytes (r : Rp) : ByteArray := if r.ok then restS r.head r.body else ⟨#[]⟩

theorem putReply_n (r : Rp) (w : World) (hs : r.body.size ≤ 9223372036854700000) (S : ByteArray) (hS : r.bytes = S) :
    Calls Try.prog 16 #[.agg #[.int .i64 r.xid, .int .i64 r.v, .int .i64 r.low, .int .i64 r.high, .string r.body]] w
      fun e w' => ∃ c : Int, e = .returned (.tuple #[.string S, .int .i64 c]) ∧ Below w.heap.size w w' := by
  subst hS
  refine (putReply_any r w hs).mono ?_
  rintro e w' ⟨rfl, h⟩
  exact ⟨_, rfl, h⟩

set_option maxRecDepth 100000 in
set_option maxHeartbeats 400000 in
theorem refused_any (xid v lo hi : Int) (w : World) : Calls Try.prog 34 #[.iface 77 (.agg #[.int .i64 xid, .int .i64 v, .int .i64 lo, .int .i64 hi, .string ⟨#[]⟩])] w fun r w' => r = .returned (.string (Rp.mk xid v lo hi ⟨#[]⟩).bytes) ∧ Below w.heap.size w w' := by
  have hta : ∀ w : World, (Instr.typeAssert (.iface 77 (.agg #[.int .i64 xid, .int .i64 v, .int .i64 lo, .int .i64 hi, .string ⟨#[]⟩])) 20 77 true).run Try.prog w = .ok (.tuple #[.agg #[.int .i64 xid, .int .i64 v, .int .i64 lo, .int .i64 hi, .string ⟨#[]⟩], .bool true]) w := fun w => by kernel_rfl
  obtain ⟨S, hS⟩ : ∃ S, (Rp.mk xid v lo hi ⟨#[]⟩).bytes = S := ⟨_, rfl⟩
  rw [hS]
  have HS := Lib.hid hS
  clear hS
  go_enter Try.func34, Try.ntmps34
  go_wp2_with fail
  refine (putReply_n (Rp.mk xid v lo hi ⟨#[]⟩) _ (by show (#[] : Array UInt8).size ≤ _; simp) S HS.out).mono ?_
  rintro r w' ⟨c, rfl, hB⟩
  have HB := Lib.hid hB
  clear hB
  go_wp2
  go_ret
  exact ⟨rfl, ((Below.refl _ _).alloc (Nat.le_refl _) _).trans ⟨HB.out.os, HB.out.tape, HB.out.output, HB.out.size, fun k hk => HB.out.block k (by show k < (w.heap.push _).size; rw [Array.size_push]; omega)⟩⟩

/-- The three results of GetCall, each in a block of its own. -/
abbrev errB (e : Int) : Value := .int .i64 e
set_option maxRecDepth 100000 in
set_option maxHeartbeats 400000 in
theorem idle33 (a b c : Nat) (w : World) :
    CallsD Try.prog 33 #[.pointer (some ⟨a, 0, none⟩), .pointer (some ⟨b, 0, none⟩), .pointer (some ⟨c, 0, none⟩)] .returning w fun r u' w' => r = .returned (.tuple #[]) ∧ u' = .returning ∧ w' = w := by
  refine callsD_of_wpS Try.func33 rfl fun c₀ cs hu => ?_
  apply wpS_seq
  apply wpS_region
  simp [wpOpsS, go_sem, recoverD, hu, Try.ntmps33, Exit.thenS]
  refine wpS_of_wp ?_
  go_wp2_with fail
  cases c₀
  simp_all [bodyPostS, results, Try.results33]

theorem laid33 (a b c : Nat) (w w1 : World) (S : ByteArray) (hB : Below w.heap.size w w1) (hA : CAt w1 a 0 0 0 0 false 0 ⟨#[]⟩ 0 0 (.slice none 0 0) ⟨#[]⟩) (hb : w1.heap[b]? = some (.cells #[.string ⟨#[]⟩] 9 (0, 0))) (hc : w1.heap[c]? = some (.cells #[.int .i64 0] 35 (0, 0))) (hab : a ≠ b) (hac : a ≠ c) (hbc : b ≠ c) (W : World)
    (hW : W = (((((((((((((w1.setCell ⟨a, 0, none⟩ (.int .i64 0)).setCell ⟨a, 1, none⟩ (.int .i64 0)).setCell ⟨a, 2, none⟩ (.int .i64 0)).setCell ⟨a, 3, none⟩ (.int .i64 0)).setCell ⟨a, 4, none⟩ (.bool false)).setCell ⟨a, 5, none⟩ (.int .i64 0)).setCell ⟨a, 6, none⟩ (.string ⟨#[]⟩)).setCell ⟨a, 7, none⟩ (.int .i64 0)).setCell ⟨a, 8, none⟩ (.int .i64 0)).setCell ⟨a, 9, none⟩ (.slice none 0 0)).setCell ⟨a, 10, none⟩ (.string ⟨#[]⟩)).setCell ⟨b, 0, none⟩ (.string S)).setCell ⟨c, 0, none⟩ (.int .i64 62))) :
    CAt W a 0 0 0 0 false 0 ⟨#[]⟩ 0 0 (.slice none 0 0) ⟨#[]⟩ ∧ W.heap[b]? = some (.cells #[.string S] 9 (0, 0)) ∧ W.heap[c]? = some (.cells #[.int .i64 62] 35 (0, 0)) ∧ W.os = w.os ∧ W.tape = w.tape ∧ W.output = w.output ∧ w.heap.size ≤ W.heap.size ∧ ∀ k, k < w.heap.size → k ≠ a → k ≠ b → k ≠ c → W.heap[k]? = w.heap[k]? := by
  have o1 : Only a w1 (((((((((((w1.setCell ⟨a, 0, none⟩ (.int .i64 0)).setCell ⟨a, 1, none⟩ (.int .i64 0)).setCell ⟨a, 2, none⟩ (.int .i64 0)).setCell ⟨a, 3, none⟩ (.int .i64 0)).setCell ⟨a, 4, none⟩ (.bool false)).setCell ⟨a, 5, none⟩ (.int .i64 0)).setCell ⟨a, 6, none⟩ (.string ⟨#[]⟩)).setCell ⟨a, 7, none⟩ (.int .i64 0)).setCell ⟨a, 8, none⟩ (.int .i64 0)).setCell ⟨a, 9, none⟩ (.slice none 0 0)).setCell ⟨a, 10, none⟩ (.string ⟨#[]⟩)) := (((((((((((Only.refl _ _).set 0 _).set 1 _).set 2 _).set 3 _).set 4 _).set 5 _).set 6 _).set 7 _).set 8 _).set 9 _).set 10 _
  have h1 : CAt (((((((((((w1.setCell ⟨a, 0, none⟩ (.int .i64 0)).setCell ⟨a, 1, none⟩ (.int .i64 0)).setCell ⟨a, 2, none⟩ (.int .i64 0)).setCell ⟨a, 3, none⟩ (.int .i64 0)).setCell ⟨a, 4, none⟩ (.bool false)).setCell ⟨a, 5, none⟩ (.int .i64 0)).setCell ⟨a, 6, none⟩ (.string ⟨#[]⟩)).setCell ⟨a, 7, none⟩ (.int .i64 0)).setCell ⟨a, 8, none⟩ (.int .i64 0)).setCell ⟨a, 9, none⟩ (.slice none 0 0)).setCell ⟨a, 10, none⟩ (.string ⟨#[]⟩)) a 0 0 0 0 false 0 ⟨#[]⟩ 0 0 (.slice none 0 0) ⟨#[]⟩ := (((((((((((hA.s0 0).s1 0).s2 0).s3 0).s4 false).s5 0).s6 ⟨#[]⟩).s7 0).s8 0).s9 (.slice none 0 0)).s10 ⟨#[]⟩)
  generalize (((((((((((w1.setCell ⟨a, 0, none⟩ (.int .i64 0)).setCell ⟨a, 1, none⟩ (.int .i64 0)).setCell ⟨a, 2, none⟩ (.int .i64 0)).setCell ⟨a, 3, none⟩ (.int .i64 0)).setCell ⟨a, 4, none⟩ (.bool false)).setCell ⟨a, 5, none⟩ (.int .i64 0)).setCell ⟨a, 6, none⟩ (.string ⟨#[]⟩)).setCell ⟨a, 7, none⟩ (.int .i64 0)).setCell ⟨a, 8, none⟩ (.int .i64 0)).setCell ⟨a, 9, none⟩ (.slice none 0 0)).setCell ⟨a, 10, none⟩ (.string ⟨#[]⟩)) = v at *
  have hb1 := (o1.block b hab.symm).trans hb
  have hc1 := (o1.block c hac.symm).trans hc
  have o2 : Only b v (v.setCell ⟨b, 0, none⟩ (.string S)) := (Only.refl _ _).set 0 _
  have hb2 : (v.setCell ⟨b, 0, none⟩ (.string S)).heap[b]? = some (.cells #[.string S] 9 (0, 0)) := by rw [heap_set _ hb1]; rfl
  have h2 := h1.only o2 hab
  have hc2 := (o2.block c hbc.symm).trans hc1
  generalize v.setCell ⟨b, 0, none⟩ (.string S) = u at *
  have o3 : Only c u W := by rw [hW]; exact (Only.refl _ _).set 0 _
  have hc3 : W.heap[c]? = some (.cells #[.int .i64 62] 35 (0, 0)) := by rw [hW, heap_set _ hc2]; rfl
  refine ⟨h2.only o3 hac, (o3.block b hbc).trans hb2, hc3, o3.os.trans (o2.os.trans (o1.os.trans hB.os)), o3.tape.trans (o2.tape.trans (o1.tape.trans hB.tape)), o3.output.trans (o2.output.trans (o1.output.trans hB.output)), ?_, fun k hk ha hb hc => (o3.block k hc).trans ((o2.block k hb).trans ((o1.block k ha).trans (hB.block k hk)))⟩
  rw [o3.size, o2.size, o1.size]
  exact hB.size


set_option maxRecDepth 100000 in
set_option maxHeartbeats 1000000 in
theorem catch33 (a b c : Nat) (xid v lo hi : Int) (w : World) (hA : CAt w a 0 0 0 0 false 0 ⟨#[]⟩ 0 0 (.slice none 0 0) ⟨#[]⟩) (hb : w.heap[b]? = some (.cells #[.string ⟨#[]⟩] 9 (0, 0))) (hc : w.heap[c]? = some (.cells #[.int .i64 0] 35 (0, 0))) :
    CallsD Try.prog 33 #[.pointer (some ⟨a, 0, none⟩), .pointer (some ⟨b, 0, none⟩), .pointer (some ⟨c, 0, none⟩)] (.panicking [{ v := .iface 77 (.agg #[.int .i64 xid, .int .i64 v, .int .i64 lo, .int .i64 hi, .string ⟨#[]⟩]), recovered := false }]) w fun r u' w' =>
      r = .returned (.tuple #[]) ∧ u' = .panicking [{ v := .iface 77 (.agg #[.int .i64 xid, .int .i64 v, .int .i64 lo, .int .i64 hi, .string ⟨#[]⟩]), recovered := true }] ∧
      CAt w' a 0 0 0 0 false 0 ⟨#[]⟩ 0 0 (.slice none 0 0) ⟨#[]⟩ ∧ w'.heap[b]? = some (.cells #[.string (Rp.mk xid v lo hi ⟨#[]⟩).bytes] 9 (0, 0)) ∧ w'.heap[c]? = some (.cells #[.int .i64 62] 35 (0, 0)) ∧ w'.os = w.os ∧ w'.tape = w.tape ∧ w'.output = w.output ∧ w.heap.size ≤ w'.heap.size ∧ ∀ k, k < w.heap.size → k ≠ a → k ≠ b → k ≠ c → w'.heap[k]? = w.heap[k]? := by
  obtain ⟨S, hS⟩ : ∃ S, (Rp.mk xid v lo hi ⟨#[]⟩).bytes = S := ⟨_, rfl⟩
  rw [hS]
  have hr := refused_any xid v lo hi w
  rw [hS] at hr
  have HR := Lib.hid hr
  have HA := Lib.hid hA
  have HBB := Lib.hid hb
  have HCC := Lib.hid hc
  have hla := hA.lt
  have hlb := (Array.getElem?_eq_some_iff.mp hb).1
  have hlc := (Array.getElem?_eq_some_iff.mp hc).1
  clear hS hr hA hb hc
  refine callsD_of_wpS Try.func33 rfl fun c₀ cs hu => ?_
  apply wpS_seq
  apply wpS_region
  simp [wpOpsS, go_sem, recoverD, hu, Try.ntmps33, Exit.thenS]
  refine wpS_of_wp ?_
  go_wp2_with fail
  refine HR.out.mono ?_
  rintro r w1 ⟨rfl, hB⟩
  have hA1 : CAt w1 a 0 0 0 0 false 0 ⟨#[]⟩ 0 0 (.slice none 0 0) ⟨#[]⟩ := (hB.block a hla).trans HA.out
  have hb1 := (hB.block b hlb).trans HBB.out
  have hc1 := (hB.block c hlc).trans HCC.out
  have HA1 := Lib.hid hA1
  have HB1 := Lib.hid hb1
  have HC1 := Lib.hid hc1
  have HBel := Lib.hid hB
  obtain ⟨z0, z1, z2, z3, z4, z5, z6, z7, z8, z9, z10⟩ := hA1.all
  have y0 := hA1.free 0
  have y1 := hA1.free 1
  have y2 := hA1.free 2
  have y3 := hA1.free 3
  have y4 := hA1.free 4
  have y5 := hA1.free 5
  have y6 := hA1.free 6
  have y7 := hA1.free 7
  have y8 := hA1.free 8
  have y9 := hA1.free 9
  have y10 := hA1.free 10
  have bz := Lib.frozen_of_heap hb1 0
  have cz := Lib.frozen_of_heap hc1 0
  have bc : w1.cell? ⟨b, 0, none⟩ = some (.string ⟨#[]⟩) := by rw [cell_of_row w1 b 0 _ _ _ hb1]; rfl
  have cc : w1.cell? ⟨c, 0, none⟩ = some (.int .i64 0) := by rw [cell_of_row w1 c 0 _ _ _ hc1]; rfl
  have hab : a ≠ b := by rintro rfl; have h := (show w1.heap[a]? = _ from HA1.out).symm.trans HB1.out; injection h with h; injection h with _ h _; exact absurd h (by decide)
  have hac : a ≠ c := by rintro rfl; have h := (show w1.heap[a]? = _ from HA1.out).symm.trans HC1.out; injection h with h; injection h with _ h _; exact absurd h (by decide)
  have hbc : b ≠ c := by rintro rfl; have h := HB1.out.symm.trans HC1.out; injection h with h; injection h with _ h _; exact absurd h (by decide)
  have hba := hab.symm
  have hca := hac.symm
  have hcb := hbc.symm
  clear hA1 hb1 hc1 hB
  go_wp2
  have hQ := laid33 a b c w w1 S HBel.out HA1.out HB1.out HC1.out hab hac hbc (((((((((((((w1.setCell ⟨a, 0, none⟩ (.int .i64 0)).setCell ⟨a, 1, none⟩ (.int .i64 0)).setCell ⟨a, 2, none⟩ (.int .i64 0)).setCell ⟨a, 3, none⟩ (.int .i64 0)).setCell ⟨a, 4, none⟩ (.bool false)).setCell ⟨a, 5, none⟩ (.int .i64 0)).setCell ⟨a, 6, none⟩ (.string ⟨#[]⟩)).setCell ⟨a, 7, none⟩ (.int .i64 0)).setCell ⟨a, 8, none⟩ (.int .i64 0)).setCell ⟨a, 9, none⟩ (.slice none 0 0)).setCell ⟨a, 10, none⟩ (.string ⟨#[]⟩)).setCell ⟨b, 0, none⟩ (.string S)).setCell ⟨c, 0, none⟩ (.int .i64 62)) rfl
  generalize (((((((((((((w1.setCell ⟨a, 0, none⟩ (.int .i64 0)).setCell ⟨a, 1, none⟩ (.int .i64 0)).setCell ⟨a, 2, none⟩ (.int .i64 0)).setCell ⟨a, 3, none⟩ (.int .i64 0)).setCell ⟨a, 4, none⟩ (.bool false)).setCell ⟨a, 5, none⟩ (.int .i64 0)).setCell ⟨a, 6, none⟩ (.string ⟨#[]⟩)).setCell ⟨a, 7, none⟩ (.int .i64 0)).setCell ⟨a, 8, none⟩ (.int .i64 0)).setCell ⟨a, 9, none⟩ (.slice none 0 0)).setCell ⟨a, 10, none⟩ (.string ⟨#[]⟩)).setCell ⟨b, 0, none⟩ (.string S)).setCell ⟨c, 0, none⟩ (.int .i64 62)) = W at hQ ⊢
  obtain ⟨k1, k2, k3, k4, k5, k6, k7, k8⟩ := hQ
  simp [bodyPostS, results, Try.results33]
  exact ⟨k1, k2, k3, k4, k5, k6, k7, k8⟩
end Go.Proofs.Ytkbjimbnbocfpaa
