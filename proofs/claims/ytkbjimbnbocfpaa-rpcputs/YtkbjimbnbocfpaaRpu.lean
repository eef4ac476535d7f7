/-
  The document's PutCall answers as the program's does. Its conditions: the groups lie in memory, the texts are no longer than 2^47 - 4096 bytes.
-/
import Derived.Test.YtkbjimbnbocfpaaRew
import Derived.Test.YtkbjimbnbocfpaaRpr
import Derived.Test.YtkbjimbnbocfpaaSa
import Derived.Test.YtkbjimbnbocfpaaPv
import Derived.Deep.RegionWith
namespace Go.Proofs.Ytkbjimbnbocfpaa
open Go.RowKit
/-- The call in its box, in the middle of the document's PutCall. -/
structure Kc (w0 : World) (B : Nat) (c : Cl) (ao : Option Addr) (cap : Nat) (w : World) : Prop where
  blk : w.heap[B]? = some (.cells (c.cells (.slice ao c.groups.length cap)) 32 (0, 0))
  ints : IntsAt w ao c.groups
  low : Below w0.heap.size w0 w
theorem Kc.step {w0 w w' : World} {B : Nat} {c : Cl} {ao : Option Addr} {cap : Nat} (h : Kc w0 B c ao cap w) (hb : Below w.heap.size w w') : Kc w0 B c ao cap w' :=
  ⟨(hb.block _ (Array.getElem?_eq_some_iff.1 h.blk).1).trans h.blk, h.ints.below hb, h.low.trans (hb.mono h.low.size)⟩
theorem Kc.drew {w0 w : World} {B : Nat} {c : Cl} {ao : Option Addr} {cap : Nat} (h : Kc w0 B c ao cap w) : Kc w0 B c ao cap w.drew := ⟨h.blk, h.ints, h.low.drew⟩
section
variable {w0 w : World} {B : Nat} {xid prog vers proc : Int} {unix : Bool} {st : Int} {m : ByteArray} {uid gid : Int} {G : List Int} {args : ByteArray} {ao : Option Addr} {cap : Nat}
theorem Kc.all (h : Kc w0 B ⟨xid, prog, vers, proc, unix, st, m, uid, gid, G, args⟩ ao cap w) : w.cell? ⟨B, 0, none⟩ = some (.int .i64 xid) ∧ w.cell? ⟨B, 1, none⟩ = some (.int .i64 prog) ∧ w.cell? ⟨B, 2, none⟩ = some (.int .i64 vers) ∧ w.cell? ⟨B, 3, none⟩ = some (.int .i64 proc) ∧ w.cell? ⟨B, 4, none⟩ = some (.bool unix) ∧ w.cell? ⟨B, 5, none⟩ = some (.int .i64 st) ∧ w.cell? ⟨B, 6, none⟩ = some (.string m) ∧ w.cell? ⟨B, 7, none⟩ = some (.int .i64 uid) ∧ w.cell? ⟨B, 8, none⟩ = some (.int .i64 gid) ∧ w.cell? ⟨B, 9, none⟩ = some (.slice ao G.length cap) ∧ w.cell? ⟨B, 10, none⟩ = some (.string args) := by
  refine ⟨?_, ?_, ?_, ?_, ?_, ?_, ?_, ?_, ?_, ?_, ?_⟩ <;> (rw [cell_of_row w B _ _ _ _ h.blk]; rfl)
theorem refUint_c (n : Int) (N : List UInt8) (hN : numBytes n 4 = N) (h : Kc w0 B ⟨xid, prog, vers, proc, unix, st, m, uid, gid, G, args⟩ ao cap w) :
    Calls Try.prog 27 #[.int .i64 n] w fun e w' => e = .returned (.string ⟨N.toArray⟩) ∧ Kc w0 B ⟨xid, prog, vers, proc, unix, st, m, uid, gid, G, args⟩ ao cap w' := by
  subst hN
  exact (refUint_any n w).mono fun _ _ ⟨a, b⟩ => ⟨a, h.step b⟩
theorem refOpaque_c (s : ByteArray) (O : List UInt8) (hO : opaqueOf s = O) (hs : s.size ≤ 140737488351232) (h : Kc w0 B ⟨xid, prog, vers, proc, unix, st, m, uid, gid, G, args⟩ ao cap w) :
    Calls Try.prog 28 #[.string s] w fun e w' => e = .returned (.string ⟨O.toArray⟩) ∧ Kc w0 B ⟨xid, prog, vers, proc, unix, st, m, uid, gid, G, args⟩ ao cap w' := by
  subst hO
  exact (refOpaque_wide s w hs).mono fun _ _ ⟨a, b⟩ => ⟨a, h.step b⟩
end
theorem opq_empty0 : opaqueOf ⟨#[]⟩ = numBytes 0 4 := by decide +kernel
def Cl.g0 (c : Cl) : Bool := isU c.xid && (isU c.prog && (isU c.vers && (isU c.proc && (isU c.stamp && (isU c.uid && (isU c.gid && (decide (c.mach.size ≤ 255) && decide (c.groups.length ≤ 16))))))))
theorem ok_g (c : Cl) : c.ok = ((c.g0 && areU (c.groups.take 17)) && (c.unix || c.zero)) := by
  obtain ⟨xid, prog, vers, proc, unix, st, m, uid, gid, G, args⟩ := c
  unfold Cl.ok Cl.g0
  dsimp only
  by_cases hG : G.length ≤ 16
  · rw [List.take_of_length_le (by omega)]
    cases unix
    · cases hz : Cl.zero ⟨xid, prog, vers, proc, false, st, m, uid, gid, G, args⟩
      · simp
      · unfold Cl.zero at hz
        simp only [Bool.and_eq_true, beq_iff_eq, List.isEmpty_iff] at hz
        obtain ⟨⟨⟨⟨h1, h2⟩, h3⟩, h4⟩, h5⟩ := hz
        have hm := bytes_nil0 (b := m) (by rw [h2]; rfl)
        subst h1 h3 h4 h5 hm
        have i0 : isU 0 = true := by decide
        have a0 : areU [] = true := rfl
        have d0 : decide ((⟨#[]⟩ : ByteArray).size ≤ 255) = true := by decide
        simp only [areU, List.all_cons, List.all_nil, Bool.and_true, i0, d0, hG]
        cases isU xid <;> cases isU prog <;> cases isU vers <;> cases isU proc <;> rfl
    · simp only [if_true, areU, List.all_cons, List.all_nil, Bool.and_true, Bool.true_or]
      cases isU xid <;> cases isU prog <;> cases isU vers <;> cases isU proc <;> cases isU st <;> cases isU uid <;> cases isU gid <;> cases decide (m.size ≤ 255) <;> cases decide (G.length ≤ 16) <;> rfl
  · have hd : decide (G.length ≤ 16) = false := decide_eq_false hG
    have hz : Cl.zero ⟨xid, prog, vers, proc, unix, st, m, uid, gid, G, args⟩ = false := by
      unfold Cl.zero
      have : G.isEmpty = false := by cases G with | nil => simp at hG | cons x r => rfl
      simp [this]
    cases unix
    · simp [hz]
    · simp [hd]
set_option maxRecDepth 100000 in
set_option maxHeartbeats 8000000 in
theorem refPutCall_any (c : Cl) (ao : Option Addr) (cap : Nat) (w : World) (hI : IntsAt w ao c.groups) (hcap : c.groups.length ≤ cap) (hGl : c.groups.length ≤ 140737488355328) (hm0 : c.mach.size ≤ 140737488351232) (ha0 : c.args.size ≤ 140737488351232) (S : ByteArray) (E : Int) (hS : (if c.ok then restS c.head c.args else ⟨#[]⟩) = S) (hE : (if c.ok then restC c.head c.args else 4) = E) :
    Calls Try.prog 12 #[.agg (c.cells (.slice ao c.groups.length cap))] w fun e w' => e = .returned (.tuple #[.string S, .int .i64 E]) ∧ Below w.heap.size w w' := by
  have hK : Kc w w.heap.size c ao cap (w.alloc (.cells (c.cells (.slice ao c.groups.length cap)) 32)) := ⟨heap_alloc_new w _, hI.alloc _, (Below.refl _ w).alloc (Nat.le_refl _) _⟩
  have hok := ok_g c
  have hhd : c.head = putU [c.xid, 0, 2, c.prog, c.vers, c.proc] ++ (if c.unix then numBytes 1 4 ++ opaqueOf ⟨c.cred.toArray⟩ else numBytes 0 4 ++ opaqueOf ⟨#[]⟩) ++ numBytes 0 4 ++ opaqueOf ⟨#[]⟩ := rfl
  have hcr : c.cred = numBytes c.stamp 4 ++ opaqueOf c.mach ++ putU [c.uid, c.gid, (c.groups.length : Int)] ++ putU c.groups := rfl
  have hcl := cred_length c
  obtain ⟨b0, hb0⟩ : ∃ b, c.g0 = b := ⟨_, rfl⟩
  obtain ⟨z, hz⟩ : ∃ b, c.zero = b := ⟨_, rfl⟩
  rw [hb0, hz] at hok
  generalize c.head = hd at *
  generalize c.cred = cr at *
  generalize c.ok = ok at *
  obtain ⟨xid, prog, vers, proc, unix, st, m, uid, gid, G, args⟩ := c
  unfold Cl.g0 at hb0
  unfold Cl.zero at hz
  dsimp only at hI hcap hGl hm0 ha0 hS hE hok hhd hcr hcl hb0 hz ⊢
  obtain ⟨u0, eu0⟩ : ∃ b, isU xid = b := ⟨_, rfl⟩
  rw [eu0] at hb0
  have HU0 := Lib.hid eu0
  clear eu0
  obtain ⟨u1, eu1⟩ : ∃ b, isU prog = b := ⟨_, rfl⟩
  rw [eu1] at hb0
  have HU1 := Lib.hid eu1
  clear eu1
  obtain ⟨u2, eu2⟩ : ∃ b, isU vers = b := ⟨_, rfl⟩
  rw [eu2] at hb0
  have HU2 := Lib.hid eu2
  clear eu2
  obtain ⟨u3, eu3⟩ : ∃ b, isU proc = b := ⟨_, rfl⟩
  rw [eu3] at hb0
  have HU3 := Lib.hid eu3
  clear eu3
  obtain ⟨u4, eu4⟩ : ∃ b, isU st = b := ⟨_, rfl⟩
  rw [eu4] at hb0
  have HU4 := Lib.hid eu4
  clear eu4
  obtain ⟨u5, eu5⟩ : ∃ b, isU uid = b := ⟨_, rfl⟩
  rw [eu5] at hb0
  have HU5 := Lib.hid eu5
  clear eu5
  obtain ⟨u6, eu6⟩ : ∃ b, isU gid = b := ⟨_, rfl⟩
  rw [eu6] at hb0
  have HU6 := Lib.hid eu6
  clear eu6
  have HS := Lib.hid hS
  have HE := Lib.hid hE
  have HOK := Lib.hid hok
  have HHD := Lib.hid hhd
  have HCR := Lib.hid hcr
  have HCL := Lib.hid hcl
  have HB0 := Lib.hid hb0
  have HZ := Lib.hid hz
  have HM0 := Lib.hid hm0
  have HA0 := Lib.hid ha0
  clear hS hE hok hhd hcr hcl hb0 hz hI
  go_enter Try.func12, Try.ntmps12
  go_upto_region 1 with (fail)
  generalize (w.alloc (.cells (Cl.cells ⟨xid, prog, vers, proc, unix, st, m, uid, gid, G, args⟩ (.slice ao G.length cap)) 32)) = W at *
  generalize hB : w.heap.size = B at *
  have HB := Lib.hid hB
  clear hB
  have HK := Lib.hid hK
  obtain ⟨x0, x1, x2, x3, x4, x5, x6, x7, x8, x9, x10⟩ := hK.all
  clear hK
  go_cut [4] (fun p wc => p = .bool b0 ∧ wc = W)
  case first => as_aux_lemma =>
    cases u0 with
    | false =>
      go_wp2_with (first
      | (go_at_call 26; with_reducible refine (word_any xid _ false HU0.out).mono ?_; rintro e w' ⟨rfl, rfl⟩))
      go_meet
      exact ⟨congrArg Value.bool (by rw [← HB0.out]; rfl), rfl⟩
    | true =>
      cases u1 with
      | false =>
        go_wp2_with (first
      | (go_at_call 26; with_reducible refine (word_any xid _ true HU0.out).mono ?_; rintro e w' ⟨rfl, rfl⟩)
      | (go_at_call 26; with_reducible refine (word_any prog _ false HU1.out).mono ?_; rintro e w' ⟨rfl, rfl⟩))
        go_meet
        exact ⟨congrArg Value.bool (by rw [← HB0.out]; rfl), rfl⟩
      | true =>
        cases u2 with
        | false =>
          go_wp2_with (first
      | (go_at_call 26; with_reducible refine (word_any xid _ true HU0.out).mono ?_; rintro e w' ⟨rfl, rfl⟩)
      | (go_at_call 26; with_reducible refine (word_any prog _ true HU1.out).mono ?_; rintro e w' ⟨rfl, rfl⟩)
      | (go_at_call 26; with_reducible refine (word_any vers _ false HU2.out).mono ?_; rintro e w' ⟨rfl, rfl⟩))
          go_meet
          exact ⟨congrArg Value.bool (by rw [← HB0.out]; rfl), rfl⟩
        | true =>
          cases u3 with
          | false =>
            go_wp2_with (first
      | (go_at_call 26; with_reducible refine (word_any xid _ true HU0.out).mono ?_; rintro e w' ⟨rfl, rfl⟩)
      | (go_at_call 26; with_reducible refine (word_any prog _ true HU1.out).mono ?_; rintro e w' ⟨rfl, rfl⟩)
      | (go_at_call 26; with_reducible refine (word_any vers _ true HU2.out).mono ?_; rintro e w' ⟨rfl, rfl⟩)
      | (go_at_call 26; with_reducible refine (word_any proc _ false HU3.out).mono ?_; rintro e w' ⟨rfl, rfl⟩))
            go_meet
            exact ⟨congrArg Value.bool (by rw [← HB0.out]; rfl), rfl⟩
          | true =>
            cases u4 with
            | false =>
              go_wp2_with (first
      | (go_at_call 26; with_reducible refine (word_any xid _ true HU0.out).mono ?_; rintro e w' ⟨rfl, rfl⟩)
      | (go_at_call 26; with_reducible refine (word_any prog _ true HU1.out).mono ?_; rintro e w' ⟨rfl, rfl⟩)
      | (go_at_call 26; with_reducible refine (word_any vers _ true HU2.out).mono ?_; rintro e w' ⟨rfl, rfl⟩)
      | (go_at_call 26; with_reducible refine (word_any proc _ true HU3.out).mono ?_; rintro e w' ⟨rfl, rfl⟩)
      | (go_at_call 26; with_reducible refine (word_any st _ false HU4.out).mono ?_; rintro e w' ⟨rfl, rfl⟩))
              go_meet
              exact ⟨congrArg Value.bool (by rw [← HB0.out]; rfl), rfl⟩
            | true =>
              cases u5 with
              | false =>
                go_wp2_with (first
      | (go_at_call 26; with_reducible refine (word_any xid _ true HU0.out).mono ?_; rintro e w' ⟨rfl, rfl⟩)
      | (go_at_call 26; with_reducible refine (word_any prog _ true HU1.out).mono ?_; rintro e w' ⟨rfl, rfl⟩)
      | (go_at_call 26; with_reducible refine (word_any vers _ true HU2.out).mono ?_; rintro e w' ⟨rfl, rfl⟩)
      | (go_at_call 26; with_reducible refine (word_any proc _ true HU3.out).mono ?_; rintro e w' ⟨rfl, rfl⟩)
      | (go_at_call 26; with_reducible refine (word_any st _ true HU4.out).mono ?_; rintro e w' ⟨rfl, rfl⟩)
      | (go_at_call 26; with_reducible refine (word_any uid _ false HU5.out).mono ?_; rintro e w' ⟨rfl, rfl⟩))
                go_meet
                exact ⟨congrArg Value.bool (by rw [← HB0.out]; rfl), rfl⟩
              | true =>
                cases u6 with
                | false =>
                  go_wp2_with (first
      | (go_at_call 26; with_reducible refine (word_any xid _ true HU0.out).mono ?_; rintro e w' ⟨rfl, rfl⟩)
      | (go_at_call 26; with_reducible refine (word_any prog _ true HU1.out).mono ?_; rintro e w' ⟨rfl, rfl⟩)
      | (go_at_call 26; with_reducible refine (word_any vers _ true HU2.out).mono ?_; rintro e w' ⟨rfl, rfl⟩)
      | (go_at_call 26; with_reducible refine (word_any proc _ true HU3.out).mono ?_; rintro e w' ⟨rfl, rfl⟩)
      | (go_at_call 26; with_reducible refine (word_any st _ true HU4.out).mono ?_; rintro e w' ⟨rfl, rfl⟩)
      | (go_at_call 26; with_reducible refine (word_any uid _ true HU5.out).mono ?_; rintro e w' ⟨rfl, rfl⟩)
      | (go_at_call 26; with_reducible refine (word_any gid _ false HU6.out).mono ?_; rintro e w' ⟨rfl, rfl⟩))
                  go_meet
                  exact ⟨congrArg Value.bool (by rw [← HB0.out]; rfl), rfl⟩
                | true =>
                  by_cases c8 : m.size ≤ 255
                  · have d8 : decide ((m.size : Int) ≤ 255) = true := decide_eq_true (by omega)
                    have e8 : decide (m.size ≤ 255) = true := decide_eq_true c8
                    by_cases c9 : G.length ≤ 16
                    · have d9 : decide ((G.length : Int) ≤ 16) = true := decide_eq_true (by omega)
                      have e9 : decide (G.length ≤ 16) = true := decide_eq_true c9
                      go_wp2_with (first
      | (go_at_call 26; with_reducible refine (word_any xid _ true HU0.out).mono ?_; rintro e w' ⟨rfl, rfl⟩)
      | (go_at_call 26; with_reducible refine (word_any prog _ true HU1.out).mono ?_; rintro e w' ⟨rfl, rfl⟩)
      | (go_at_call 26; with_reducible refine (word_any vers _ true HU2.out).mono ?_; rintro e w' ⟨rfl, rfl⟩)
      | (go_at_call 26; with_reducible refine (word_any proc _ true HU3.out).mono ?_; rintro e w' ⟨rfl, rfl⟩)
      | (go_at_call 26; with_reducible refine (word_any st _ true HU4.out).mono ?_; rintro e w' ⟨rfl, rfl⟩)
      | (go_at_call 26; with_reducible refine (word_any uid _ true HU5.out).mono ?_; rintro e w' ⟨rfl, rfl⟩)
      | (go_at_call 26; with_reducible refine (word_any gid _ true HU6.out).mono ?_; rintro e w' ⟨rfl, rfl⟩))
                      go_meet
                      exact ⟨congrArg Value.bool (by rw [← HB0.out, e8, e9]; rfl), rfl⟩
                    · have d9 : decide ((G.length : Int) ≤ 16) = false := decide_eq_false (by omega)
                      have e9 : decide (G.length ≤ 16) = false := decide_eq_false c9
                      go_wp2_with (first
      | (go_at_call 26; with_reducible refine (word_any xid _ true HU0.out).mono ?_; rintro e w' ⟨rfl, rfl⟩)
      | (go_at_call 26; with_reducible refine (word_any prog _ true HU1.out).mono ?_; rintro e w' ⟨rfl, rfl⟩)
      | (go_at_call 26; with_reducible refine (word_any vers _ true HU2.out).mono ?_; rintro e w' ⟨rfl, rfl⟩)
      | (go_at_call 26; with_reducible refine (word_any proc _ true HU3.out).mono ?_; rintro e w' ⟨rfl, rfl⟩)
      | (go_at_call 26; with_reducible refine (word_any st _ true HU4.out).mono ?_; rintro e w' ⟨rfl, rfl⟩)
      | (go_at_call 26; with_reducible refine (word_any uid _ true HU5.out).mono ?_; rintro e w' ⟨rfl, rfl⟩)
      | (go_at_call 26; with_reducible refine (word_any gid _ true HU6.out).mono ?_; rintro e w' ⟨rfl, rfl⟩))
                      go_meet
                      exact ⟨congrArg Value.bool (by rw [← HB0.out, e8, e9]; rfl), rfl⟩
                  · have d8 : decide ((m.size : Int) ≤ 255) = false := decide_eq_false (by omega)
                    have e8 : decide (m.size ≤ 255) = false := decide_eq_false c8
                    go_wp2_with (first
      | (go_at_call 26; with_reducible refine (word_any xid _ true HU0.out).mono ?_; rintro e w' ⟨rfl, rfl⟩)
      | (go_at_call 26; with_reducible refine (word_any prog _ true HU1.out).mono ?_; rintro e w' ⟨rfl, rfl⟩)
      | (go_at_call 26; with_reducible refine (word_any vers _ true HU2.out).mono ?_; rintro e w' ⟨rfl, rfl⟩)
      | (go_at_call 26; with_reducible refine (word_any proc _ true HU3.out).mono ?_; rintro e w' ⟨rfl, rfl⟩)
      | (go_at_call 26; with_reducible refine (word_any st _ true HU4.out).mono ?_; rintro e w' ⟨rfl, rfl⟩)
      | (go_at_call 26; with_reducible refine (word_any uid _ true HU5.out).mono ?_; rintro e w' ⟨rfl, rfl⟩)
      | (go_at_call 26; with_reducible refine (word_any gid _ true HU6.out).mono ?_; rintro e w' ⟨rfl, rfl⟩))
                    go_meet
                    exact ⟨congrArg Value.bool (by rw [← HB0.out, e8]; rfl), rfl⟩
  case rest =>
    obtain ⟨rfl, rfl⟩ := hcut
    go_upto_region 2 with (fail)
    go_cut [5] (fun p wd => p = .bool z ∧ wd = wc)
    case first => as_aux_lemma =>
      cases h1 : (st == 0) with
      | false => (go_wp2; go_meet; exact ⟨congrArg Value.bool (by rw [← HZ.out, h1]; rfl), rfl⟩)
      | true =>
        cases h2 : m.toList.isEmpty with
        | false =>
          have hne : m.toList ≠ [] := by intro h; rw [h] at h2; cases h2
          have hbq : (m.toList == []) = false := by simpa using hne
          clear hne
          go_wp2
          go_meet
          exact ⟨congrArg Value.bool (by rw [← HZ.out, h1, h2]; rfl), rfl⟩
        | true =>
          have hme := bytes_nil0 h2
          subst hme
          cases h3 : (uid == 0) with
          | false => (go_wp2; go_meet; exact ⟨congrArg Value.bool (by rw [← HZ.out, h1, h2, h3]; rfl), rfl⟩)
          | true =>
            cases h4 : (gid == 0) with
            | false => (go_wp2; go_meet; exact ⟨congrArg Value.bool (by rw [← HZ.out, h1, h2, h3, h4]; rfl), rfl⟩)
            | true =>
              have h5 := len_empty G
              go_wp2
              go_meet
              exact ⟨congrArg Value.bool (by rw [← HZ.out, h1, h2, h3, h4]; simp), rfl⟩
    case rest =>
      obtain ⟨rfl, rfl⟩ := hcut
      obtain ⟨Ns, nNs⟩ : ∃ N, numBytes st 4 = N := ⟨_, rfl⟩
      have lNs : Ns.length = 4 := by rw [← nNs, numBytes_length]
      have HNs := Lib.hid nNs
      clear nNs
      obtain ⟨Nu, nNu⟩ : ∃ N, numBytes uid 4 = N := ⟨_, rfl⟩
      have lNu : Nu.length = 4 := by rw [← nNu, numBytes_length]
      have HNu := Lib.hid nNu
      clear nNu
      obtain ⟨Ng, nNg⟩ : ∃ N, numBytes gid 4 = N := ⟨_, rfl⟩
      have lNg : Ng.length = 4 := by rw [← nNg, numBytes_length]
      have HNg := Lib.hid nNg
      clear nNg
      obtain ⟨Nn, nNn⟩ : ∃ N, numBytes (G.length : Int) 4 = N := ⟨_, rfl⟩
      have lNn : Nn.length = 4 := by rw [← nNn, numBytes_length]
      have HNn := Lib.hid nNn
      clear nNn
      obtain ⟨Nx, nNx⟩ : ∃ N, numBytes xid 4 = N := ⟨_, rfl⟩
      have lNx : Nx.length = 4 := by rw [← nNx, numBytes_length]
      have HNx := Lib.hid nNx
      clear nNx
      obtain ⟨Np, nNp⟩ : ∃ N, numBytes prog 4 = N := ⟨_, rfl⟩
      have lNp : Np.length = 4 := by rw [← nNp, numBytes_length]
      have HNp := Lib.hid nNp
      clear nNp
      obtain ⟨Nv, nNv⟩ : ∃ N, numBytes vers 4 = N := ⟨_, rfl⟩
      have lNv : Nv.length = 4 := by rw [← nNv, numBytes_length]
      have HNv := Lib.hid nNv
      clear nNv
      obtain ⟨Nc, nNc⟩ : ∃ N, numBytes proc 4 = N := ⟨_, rfl⟩
      have lNc : Nc.length = 4 := by rw [← nNc, numBytes_length]
      have HNc := Lib.hid nNc
      clear nNc
      obtain ⟨N0, nN0⟩ : ∃ N, numBytes 0 4 = N := ⟨_, rfl⟩
      have lN0 : N0.length = 4 := by rw [← nN0, numBytes_length]
      have HN0 := Lib.hid nN0
      clear nN0
      obtain ⟨N1, nN1⟩ : ∃ N, numBytes 1 4 = N := ⟨_, rfl⟩
      have lN1 : N1.length = 4 := by rw [← nN1, numBytes_length]
      have HN1 := Lib.hid nN1
      clear nN1
      obtain ⟨N2, nN2⟩ : ∃ N, numBytes 2 4 = N := ⟨_, rfl⟩
      have lN2 : N2.length = 4 := by rw [← nN2, numBytes_length]
      have HN2 := Lib.hid nN2
      clear nN2
      obtain ⟨Om, nOm⟩ : ∃ O, opaqueOf m = O := ⟨_, rfl⟩
      have lOm : Om.length ≤ 140737488351243 := by rw [← nOm, opaqueOf_length]; have := pad_lt m.size; omega
      have HOm := Lib.hid nOm
      clear nOm
      obtain ⟨c0, hc0⟩ : ∃ c0, (Ns ++ Om ++ Nu ++ Ng ++ Nn) = c0 := ⟨_, rfl⟩
      have lc0 : c0.length ≤ 140737488351300 := by rw [← hc0]; simp only [List.length_append]; omega
      have HC0 := Lib.hid hc0
      clear hc0
      go_upto_region 3 with (fail)
      go_cut [6] (fun p wd => p = .string ⟨c0.toArray⟩ ∧ Kc w B ⟨xid, prog, vers, proc, unix, st, m, uid, gid, G, args⟩ ao cap wd)
      case first => as_aux_lemma =>
        have hk := HK.out
        have hkd := hk.drew
        clear x0 x1 x2 x3 x4 x10
        have s0 : (9223372036854775807 < 4 + Om.length) = False := eq_false (by omega)
        have s1 : (9223372036854775807 < 4 + Om.length + 4) = False := eq_false (by omega)
        have s2 : (9223372036854775807 < 4 + Om.length + 4 + 4) = False := eq_false (by omega)
        have s3 : (9223372036854775807 < 4 + Om.length + 8) = False := eq_false (by omega)
        have s4 : (9223372036854775807 < 4 + Om.length + 4 + 4 + 4) = False := eq_false (by omega)
        have s5 : (9223372036854775807 < 4 + Om.length + 12) = False := eq_false (by omega)
        have s6 : (9223372036854775807 < 4 + Om.length + 8 + 4) = False := eq_false (by omega)
        have r0 : (9223372036854775803 < Om.length) = False := eq_false (by omega)
        have r1 : (9223372036854775799 < Om.length) = False := eq_false (by omega)
        have r2 : (9223372036854775795 < Om.length) = False := eq_false (by omega)
        have r3 : (9223372036854775791 < Om.length) = False := eq_false (by omega)
        go_region_held3 (fun w' => w'.cell? ⟨B, 5, none⟩ = some (.int .i64 st) ∧ w'.cell? ⟨B, 6, none⟩ = some (.string m) ∧ w'.cell? ⟨B, 7, none⟩ = some (.int .i64 uid) ∧ w'.cell? ⟨B, 8, none⟩ = some (.int .i64 gid) ∧ w'.cell? ⟨B, 9, none⟩ = some (.slice ao G.length cap)) (exact (fun h : Kc w B ⟨xid, prog, vers, proc, unix, st, m, uid, gid, G, args⟩ ao cap _ => ⟨h.all.2.2.2.2.2.1, h.all.2.2.2.2.2.2.1, h.all.2.2.2.2.2.2.2.1, h.all.2.2.2.2.2.2.2.2.1, h.all.2.2.2.2.2.2.2.2.2.1⟩) (by assumption)) (first | ((go_at_call 27; first | (with_reducible refine (refUint_c st Ns HNs.out (by assumption)).mono ?_) | (with_reducible refine (refUint_c uid Nu HNu.out (by assumption)).mono ?_) | (with_reducible refine (refUint_c gid Ng HNg.out (by assumption)).mono ?_) | (with_reducible refine (refUint_c (G.length : Int) Nn HNn.out (by assumption)).mono ?_)); (rintro e w' ⟨rfl, hk⟩); (have hkd := hk.drew)) | ((go_at_call 28; with_reducible refine (refOpaque_c m Om HOm.out hm0 (by assumption)).mono ?_); (rintro e w' ⟨rfl, hk⟩); (have hkd := hk.drew)))
        all_goals
          go_wp2
          go_meet
          exact ⟨congrArg Value.string (by rw [← HC0.out]; simp only [cat_body, List.append_assoc]), by assumption⟩
      case rest =>
        obtain ⟨rfl, hk3⟩ := hcut
        clear x0 x1 x2 x3 x4 x5 x6 x7 x8 x9 x10 HK
        go_wp2_with fail
        go_loopw [4, 6, 7] (fun b s i wr => ∃ k : Nat, k ≤ G.length ∧ k ≤ 17 ∧ i = .int .i64 k ∧ b = .bool (b0 && areU (G.take k)) ∧ s = .string ⟨(c0 ++ putU (G.take k)).toArray⟩ ∧ Kc w B ⟨xid, prog, vers, proc, unix, st, m, uid, gid, G, args⟩ ao cap wr) (fun b s i _ => 17 - (intOf i).toNat)
        case atStart => exact ⟨0, by omega, by omega, rfl, by simp [areU], by simp [putU], hk3⟩
        case round =>
          obtain ⟨k, hk1, hk2, rfl, rfl, rfl, hk⟩ := hrel
          clear hk3
          have HK := Lib.hid hk
          obtain ⟨x0, x1, x2, x3, x4, x5, x6, x7, x8, x9, x10⟩ := hk.all
          have lpu : (putU (G.take k)).length = 4 * k := by rw [putU_length, List.length_take]; omega
          by_cases hlt : k < G.length ∧ k < 17
          · obtain ⟨hlt1, hlt2⟩ := hlt
            obtain ⟨g, off, eao, fx⟩ := ints_at hk.ints k hlt1
            have hgd : G.take (k + 1) = G.take k ++ [G.getD k 0] := by rw [List.take_succ_eq_append_getElem hlt1]; simp [List.getD_eq_getElem?_getD, List.getElem?_eq_getElem hlt1]
            generalize G.getD k 0 = x at fx hgd
            obtain ⟨ux, eux⟩ : ∃ b, isU x = b := ⟨_, rfl⟩
            have hau : areU (G.take (k + 1)) = (areU (G.take k) && ux) := by rw [hgd, ← eux]; simp [areU]
            have hpu : putU (G.take (k + 1)) = putU (G.take k) ++ numBytes x 4 := by rw [hgd]; simp [putU]
            obtain ⟨Nk, nNk⟩ : ∃ N, numBytes x 4 = N := ⟨_, rfl⟩
            have lNk : Nk.length = 4 := by rw [← nNk, numBytes_length]
            rw [nNk] at hpu
            have HNk := Lib.hid nNk
            have HUX := Lib.hid eux
            have HAU := Lib.hid hau
            have HPU := Lib.hid hpu
            clear nNk eux hau hpu hgd
            obtain ⟨bk, ebk⟩ : ∃ b, (b0 && areU (G.take k)) = b := ⟨_, rfl⟩
            obtain ⟨ck, eck⟩ : ∃ c, c0 ++ putU (G.take k) = c := ⟨_, rfl⟩
            have lck : ck.length ≤ 140737488351500 := by rw [← eck, List.length_append]; omega
            rw [ebk, eck]
            have HBK := Lib.hid ebk
            have HCK := Lib.hid eck
            clear ebk eck lpu
            have d1 : decide ((k : Int) < (G.length : Int)) = true := decide_eq_true (by omega)
            have d2 : decide ((k : Int) < 17) = true := decide_eq_true (by omega)
            subst eao
            cases bk with
            | false =>
              go_wp2_with (go_at_call 27; refine (refUint_c x Nk HNk.out HK.out).mono ?_; rintro e w' ⟨rfl, hk'⟩)
              refine ⟨⟨k + 1, by omega, by omega, by go_num, ?_, ?_, by assumption⟩, by simp [intOf]; omega⟩
              · rw [HAU.out, ← Bool.and_assoc, HBK.out]; rfl
              · rw [HPU.out, ← List.append_assoc, HCK.out]; exact congrArg Value.string (by simp only [cat_body])
            | true =>
              go_wp2_with (first
                | (go_at_call 26; refine (word_any x _ ux HUX.out).mono ?_; rintro e w' ⟨rfl, rfl⟩)
                | (go_at_call 27; refine (refUint_c x Nk HNk.out HK.out).mono ?_; rintro e w' ⟨rfl, hk'⟩))
              refine ⟨⟨k + 1, by omega, by omega, by go_num, ?_, ?_, by assumption⟩, by simp [intOf]; omega⟩
              · rw [HAU.out, ← Bool.and_assoc, HBK.out]; rfl
              · rw [HPU.out, ← List.append_assoc, HCK.out]; exact congrArg Value.string (by simp only [cat_body])
          · have htk : G.take k = G.take 17 := by
              by_cases h17 : k = 17
              · rw [h17]
              · rw [List.take_of_length_le (by omega), List.take_of_length_le (by omega)]
            rw [htk] at lpu ⊢
            obtain ⟨b4, hb4⟩ : ∃ b, (b0 && areU (G.take 17)) = b := ⟨_, rfl⟩
            have hok := HOK.out
            rw [hb4] at hok ⊢
            have HB4 := Lib.hid hb4
            have HOK2 := Lib.hid hok
            clear hok
            obtain ⟨c4, hc4⟩ : ∃ c, c0 ++ putU (G.take 17) = c := ⟨_, rfl⟩
            have lc4 : c4.length ≤ 140737488351500 := by rw [← hc4, List.length_append]; omega
            rw [hc4]
            have HC4 := Lib.hid hc4
            clear hb4 hc4 lpu htk
            have hl2 : k < G.length → ¬ k < 17 := fun a b => hlt ⟨a, b⟩
            have HL2 := Lib.hid hl2
            clear hl2 hlt
            go_upto_region 5 with (fail)
            go_cut [106] (fun s wd => s = .bool false ∧ wr = wd)
            case first =>
              by_cases hkl : k < G.length
              · have d1 : decide ((k : Int) < (G.length : Int)) = true := decide_eq_true (by omega)
                have d2 : decide ((k : Int) < 17) = false := decide_eq_false (by have := HL2.out hkl; omega)
                go_wp2
                go_meet
                exact ⟨rfl, rfl⟩
              · have d1 : decide ((k : Int) < (G.length : Int)) = false := decide_eq_false (by omega)
                go_wp2
                go_meet
                exact ⟨rfl, rfl⟩
            case rest =>
              obtain ⟨rfl, rfl⟩ := hcut
              go_upto_region 9 with (fail)
              go_cut [136] (fun s wd => s = .bool (!ok) ∧ wr = wd)
              case first =>
                have hok := HOK2.out
                clear HS HE HOK2 HOK
                subst hok
                cases b4 with
                | false => (go_wp2; go_meet; exact ⟨rfl, rfl⟩)
                | true =>
                  cases unix with
                  | true => (go_wp2; go_meet; exact ⟨rfl, rfl⟩)
                  | false =>
                    cases z with
                    | true => (go_wp2; go_meet; exact ⟨rfl, rfl⟩)
                    | false => (go_wp2; go_meet; exact ⟨rfl, rfl⟩)
              case rest =>
                obtain ⟨rfl, rfl⟩ := hcut
                cases ok with
                | false =>
                  have hS := HS.out
                  have hE := HE.out
                  simp only [Bool.false_eq_true, if_false] at hS hE
                  subst hS hE
                  go_wp2
                  go_ret2
                  exact ⟨rfl, HK.out.low⟩
                | true =>
                  have hb4 : b4 = true := by have hok := HOK2.out; cases b4 with | true => rfl | false => cases hok
                  subst hb4
                  have hS := HS.out
                  have hE := HE.out
                  simp only [if_true] at hS hE
                  have hb00 : b0 = true := by have h := HB4.out; cases b0 with | true => rfl | false => cases h
                  have hsm : m.size ≤ 255 ∧ G.length ≤ 16 := by have h := HB0.out; rw [hb00] at h; simp only [Bool.and_eq_true, decide_eq_true_eq] at h; exact h.2.2.2.2.2.2.2
                  obtain ⟨hm255, hG16⟩ := hsm
                  have hcr : c4 = cr := by rw [HCR.out, ← HC4.out, ← HC0.out, List.take_of_length_le (by omega), ← HNs.out, ← HOm.out, ← HNu.out, ← HNg.out, ← HNn.out]; simp [putU]
                  have lcr := HCL.out hm255 hG16
                  subst hcr
                  have hcs : (⟨c4.toArray⟩ : ByteArray).size ≤ 340 := by show c4.toArray.size ≤ _; simpa using lcr
                  obtain ⟨Oc, nOc⟩ : ∃ O, opaqueOf ⟨c4.toArray⟩ = O := ⟨_, rfl⟩
                  have lOc : Oc.length ≤ 400 := by rw [← nOc, opaqueOf_length]; have := pad_lt (⟨c4.toArray⟩ : ByteArray).size; omega
                  have hhd := HHD.out
                  rw [nOc, HN1.out, HN0.out, opq_empty0, HN0.out] at hhd
                  simp only [putU, List.flatMap_cons, List.flatMap_nil, List.append_nil, HNx.out, HN0.out, HN2.out, HNp.out, HNv.out, HNc.out] at hhd
                  obtain ⟨h6, nh6⟩ : ∃ l, (Nx ++ N0 ++ N2 ++ Np ++ Nv ++ Nc) = l := ⟨_, rfl⟩
                  have lh6 : h6.length = 24 := by rw [← nh6]; simp only [List.length_append]; omega
                  obtain ⟨h7, nh7⟩ : ∃ l, h6 ++ (if unix then N1 ++ Oc else N0 ++ N0) = l := ⟨_, rfl⟩
                  have lh7 : h7.length ≤ 432 := by rw [← nh7]; cases unix <;> simp only [List.length_append, if_true, Bool.false_eq_true, if_false] <;> omega
                  have hhd7 : hd = h7 ++ (N0 ++ N0) := by rw [hhd, ← nh7, ← nh6]; simp only [List.append_assoc]
                  have lhd : hd.length = h7.length + 8 := by rw [hhd7]; simp only [List.length_append]; omega
                  obtain ⟨T, nT⟩ : ∃ T : ByteArray, ⟨(hd ++ args.data.toList).toArray⟩ = T := ⟨_, rfl⟩
                  have lT : T.size = hd.length + args.size := by rw [← nT]; show (hd ++ args.data.toList).toArray.size = _; rw [List.size_toArray, List.length_append, Array.length_toList]; rfl
                  have H6 := Lib.hid nh6
                  have H7 := Lib.hid nh7
                  have HHD7 := Lib.hid hhd7
                  have HT := Lib.hid nT
                  have HLH := Lib.hid lhd
                  have HOc := Lib.hid nOc
                  have HS2 := Lib.hid hS
                  have HE2 := Lib.hid hE
                  clear hhd nOc hS hE HS HE HHD HCR HCL HC0 lOm nh6 nh7 hhd7 nT lhd
                  go_upto_region 11 with (fail)
                  go_cut [8] (fun p wd => p = .string ⟨h6.toArray⟩ ∧ Kc w B ⟨xid, prog, vers, proc, unix, st, m, uid, gid, G, args⟩ ao cap wd)
                  case first => as_aux_lemma =>
                    have hkd := hk.drew
                    clear x4 x5 x6 x7 x8 x9 x10
                    go_region_held3 (fun w' => w'.cell? ⟨B, 0, none⟩ = some (.int .i64 xid) ∧ w'.cell? ⟨B, 1, none⟩ = some (.int .i64 prog) ∧ w'.cell? ⟨B, 2, none⟩ = some (.int .i64 vers) ∧ w'.cell? ⟨B, 3, none⟩ = some (.int .i64 proc)) (exact (fun h : Kc w B ⟨xid, prog, vers, proc, unix, st, m, uid, gid, G, args⟩ ao cap _ => ⟨h.all.1, h.all.2.1, h.all.2.2.1, h.all.2.2.2.1⟩) (by assumption)) (first | ((go_at_call 27; first | (with_reducible refine (refUint_c xid Nx HNx.out (by assumption)).mono ?_) | (with_reducible refine (refUint_c prog Np HNp.out (by assumption)).mono ?_) | (with_reducible refine (refUint_c vers Nv HNv.out (by assumption)).mono ?_) | (with_reducible refine (refUint_c proc Nc HNc.out (by assumption)).mono ?_) | (with_reducible refine (refUint_c 0 N0 HN0.out (by assumption)).mono ?_) | (with_reducible refine (refUint_c 2 N2 HN2.out (by assumption)).mono ?_)); (rintro e w' ⟨rfl, hk⟩); (have hkd := hk.drew)))
                    all_goals
                      go_wp2
                      go_meet
                      exact ⟨congrArg Value.string (by rw [← H6.out]; simp only [cat_body, List.append_assoc]), by assumption⟩
                  case rest =>
                    obtain ⟨rfl, hk6⟩ := hcut
                    clear x0 x1 x2 x3 x4 x5 x6 x7 x8 x9 x10 hk HK
                    have y4 := hk6.all.2.2.2.2.1
                    go_upto_if 157 with (fail)
                    go_cut [8] (fun p we => p = .string ⟨h7.toArray⟩ ∧ Kc w B ⟨xid, prog, vers, proc, unix, st, m, uid, gid, G, args⟩ ao cap we)
                    case first => as_aux_lemma =>
                      have h7 := H7.out
                      cases unix with
                      | true =>
                        rw [if_pos rfl] at h7
                        subst h7
                        have hk := hk6
                        have hkd := hk.drew
                        go_wp2_with (first | ((go_at_call 27; first | (with_reducible refine (refUint_c 0 N0 HN0.out (by assumption)).mono ?_) | (with_reducible refine (refUint_c 1 N1 HN1.out (by assumption)).mono ?_)); (rintro e w' ⟨rfl, hk⟩); (have hkd := hk.drew)) | ((go_at_call 28; with_reducible refine (refOpaque_c ⟨c4.toArray⟩ Oc HOc.out (by omega) (by assumption)).mono ?_); (rintro e w' ⟨rfl, hk⟩); (have hkd := hk.drew)))
                        go_meet
                        exact ⟨congrArg Value.string (by simp only [cat_body]), by assumption⟩
                      | false =>
                        rw [if_neg (by decide)] at h7
                        subst h7
                        have hk := hk6
                        have hkd := hk.drew
                        go_wp2_with (first | ((go_at_call 27; first | (with_reducible refine (refUint_c 0 N0 HN0.out (by assumption)).mono ?_) | (with_reducible refine (refUint_c 1 N1 HN1.out (by assumption)).mono ?_)); (rintro e w' ⟨rfl, hk⟩); (have hkd := hk.drew)) | ((go_at_call 28; with_reducible refine (refOpaque_c ⟨c4.toArray⟩ Oc HOc.out (by omega) (by assumption)).mono ?_); (rintro e w' ⟨rfl, hk⟩); (have hkd := hk.drew)))
                        go_meet
                        exact ⟨congrArg Value.string (by simp only [cat_body]), by assumption⟩
                    case rest =>
                      obtain ⟨rfl, hk7⟩ := hcut
                      clear y4
                      go_upto_region 15 with (fail)
                      go_cut [8] (fun p wf => p = .string T ∧ Kc w B ⟨xid, prog, vers, proc, unix, st, m, uid, gid, G, args⟩ ao cap wf)
                      case first => as_aux_lemma =>
                        have hk := hk7
                        have hkd := hk.drew
                        have t10 := hk.all.2.2.2.2.2.2.2.2.2.2
                        have s0 : (9223372036854775807 < 8 + args.size) = False := eq_false (by omega)
                        have s1 : (9223372036854775807 < 4 + 4 + args.size) = False := eq_false (by omega)
                        have s2 : (9223372036854775807 < h7.length + (8 + args.size)) = False := eq_false (by omega)
                        have s3 : (9223372036854775807 < h7.length + (4 + 4 + args.size)) = False := eq_false (by omega)
                        have s4 : (9223372036854775799 < args.size) = False := eq_false (by omega)
                        go_region_held3 (fun w' => w'.cell? ⟨B, 10, none⟩ = some (.string args)) (exact (fun h : Kc w B ⟨xid, prog, vers, proc, unix, st, m, uid, gid, G, args⟩ ao cap _ => h.all.2.2.2.2.2.2.2.2.2.2) (by assumption)) (first | ((go_at_call 27; first | (with_reducible refine (refUint_c 0 N0 HN0.out (by assumption)).mono ?_)); (rintro e w' ⟨rfl, hk⟩); (have hkd := hk.drew)))
                        all_goals
                          go_wp2
                          go_meet
                          exact ⟨congrArg Value.string (by rw [← HT.out, HHD7.out]; simp only [cat_body, List.append_assoc]), by assumption⟩
                      case rest => as_aux_lemma =>
                        obtain ⟨rfl, hk8⟩ := hcut
                        have v10 := hk8.all.2.2.2.2.2.2.2.2.2.2
                        by_cases hr : args.size % 4 ≠ 0 ∨ 65536 < hd.length + args.size
                        · have hS := HS2.out
                          have hE := HE2.out
                          unfold restS at hS
                          unfold restC at hE
                          rw [if_pos hr] at hS hE
                          subst hS hE
                          by_cases hr4 : args.size % 4 = 0
                          · have hm : ((args.size : Int) % 4 != 0) = false := by simp; omega
                            have hg : decide (65536 < (T.size : Int)) = true := decide_eq_true (by omega)
                            go_wp2
                            go_ret2
                            exact ⟨rfl, hk8.low⟩
                          · have hm : ((args.size : Int) % 4 != 0) = true := by simp; omega
                            go_wp2
                            go_ret2
                            exact ⟨rfl, hk8.low⟩
                        · have hS := HS2.out
                          have hE := HE2.out
                          unfold restS at hS
                          unfold restC at hE
                          rw [if_neg hr] at hS hE
                          rw [HT.out] at hS
                          subst hS hE
                          have hm : ((args.size : Int) % 4 != 0) = false := by simp; omega
                          have hg : decide (65536 < (T.size : Int)) = false := decide_eq_false (by omega)
                          go_wp2
                          go_ret2
                          exact ⟨rfl, hk8.low⟩
end Go.Proofs.Ytkbjimbnbocfpaa
