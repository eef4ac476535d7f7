/-
  speaks, and TimerDeaf's walk: it answers true, and makes new blocks alone. Its conditions: the words fit into 64 bits, and there are no more than a slice holds.
-/
import Derived.Test.YtfelndloobnipaaSm
namespace Go.Proofs.Ytfelndloobnipaa
open Go.RowKit Ieee

def WrdAt (w : World) (ao : Option Addr) (L : List Nat) : Prop := ∀ i (_ : i < L.length), ∃ g off, ao = some ⟨g, off, none⟩ ∧ g < w.heap.size ∧ w.cell? ⟨g, off + i, none⟩ = some (.int .u64 (L[i] : Int)) ∧ L[i] < 18446744073709551616
theorem WrdAt.below {w w' : World} {ao : Option Addr} {L : List Nat} (h : WrdAt w ao L) (hb : Below w.heap.size w w') : WrdAt w' ao L := by
  intro i hi
  obtain ⟨g, off, e1, e2, e3, e4⟩ := h i hi
  have := hb.size
  exact ⟨g, off, e1, by omega, (hb.cell (p := ⟨g, off + i, none⟩) e2).trans e3, e4⟩
theorem TAt.drew {w : World} {p : Nat} {s : St} (h : TAt w p s) (n : Nat) : TAt (w.drewN n) p s := h
theorem TAt.only {w w' : World} {p q : Nat} {s : St} (h : TAt w p s) (ho : Only q w w') (hq : p ≠ q) : TAt w' p s := (ho.block p hq).trans h
theorem new_at (w : World) : TAt (w.alloc (.cells #[.float .f64 NAN, .float .f64 NAN] 43)) w.heap.size none := by
  unfold TAt cells43
  exact heap_alloc_new w _

theorem say32 : wt (min (up (tms 3) (bs none)) INF) = 32 := by decide +kernel
theorem say6 : wt (min (up (tms 0) (bs (smp none 4611686018427387904))) INF) = 6 := by decide +kernel
/-- A block, what a timer has learned in it, and what it began with. -/
structure One (w0 w : World) (p : Nat) (s : St) : Prop where
  at_ : TAt w p s
  ok : Okay s
  low : w0.heap.size ≤ p
  below : Below w0.heap.size w0 w
theorem One.drew {w0 w : World} {p : Nat} {s : St} (h : One w0 w p s) (n : Nat) : One w0 (w.drewN n) p s := ⟨h.at_, h.ok, h.low, below_drewN h.below n⟩
theorem One.step {w0 w w' : World} {p : Nat} {s : St} (h : One w0 w p s) (x : Nat) (ht : TAt w' p (smp s x)) (ho : Only p w w') : One w0 w' p (smp s x) := ⟨ht, smp_ok s x h.ok, h.low, h.below.trans (ho.below h.low)⟩
theorem One.start (w0 w : World) (hb : Below w0.heap.size w0 w) : One w0 (w.alloc (.cells #[.float .f64 NAN, .float .f64 NAN] 43)) w.heap.size none := ⟨new_at w, trivial, hb.size, hb.alloc hb.size _⟩
theorem One.other {w0 w w' : World} {p q : Nat} {s : St} (h : One w0 w p s) (ho : Only q w w') (hq : p ≠ q) (hb : Below w0.heap.size w0 w') : One w0 w' p s := ⟨h.at_.only ho hq, h.ok, h.low, hb⟩
theorem One.new {w0 w : World} {p : Nat} {s : St} (h : One w0 w p s) (o : Obj) : One w0 (w.alloc o) p s ∧ p ≠ w.heap.size := by
  have hp : p < w.heap.size := by
    have := h.at_
    rcases Nat.lt_or_ge p w.heap.size with e | e
    · exact e
    · unfold TAt at this; rw [Array.getElem?_eq_none e] at this; cases this
  refine ⟨⟨h.at_.of ((Below.refl _ _).alloc (Nat.le_refl _) o), h.ok, h.low, h.below.alloc h.below.size o⟩, by omega⟩

theorem wait_three (w : World) (p : Nat) (h : TAt w p none) : Calls Try.prog 13 #[.pointer (some ⟨p, 0, none⟩), .int .i64 3] w fun e w' => e = .returned (.int .i64 32) ∧ ∃ k, w' = w.drewN k := by
  have := wait_any w p 3 none h trivial
  rw [say32] at this
  exact this
theorem sample_two (w : World) (p : Nat) (h : TAt w p none) : Calls Try.prog 8 #[.pointer (some ⟨p, 0, none⟩), .float .f64 4611686018427387904] w fun e w' => e = .returned (.bool true) ∧ TAt w' p (smp none 4611686018427387904) ∧ Only p w w' := by
  have := sample_any w p 4611686018427387904 none (by decide) trivial h
  rw [show acc 4611686018427387904 = true from by decide] at this
  exact this
theorem wait_six (w : World) (p : Nat) (h : TAt w p (smp none 4611686018427387904)) : Calls Try.prog 13 #[.pointer (some ⟨p, 0, none⟩), .int .i64 0] w fun e w' => e = .returned (.int .i64 6) ∧ ∃ k, w' = w.drewN k := by
  have := wait_any w p 0 _ h (smp_ok _ _ trivial)
  rw [say6] at this
  exact this
theorem speaks_any (w : World) : Calls Try.prog 6 #[] w fun e w' => e = .returned (.bool true) ∧ Below w.heap.size w w' := by
  have hw := Lib.hid (One.start w w (Below.refl _ _))
  generalize hp : w.heap.size = p at *
  have HP := Lib.hid hp
  clear hp
  go_enter Try.func6, Try.ntmps6
  go_wp2_with fail
  refine (new_any _).mono ?_
  rintro e w' ⟨rfl, rfl⟩
  rw [HP.out]
  generalize w.alloc _ = w1 at *
  go_wp2_with fail
  refine (wait_three _ p hw.out.at_).mono ?_
  rintro e w2 ⟨rfl, k2, rfl⟩
  go_wp2_with fail
  refine (sample_two _ p (hw.out.drew k2).at_).mono ?_
  rintro e w3 ⟨rfl, ht, ho⟩
  have H3 := Lib.hid ((hw.out.drew k2).step _ ht ho)
  clear ht ho
  go_wp2_with fail
  refine (wait_six _ p H3.out.at_).mono ?_
  rintro e w4 ⟨rfl, k4, rfl⟩
  go_wp2
  go_ret
  exact ⟨rfl, by have := (H3.out.drew k4).below; rw [HP.out] at this; exact this⟩
/-- Samples that are refused. -/
theorem no_nan : acc NAN = false := by decide
theorem no_inf : acc 9218868437227405312 = false := by decide
theorem no_neg : acc 13830554455654793216 = false := by decide
theorem smp_not {s : St} {x : Nat} (h : acc x = false) : smp s x = s := by unfold smp; rw [h]; rfl
theorem same_self (x : Nat) : sameB x x = true := by unfold sameB; simp
/-- Two timers, and what they began with. -/
structure Two (w0 w : World) (p q : Nat) (s u : St) : Prop where
  a : One w0 w p s
  b : One w0 w q u
  ne : p ≠ q
theorem Two.stepA {w0 w w' : World} {p q : Nat} {s u : St} (h : Two w0 w p q s u) (x : Nat) (ht : TAt w' p (smp s x)) (ho : Only p w w') : Two w0 w' p q (smp s x) u :=
  ⟨h.a.step x ht ho, h.b.other ho (fun e => h.ne e.symm) (h.a.step x ht ho).below, h.ne⟩
theorem Two.stepB {w0 w w' : World} {p q : Nat} {s u : St} (h : Two w0 w p q s u) (x : Nat) (ht : TAt w' q (smp u x)) (ho : Only q w w') : Two w0 w' p q s (smp u x) :=
  ⟨h.a.other ho h.ne (h.b.step x ht ho).below, h.b.step x ht ho, h.ne⟩
theorem Two.drew {w0 w : World} {p q : Nat} {s u : St} (h : Two w0 w p q s u) (n : Nat) : Two w0 (w.drewN n) p q s u := ⟨h.a.drew n, h.b.drew n, h.ne⟩
theorem Two.refuse {w0 w w' : World} {p q : Nat} {s u : St} (h : Two w0 w p q s u) {x : Nat} (hx : acc x = false) (ht : TAt w' p (smp s x)) (ho : Only p w w') : Two w0 w' p q s u := by
  have := h.stepA x ht ho
  rwa [smp_not hx] at this

set_option maxRecDepth 100000 in
set_option maxHeartbeats 1000000 in
theorem deaf_walk (L : List Nat) (ao : Option Addr) (cap : Nat) (n : Int) (w : World) (hI : WrdAt w ao L) (hl : L.length * 8 ≤ 140737488355328) :
    Calls Try.prog 5 #[.slice ao L.length cap, .int .i64 n] w fun e w' => e = .returned (.bool true) ∧ Below w.heap.size w w' := by
  have HI := Lib.hid hI
  clear hI
  go_enter Try.func5, Try.ntmps5
  go_wp2_with fail
  refine (speaks_any _).mono ?_
  rintro e w1 ⟨rfl, hb⟩
  have H1 := Lib.hid (One.start w w1 hb)
  clear hb
  go_wp2_with fail
  refine (new_any _).mono ?_
  rintro e w' ⟨rfl, rfl⟩
  obtain ⟨p, hp⟩ : ∃ p, w1.heap.size = p := ⟨_, rfl⟩
  rw [hp] at H1 ⊢
  clear hp
  generalize w1.alloc _ = w2 at *
  go_wp2_with fail
  refine (new_any _).mono ?_
  rintro e w' ⟨rfl, rfl⟩
  obtain ⟨hA, hne⟩ := H1.out.new (.cells #[.float .f64 NAN, .float .f64 NAN] 43)
  have H2 : Hid (Two w (w2.alloc (.cells #[.float .f64 NAN, .float .f64 NAN] 43)) p w2.heap.size none none) := Lib.hid ⟨hA, One.start w w2 H1.out.below, hne⟩
  clear hA hne H1
  obtain ⟨q, hq⟩ : ∃ q, w2.heap.size = q := ⟨_, rfl⟩
  rw [hq] at H2 ⊢
  clear hq
  generalize w2.alloc _ = w3 at *
  go_wp2_with fail
  go_loopw [7] (fun i wr => ∃ k : Nat, ∃ s : St, k ≤ L.length ∧ i = .int .i64 k ∧ Two w wr p q s s) (fun i _ => L.length - (intOf i).toNat)
  case atStart => exact ⟨0, none, Nat.zero_le _, rfl, H2.out⟩
  case round =>
    obtain ⟨k, s, hk, rfl, hM⟩ := hrel
    have HM := Lib.hid hM
    clear hM H2
    by_cases hlt : k < L.length
    · obtain ⟨g, off, rfl, hg, hc, hw⟩ := (HI.out.below HM.out.a.below) k hlt
      generalize L[k] = x at *
      have hxx : ((x : Int)).toNat = x := Int.toNat_natCast x
      cases ha : acc x with
      | true =>
        go_wp2_with fail
        refine (sample_any _ p x s hw HM.out.a.ok HM.out.a.at_).mono ?_
        rintro e w4 ⟨rfl, ht, ho⟩
        have H4 := Lib.hid (HM.out.stepA x ht ho)
        clear ht ho
        rw [ha]
        go_wp2_with fail
        refine (sample_any _ q x s hw H4.out.b.ok H4.out.b.at_).mono ?_
        rintro e w5 ⟨rfl, ht, ho⟩
        have H5 := Lib.hid (H4.out.stepB x ht ho)
        clear ht ho
        generalize smp s x = s1 at *
        go_wp2_with fail
        refine (nan_any _).mono ?_
        rintro e w' ⟨rfl, rfl⟩
        go_wp2_with fail
        refine (sample_any _ p NAN s1 (by decide) H5.out.a.ok H5.out.a.at_).mono ?_
        rintro e w6 ⟨rfl, ht, ho⟩
        have H6 := Lib.hid (H5.out.refuse no_nan ht ho)
        clear ht ho
        go_wp2_with fail
        refine (inf_any _).mono ?_
        rintro e w' ⟨rfl, rfl⟩
        go_wp2_with fail
        refine (sample_any _ p 9218868437227405312 s1 (by decide) H6.out.a.ok H6.out.a.at_).mono ?_
        rintro e w7 ⟨rfl, ht, ho⟩
        have H7 := Lib.hid (H6.out.refuse no_inf ht ho)
        clear ht ho
        go_wp2_with fail
        refine (sample_any _ p 13830554455654793216 s1 (by decide) H7.out.a.ok H7.out.a.at_).mono ?_
        rintro e w8 ⟨rfl, ht, ho⟩
        have H8 := Lib.hid (H7.out.refuse no_neg ht ho)
        clear ht ho
        go_wp2
        exact ⟨⟨k + 1, s1, by omega, by go_num, H8.out⟩, by simp [intOf]; omega⟩
      | false =>
        go_wp2_with fail
        refine (sample_any _ p x s hw HM.out.a.ok HM.out.a.at_).mono ?_
        rintro e w4 ⟨rfl, ht, ho⟩
        have H5 := Lib.hid (HM.out.refuse ha ht ho)
        clear ht ho
        rw [ha]
        go_wp2_with fail
        refine (nan_any _).mono ?_
        rintro e w' ⟨rfl, rfl⟩
        go_wp2_with fail
        refine (sample_any _ p NAN s (by decide) H5.out.a.ok H5.out.a.at_).mono ?_
        rintro e w6 ⟨rfl, ht, ho⟩
        have H6 := Lib.hid (H5.out.refuse no_nan ht ho)
        clear ht ho
        go_wp2_with fail
        refine (inf_any _).mono ?_
        rintro e w' ⟨rfl, rfl⟩
        go_wp2_with fail
        refine (sample_any _ p 9218868437227405312 s (by decide) H6.out.a.ok H6.out.a.at_).mono ?_
        rintro e w7 ⟨rfl, ht, ho⟩
        have H7 := Lib.hid (H6.out.refuse no_inf ht ho)
        clear ht ho
        go_wp2_with fail
        refine (sample_any _ p 13830554455654793216 s (by decide) H7.out.a.ok H7.out.a.at_).mono ?_
        rintro e w8 ⟨rfl, ht, ho⟩
        have H8 := Lib.hid (H7.out.refuse no_neg ht ho)
        clear ht ho
        go_wp2
        exact ⟨⟨k + 1, s, by omega, by go_num, H8.out⟩, by simp [intOf]; omega⟩
    · obtain rfl : k = L.length := by omega
      go_wp2_with fail
      refine (smooth_any _ p s HM.out.a.at_).mono ?_
      rintro e w4 ⟨rfl, k4, rfl⟩
      go_wp2_with fail
      refine (smooth_any _ q s (HM.out.drew k4).b.at_).mono ?_
      rintro e w5 ⟨rfl, k5, rfl⟩
      go_wp2_with fail
      refine (same_any _ _ _).mono ?_
      rintro e w6 ⟨rfl, rfl⟩
      rw [same_self]
      go_wp2_with fail
      refine (same_any _ _ _).mono ?_
      rintro e w6 ⟨rfl, rfl⟩
      rw [same_self]
      go_wp2_with fail
      refine (wait_any _ p n s (HM.out.drew _).a.at_ HM.out.a.ok).mono ?_
      rintro e w7 ⟨rfl, k7, rfl⟩
      go_wp2_with fail
      refine (wait_any _ q n s (HM.out.drew _).b.at_ HM.out.a.ok).mono ?_
      rintro e w8 ⟨rfl, k8, rfl⟩
      go_wp2
      go_ret
      refine ⟨?_, (HM.out.drew _).a.below⟩
      first | rfl | simp
end Go.Proofs.Ytfelndloobnipaa
