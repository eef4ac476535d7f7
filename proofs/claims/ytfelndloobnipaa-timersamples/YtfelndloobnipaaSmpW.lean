/-
  TimerSamples' walk: it answers true, and makes new blocks alone. Its conditions: the words fit into 64 bits, and there are no more than a slice holds.
-/
import Derived.Test.YtfelndloobnipaaRw
namespace Go.Proofs.Ytfelndloobnipaa
open Go.RowKit Ieee

/-- The program's timer and the document's, and what they began with. -/
structure Pq (w0 w : World) (p q : Nat) (s u : St) : Prop where
  a : One w0 w p s
  b : RAt w q u
  low : w0.heap.size ≤ q
  ne : p ≠ q
theorem Pq.drew {w0 w : World} {p q : Nat} {s u : St} (h : Pq w0 w p q s u) (n : Nat) : Pq w0 (w.drewN n) p q s u := ⟨h.a.drew n, h.b, h.low, h.ne⟩
theorem Pq.drew1 {w0 w : World} {p q : Nat} {s u : St} (h : Pq w0 w p q s u) : Pq w0 w.drew p q s u := by rw [World.drew_is_drewN]; exact h.drew 1
theorem Pq.stepA {w0 w w' : World} {p q : Nat} {s u : St} (h : Pq w0 w p q s u) (x : Nat) (ht : TAt w' p (smp s x)) (ho : Only p w w') : Pq w0 w' p q (smp s x) u :=
  ⟨h.a.step x ht ho, (ho.block q (fun e => h.ne e.symm)).trans h.b, h.low, h.ne⟩
theorem Pq.stepB {w0 w w' : World} {p q : Nat} {s u : St} (h : Pq w0 w p q s u) (ht : RAt w' q u) (ho : Only q w w') (hs : s = u) : Pq w0 w' p q s s :=
  ⟨h.a.other ho h.ne (h.a.below.trans (ho.below h.low)), by rw [hs]; exact ht, h.low, h.ne⟩
/-- What the walk of one statement needs of a world. -/
structure Kb (w0 : World) (p q g o x : Nat) (s u : St) (w : World) : Prop where
  pq : Pq w0 w p q s u
  c : w.cell? ⟨g, o, none⟩ = some (.int .u64 (x : Int))
  lo : g < w0.heap.size
  x64 : x < 18446744073709551616
  oku : Okay u
theorem Kb.drew {w0 w : World} {p q g o x : Nat} {s u : St} (h : Kb w0 p q g o x s u w) : Kb w0 p q g o x s u w.drew := ⟨h.pq.drew1, h.c, h.lo, h.x64, h.oku⟩
theorem only_cell {q g o : Nat} {w w' : World} {v : Value} (ho : Only q w w') (hg : g ≠ q) (h : w.cell? ⟨g, o, none⟩ = some v) : w'.cell? ⟨g, o, none⟩ = some v := by
  rw [← h]
  unfold World.cell?
  simp only [ho.block g hg]
theorem sampleK (w0 w : World) (p q g o x : Nat) (s u : St) (h : Kb w0 p q g o x s u w) : Calls Try.prog 8 #[.pointer (some ⟨p, 0, none⟩), .float .f64 x] w fun e w' => e = .returned (.bool (acc x)) ∧ Kb w0 p q g o x (smp s x) u w' :=
  (sample_any w p x s h.x64 h.pq.a.ok h.pq.a.at_).mono fun e w' ⟨h1, h2, h3⟩ => ⟨h1, h.pq.stepA x h2 h3, only_cell h3 (by have := h.lo; have := h.pq.a.low; omega) h.c, h.lo, h.x64, h.oku⟩
theorem rsampleK (w0 w : World) (p q g o x : Nat) (s u : St) (h : Kb w0 p q g o x s u w) : Calls Try.prog 10 #[.pointer (some ⟨q, 0, none⟩), .int .u64 (x : Int)] w fun e w' => e = .returned (.bool (acc x)) ∧ Kb w0 p q g o x s (smp u x) w' :=
  (rsample_any w q x u h.x64 h.oku h.pq.b).mono fun e w' ⟨h1, h2, h3⟩ => ⟨h1, ⟨h.pq.a.other h3 h.pq.ne (h.pq.a.below.trans (h3.below h.pq.low)), h2, h.pq.low, h.pq.ne⟩, only_cell h3 (by have := h.lo; have := h.pq.low; omega) h.c, h.lo, h.x64, smp_ok u x h.oku⟩
theorem rnew_at (w : World) : RAt (w.alloc (.cells #[.float .f64 0, .float .f64 0, .bool false] 29)) w.heap.size none := heap_alloc_new w _
theorem nan_ne : FloatKind.f64.format.order NAN NAN = none := order_nanl NAN NAN (by decide)

set_option maxRecDepth 100000 in
set_option maxHeartbeats 4000000 in
theorem samples_walk (L : List Nat) (ao : Option Addr) (cap : Nat) (n : Int) (w : World) (hI : WrdAt w ao L) (hl : L.length * 8 ≤ 140737488355328) :
    Calls Try.prog 3 #[.slice ao L.length cap, .int .i64 n] w fun e w' => e = .returned (.bool true) ∧ Below w.heap.size w w' := by
  have HI := Lib.hid hI
  clear hI
  go_enter Try.func3, Try.ntmps3
  go_wp2_with fail
  refine (speaks_any _).mono ?_
  rintro e w1 ⟨rfl, hb⟩
  have H1 := Lib.hid (One.start w w1 hb)
  clear hb
  go_wp2_with fail
  refine (new_any _).mono ?_
  rintro e w' ⟨rfl, rfl⟩
  obtain ⟨p, hp⟩ : ∃ p, w1.heap.size = p := ⟨_, rfl⟩
  rw [hp] at H1 ⊢
  clear hp
  generalize w1.alloc _ = w2 at *
  go_wp2_with fail
  obtain ⟨hA, hne⟩ := H1.out.new (.cells #[.float .f64 0, .float .f64 0, .bool false] 29)
  have H2 : Hid (Pq w (w2.alloc (.cells #[.float .f64 0, .float .f64 0, .bool false] 29)) p w2.heap.size none none) := Lib.hid ⟨hA, rnew_at w2, H1.out.below.size, hne⟩
  clear hA hne H1
  obtain ⟨q, hq⟩ : ∃ q, w2.heap.size = q := ⟨_, rfl⟩
  rw [hq] at H2 ⊢
  clear hq
  generalize w2.alloc _ = w3 at *
  go_loopw [7] (fun i wr => ∃ k : Nat, ∃ s : St, k ≤ L.length ∧ i = .int .i64 k ∧ Pq w wr p q s s) (fun i _ => L.length - (intOf i).toNat)
  case atStart => exact ⟨0, none, Nat.zero_le _, rfl, H2.out⟩
  case round =>
    obtain ⟨k, s, hk, rfl, hM⟩ := hrel
    have HM := Lib.hid hM
    clear hM H2
    by_cases hlt : k < L.length
    · obtain ⟨g, off, rfl, hg, hc, hw⟩ := (HI.out.below HM.out.a.below) k hlt
      have hg0 : g < w.heap.size := by
        obtain ⟨g', off', e1, e2, _⟩ := HI.out k hlt
        injection e1 with e1
        injection e1 with e1
        omega
      generalize L[k] = x at *
      have hxx : ((x : Int)).toNat = x := Int.toNat_natCast x
      have hK : Kb w p q g (off + k) x s s wr := ⟨HM.out, hc, hg0, hw, HM.out.a.ok⟩
      have hKd := hK.drew
      clear hg0
      go_wp2_with fail
      go_region_held3 (fun w' => w'.cell? ⟨g, off + k, none⟩ = some (.int .u64 (x : Int))) (exact Kb.c (by assumption)) (first
        | (go_at_call 8; (with_reducible refine (sampleK w _ p q g (off + k) x s s (by assumption)).mono ?_); rintro e w4 ⟨rfl, hK4⟩; have hc4 := hK4.c)
        | (go_at_call 10; (with_reducible refine (rsampleK w _ p q g (off + k) x (smp s x) s (by assumption)).mono ?_); rintro e w5 ⟨rfl, hK5⟩; have hc5 := hK5.c))
      have H5 := Lib.hid hK5.pq
      clear hK hKd hK4 hK5 hc4 hc5
      generalize smp s x = s1 at *
      go_wp2_with fail
      refine (smooth_any _ p s1 H5.out.a.at_).mono ?_
      rintro e w6 ⟨rfl, k6, rfl⟩
      cases s1 with
      | none =>
        obtain ⟨c0, c1, c2, _⟩ := three_cells (show w5.heap[q]? = some (.cells #[.float .f64 0, .float .f64 0, .bool false] 29 (0, 0)) from H5.out.b)
        have hnn := nan_ne
        simp only [Option.getD_none]
        go_wp2_with fail
        refine (wait_any _ p n _ (H5.out.drew _).a.at_ H5.out.a.ok).mono ?_
        rintro e w7 ⟨rfl, k7, rfl⟩
        go_wp2_with fail
        refine (rwait_any _ q n _ (H5.out.drew _).b H5.out.a.ok).mono ?_
        rintro e w8 ⟨rfl, rfl⟩
        go_wp2_with fail
        refine (wait_any _ p k _ (H5.out.drew _).a.at_ H5.out.a.ok).mono ?_
        rintro e w9 ⟨rfl, k9, rfl⟩
        go_wp2_with fail
        refine (rwait_any _ q k _ (H5.out.drew _).b H5.out.a.ok).mono ?_
        rintro e w10 ⟨rfl, rfl⟩
        go_wp2
        exact ⟨⟨k + 1, _, by omega, by go_num, H5.out.drew _⟩, by simp [intOf]; omega⟩
      | some mv =>
        obtain ⟨m, v⟩ := mv
        obtain ⟨c0, c1, c2, _⟩ := three_cells (show w5.heap[q]? = some (.cells #[.float .f64 m, .float .f64 v, .bool true] 29 (0, 0)) from H5.out.b)
        simp only [Option.getD_some]
        go_wp2_with fail
        refine (same_any _ _ _).mono ?_
        rintro e w6 ⟨rfl, rfl⟩
        rw [same_self]
        go_wp2_with fail
        refine (same_any _ _ _).mono ?_
        rintro e w6 ⟨rfl, rfl⟩
        rw [same_self]
        go_wp2_with fail
        refine (wait_any _ p n _ (H5.out.drew _).a.at_ H5.out.a.ok).mono ?_
        rintro e w7 ⟨rfl, k7, rfl⟩
        go_wp2_with fail
        refine (rwait_any _ q n _ (H5.out.drew _).b H5.out.a.ok).mono ?_
        rintro e w8 ⟨rfl, rfl⟩
        go_wp2_with fail
        refine (wait_any _ p k _ (H5.out.drew _).a.at_ H5.out.a.ok).mono ?_
        rintro e w9 ⟨rfl, k9, rfl⟩
        go_wp2_with fail
        refine (rwait_any _ q k _ (H5.out.drew _).b H5.out.a.ok).mono ?_
        rintro e w10 ⟨rfl, rfl⟩
        go_wp2
        exact ⟨⟨k + 1, _, by omega, by go_num, H5.out.drew _⟩, by simp [intOf]; omega⟩
    · obtain rfl : k = L.length := by omega
      go_wp2_with fail
      refine (smooth_nil _).mono ?_
      rintro e w4 ⟨rfl, k4, rfl⟩
      go_wp2_with fail
      refine (wait_any _ p n s (HM.out.drew _).a.at_ HM.out.a.ok).mono ?_
      rintro e w5 ⟨rfl, k5, rfl⟩
      go_wp2_with fail
      refine (rwait_any _ q n s (HM.out.drew _).b HM.out.a.ok).mono ?_
      rintro e w6 ⟨rfl, rfl⟩
      go_wp2_with fail
      refine (sample_nil _ _).mono ?_
      rintro e w7 ⟨rfl, rfl⟩
      have hnn := nan_ne
      go_wp2_with fail
      refine (wait_nil _ n).mono ?_
      rintro e w8 ⟨rfl, k8, rfl⟩
      go_wp2_with fail
      refine (rwait_any _ _ n none (rnew_at _) trivial).mono ?_
      rintro e w9 ⟨rfl, rfl⟩
      go_wp2
      go_ret
      have hb := (HM.out.drew (k4 + k5 + k8)).a.below
      exact ⟨rfl, hb.alloc hb.size _⟩
end Go.Proofs.Ytfelndloobnipaa
