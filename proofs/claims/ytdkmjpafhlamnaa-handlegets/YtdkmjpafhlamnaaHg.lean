/-
  Get, and Number over it. Condition: a text of at most 2^47 bytes.
-/
import Derived.Test.YtdkmjpafhlamnaaHd
namespace Go.Proofs.Ytdkmjpafhlamnaa
open Go.RowKit

theorem four_results {fn : Func} {t u v x : Tmp} (h : fn.results = #[.tmp t, .tmp u, .tmp v, .tmp x]) (tmps : Array Value) (P : Program) (w : World) :
    (results fn tmps).run P w = .ok (.tuple #[tmps.getD t undef, tmps.getD u undef, tmps.getD v undef, tmps.getD x undef]) w := by
  simp [results, h]

set_option maxRecDepth 100000 in
set_option maxHeartbeats 2000000 in
theorem get_run (s : ByteArray) (w : World) (hs : s.size ≤ 140737488355328) (F : ByteArray × List UInt8 × Int) (A B C : Int × List UInt8 × Int) (hF : F = fixR 4 s.data.toList 0) (hA : A = numR 8 F.2.1 F.2.2) (hB : B = numR 8 A.2.1 A.2.2) (hC : C = numR 8 B.2.1 B.2.2) :
    Calls Try.prog 9 #[.string s] w fun e w' => e = .returned (if endR C.2.1 C.2.2 = 0 ∧ F.1 = coraS then .tuple #[.int .i64 A.1, .int .i64 B.1, .int .i64 C.1, .bool true] else .tuple #[.int .i64 0, .int .i64 0, .int .i64 0, .bool false]) ∧ Below w.heap.size w w' := by
  have hlen : s.data.toList.length ≤ 140737488355328 := by rw [dat_len]; exact hs
  have hlF : F.2.1.length ≤ 140737488355328 := by
    rw [hF, fixR4]
    split
    · simp
    · simp only [List.length_drop]; omega
  have hlA : A.2.1.length ≤ 140737488355328 := by rw [hA]; exact Nat.le_trans (numR_le 8 _ _).2 hlF
  have hlB : B.2.1.length ≤ 140737488355328 := by rw [hB]; exact Nat.le_trans (numR_le 8 _ _).2 hlA
  have HF := Lib.hid hF
  have HA := Lib.hid hA
  have HB := Lib.hid hB
  have HC := Lib.hid hC
  clear hF hA hB hC
  obtain ⟨ans, hans⟩ : ∃ ans : Value, ans = if endR C.2.1 C.2.2 = 0 ∧ F.1 = coraS then .tuple #[.int .i64 A.1, .int .i64 B.1, .int .i64 C.1, .bool true] else .tuple #[.int .i64 0, .int .i64 0, .int .i64 0, .bool false] := ⟨_, rfl⟩
  rw [← hans]
  have HANS := Lib.hid hans
  clear hans
  go_enter Try.func9, Try.ntmps9
  go_wp2_with fail
  refine (open_any s w (by unfold maxLen; omega)).mono ?_
  rintro e w1 ⟨rfl, hR1, hB1, hs1⟩
  have HB1 := Lib.hid hB1
  clear hB1 hs1
  obtain ⟨p, hp, hpw⟩ : ∃ p, w.heap.size + 1 = p ∧ w.heap.size ≤ p := ⟨_, rfl, by omega⟩
  rw [hp] at hR1 ⊢
  clear hp
  go_wp2_with fail
  refine (rfixed_any p _ 0 4 w1 hR1 hlen (by omega)).mono ?_
  rintro e w2 ⟨rfl, hR2, hO2⟩
  rw [← HF.out] at hR2 ⊢
  have HB2 := Lib.hid (HB1.out.trans (hO2.below hpw))
  clear hO2 HB1 hR1
  go_wp2_with fail
  refine (rhyper_any p _ _ w2 hR2 hlF).mono ?_
  rintro e w3 ⟨rfl, hR3, hO3⟩
  rw [← HA.out] at hR3 ⊢
  have HB3 := Lib.hid (HB2.out.trans (hO3.below hpw))
  clear hO3 HB2 hR2
  go_wp2_with fail
  refine (rhyper_any p _ _ w3 hR3 hlA).mono ?_
  rintro e w4 ⟨rfl, hR4, hO4⟩
  rw [← HB.out] at hR4 ⊢
  have HB4 := Lib.hid (HB3.out.trans (hO4.below hpw))
  clear hO4 HB3 hR3
  go_wp2_with fail
  refine (rhyper_any p _ _ w4 hR4 hlB).mono ?_
  rintro e w5 ⟨rfl, hR5, hO5⟩
  rw [← HC.out] at hR5 ⊢
  have HB5 := Lib.hid (HB4.out.trans (hO5.below hpw))
  clear hO5 HB4 hR4 hlB hlA hlF hlen
  go_wp2_with fail
  refine (end_any p _ _ w5 hR5).mono ?_
  rintro e w6 ⟨rfl, rfl⟩
  obtain ⟨E, hE⟩ : ∃ E, E = endR C.2.1 C.2.2 := ⟨_, rfl⟩
  rw [← hE]
  have HE := Lib.hid hE
  clear hE hR5
  obtain ⟨f, hf⟩ : ∃ f, f = F.1 := ⟨_, rfl⟩
  rw [← hf]
  have HFF := Lib.hid hf
  clear hf HF HA HB HC
  by_cases h0 : E = 0
  · by_cases h1 : f = coraS
    · have ha : ans = .tuple #[.int .i64 A.1, .int .i64 B.1, .int .i64 C.1, .bool true] := by rw [HANS.out, if_pos ⟨by rw [← HE.out, h0], by rw [← HFF.out, h1]⟩]
      have HAA := Lib.hid ha
      clear ha HANS HE HFF
      subst h0
      subst h1
      unfold coraS
      go_wp2
      (try simp only [Exit.inBlock, Exit.then]); refine bodyPost_ret (four_results rfl _ _ _) rfl ?_
      exact ⟨by rw [HAA.out]; rfl, HB5.out⟩
    · have ha : ans = .tuple #[.int .i64 0, .int .i64 0, .int .i64 0, .bool false] := by rw [HANS.out, if_neg (fun h => h1 (by rw [HFF.out, h.2]))]
      have HAA := Lib.hid ha
      clear ha HANS HE HFF
      have h1' : (f.toList == [99, 111, 114, 97]) = false := by
        rw [beq_eq_false_iff_ne]
        intro e
        exact h1 (ByteArray.ext (by
          have e2 : f.data.toList = [99, 111, 114, 97] := (ByteArray.toList_eq f).symm.trans e
          show f.data = #[99, 111, 114, 97]
          rw [← e2]))
      clear h1
      subst h0
      go_wp2
      (try simp only [Exit.inBlock, Exit.then]); refine bodyPost_ret (four_results rfl _ _ _) rfl ?_
      exact ⟨by rw [HAA.out]; rfl, HB5.out⟩
  · have ha : ans = .tuple #[.int .i64 0, .int .i64 0, .int .i64 0, .bool false] := by rw [HANS.out, if_neg (fun h => h0 (by rw [HE.out, h.1]))]
    have HAA := Lib.hid ha
    clear ha HANS HE HFF
    go_wp2
    (try simp only [Exit.inBlock, Exit.then]); refine bodyPost_ret (four_results rfl _ _ _) rfl ?_
    exact ⟨by rw [HAA.out]; rfl, HB5.out⟩

theorem get_is (s : ByteArray) (w : World) {f i g : Int} (hf : Rng f) (hi : Rng i) (hg : Rng g) (hs : s.data.toList = hd f i g) :
    Calls Try.prog 9 #[.string s] w fun e w' => e = .returned (.tuple #[.int .i64 f, .int .i64 i, .int .i64 g, .bool true]) ∧ Below w.heap.size w w' := by
  have hz : s.size = 28 := by rw [← dat_len, hs, hd_length]
  refine (get_run s w (by omega) _ _ _ _ rfl rfl rfl rfl).mono ?_
  rintro e w' ⟨rfl, hB⟩
  refine ⟨?_, hB⟩
  rw [hs]
  unfold hd
  rw [fixR_hd]
  show Ending.returned (if endR (numR 8 (numR 8 (numR 8 _ 0).2.1 (numR 8 _ 0).2.2).2.1 (numR 8 (numR 8 _ 0).2.1 (numR 8 _ 0).2.2).2.2).2.1 _ = 0 ∧ _ then _ else _) = _
  simp only [numR_ok8 _ hf, numR_ok8 _ hi, numR_ok8 _ hg]
  rfl
theorem get_no (s : ByteArray) (w : World) (hz : s.size ≤ 140737488355328) (hs : ∀ f i g, Rng f → Rng i → Rng g → s.data.toList ≠ hd f i g) :
    Calls Try.prog 9 #[.string s] w fun e w' => e = .returned (.tuple #[.int .i64 0, .int .i64 0, .int .i64 0, .bool false]) ∧ Below w.heap.size w w' := by
  refine (get_run s w hz _ _ _ _ rfl rfl rfl rfl).mono ?_
  rintro e w' ⟨rfl, hB⟩
  refine ⟨?_, hB⟩
  rw [if_neg]
  rintro ⟨h1, h2⟩
  exact no_taken hs _ _ _ _ rfl rfl rfl rfl h1 h2

set_option maxHeartbeats 2000000 in
theorem number_is (s : ByteArray) (w : World) {f i g : Int} (hf : Rng f) (hi : Rng i) (hg : Rng g) (hs : s.data.toList = hd f i g) :
    Calls Try.prog 10 #[.string s] w fun e w' => e = .returned (.tuple #[.int .i64 (numF f i g).1, .int .i64 (numF f i g).2]) ∧ Below w.heap.size w w' := by
  have H1 := Lib.hid hf
  have H2 := Lib.hid hi
  have H3 := Lib.hid hg
  have H4 := Lib.hid hs
  clear hf hi hg hs
  obtain ⟨nf, hnf⟩ : ∃ nf, nf = numF f i g := ⟨_, rfl⟩
  rw [← hnf]
  have HNF := Lib.hid hnf
  clear hnf
  go_enter Try.func10, Try.ntmps10
  go_wp2_with fail
  refine (get_is s w H1.out H2.out H3.out H4.out).mono ?_
  rintro e w1 ⟨rfl, hB1⟩
  have HB1 := Lib.hid hB1
  clear hB1
  clear H1 H2 H3 H4
  by_cases h1 : f = 1
  · subst h1
    by_cases h2 : 1 ≤ i
    · by_cases h3 : g = i
      · subst h3
        go_wp2
        go_ret2
        refine ⟨?_, HB1.out⟩; rw [show nf = _ from HNF.out.trans (by unfold numF; exact if_pos ⟨rfl, h2, rfl⟩)]; rfl
      · have h3' : (g != i) = true := by simpa using h3
        go_wp2
        go_ret2
        refine ⟨?_, HB1.out⟩; rw [show nf = _ from HNF.out.trans (by unfold numF; exact if_neg (fun h => h3 h.2.2))]; rfl
    · go_wp2
      go_ret2
      refine ⟨?_, HB1.out⟩; rw [show nf = _ from HNF.out.trans (by unfold numF; exact if_neg (fun h => by omega))]; rfl
  · go_wp2
    go_ret2
    refine ⟨?_, HB1.out⟩; rw [show nf = _ from HNF.out.trans (by unfold numF; exact if_neg (fun h => h1 h.1))]; rfl
set_option maxHeartbeats 2000000 in
theorem number_no (s : ByteArray) (w : World) (hz : s.size ≤ 140737488355328) (hs : ∀ f i g, Rng f → Rng i → Rng g → s.data.toList ≠ hd f i g) :
    Calls Try.prog 10 #[.string s] w fun e w' => e = .returned (.tuple #[.int .i64 0, .int .i64 10001]) ∧ Below w.heap.size w w' := by
  have H4 := Lib.hid hs
  clear hs
  go_enter Try.func10, Try.ntmps10
  go_wp2_with fail
  refine (get_no s w hz H4.out).mono ?_
  rintro e w1 ⟨rfl, hB1⟩
  have HB1 := Lib.hid hB1
  clear hB1 H4
  go_wp2
  go_ret2
  exact ⟨rfl, HB1.out⟩
end Go.Proofs.Ytdkmjpafhlamnaa
