/-
  The document's Put, Get and Number. Condition: a text of at most 2^47 bytes.
-/
import Derived.Test.YtdkmjpafhlamnaaHg
import Derived.Test.YtdkmjpafhlamnaaRef
namespace Go.Proofs.Ytdkmjpafhlamnaa
open Go.RowKit

theorem num_size (n : Int) : (⟨(numBytes n 8).toArray⟩ : ByteArray).size = 8 := by
  show (numBytes n 8).toArray.size = 8
  rw [List.size_toArray, numBytes_length]
set_option maxHeartbeats 1000000 in
theorem rput_any (f i g : Int) (w : World) :
    Calls Try.prog 12 #[.int .i64 f, .int .i64 i, .int .i64 g] w fun e w' => e = .returned (.string (hdS f i g)) ∧ Below w.heap.size w w' := by
  have s1 := num_size f
  have s2 := num_size i
  have s3 := num_size g
  have hr1 := fun w => refHyper_any f w
  have hr2 := fun w => refHyper_any i w
  have hr3 := fun w => refHyper_any g w
  have hE : hdS f i g = ⟨cora.toArray⟩ ++ ⟨(numBytes f 8).toArray⟩ ++ ⟨(numBytes i 8).toArray⟩ ++ ⟨(numBytes g 8).toArray⟩ := by
    rw [cat_arr, cat_arr, cat_arr]
    unfold hdS hd
    rw [List.append_nil, List.append_assoc, List.append_assoc]
  generalize (⟨(numBytes f 8).toArray⟩ : ByteArray) = A at *
  generalize (⟨(numBytes i 8).toArray⟩ : ByteArray) = B at *
  generalize (⟨(numBytes g 8).toArray⟩ : ByteArray) = C at *
  have HR1 := Lib.hid hr1
  have HR2 := Lib.hid hr2
  have HR3 := Lib.hid hr3
  have HE := Lib.hid hE
  clear hr1 hr2 hr3 hE
  generalize hdS f i g = X at *
  go_enter Try.func12, Try.ntmps12
  go_wp2_with fail
  refine (HR1.out _).mono ?_
  rintro e w1 ⟨rfl, hB1⟩
  have HB1 := Lib.hid hB1
  clear hB1
  go_wp2_with fail
  refine (HR2.out _).mono ?_
  rintro e w2 ⟨rfl, hB2⟩
  have HB2 := Lib.hid (HB1.out.trans (hB2.mono HB1.out.size))
  clear hB2 HB1
  go_wp2_with fail
  refine (HR3.out _).mono ?_
  rintro e w3 ⟨rfl, hB3⟩
  have HB3 := Lib.hid (HB2.out.trans (hB3.mono HB2.out.size))
  clear hB3 HB2
  go_wp2
  go_ret
  refine ⟨?_, HB3.out⟩
  rw [HE.out]
  rfl

theorem RL.new (w : World) (s : ByteArray) (h : s.size ≤ 140737488355328) : RL (w.alloc (.cells #[.string s, .int .i64 0, .int .i64 0] 49)) w.heap.size s s.data.toList 0 :=
  ⟨0, ⟨heap_alloc_new w _, Nat.zero_le _, h, fun h => absurd rfl h⟩, by rw [List.drop_zero]⟩
theorem cut_toList (s : ByteArray) (a b : Nat) : (s.extract a b).toList = (s.data.toList.drop a).take (b - a) := by
  rw [ByteArray.toList_eq]
  simp [ByteArray.data_extract]
theorem hd_drop (f i g : Int) : (hd f i g).drop 4 = numBytes f 8 ++ (numBytes i 8 ++ (numBytes g 8 ++ [])) := rfl
set_option maxRecDepth 100000 in
set_option maxHeartbeats 2000000 in
theorem rget_is (s : ByteArray) (w : World) {f i g : Int} (hf : Rng f) (hi : Rng i) (hg : Rng g) (hs : s.data.toList = hd f i g) :
    Calls Try.prog 15 #[.string s] w fun e w' => e = .returned (.tuple #[.int .i64 f, .int .i64 i, .int .i64 g, .bool true]) ∧ Below w.heap.size w w' := by
  have hz : s.size = 28 := by rw [← dat_len, hs, hd_length]
  have h4 : ((s.extract 0 4).toList == [99, 111, 114, 97]) = true := by rw [cut_toList, hs]; rfl
  have h5 : (s.extract 4 28).data.toList = numBytes f 8 ++ (numBytes i 8 ++ (numBytes g 8 ++ [])) := by
    rw [← ByteArray.toList_eq, cut_toList, hs, hd_drop, List.take_of_length_le (by simp [numBytes_length])]
  have h6 : (s.extract 4 28).size ≤ 140737488355328 := by rw [← dat_len, h5]; simp [numBytes_length]
  have H1 := Lib.hid hf
  have H2 := Lib.hid hi
  have H3 := Lib.hid hg
  have H5 := Lib.hid h5
  have H6 := Lib.hid h6
  clear hf hi hg hs h5 h6
  go_enter Try.func15, Try.ntmps15
  go_wp2_with fail
  have hR1 := RL.new w _ H6.out
  have HB1 := Lib.hid ((Below.refl w.heap.size w).alloc (Nat.le_refl _) (.cells #[.string (s.extract 4 28), .int .i64 0, .int .i64 0] 49))
  generalize s.extract 4 28 = s4 at *
  rw [H5.out] at hR1
  obtain ⟨p, hp, hpw⟩ : ∃ p, w.heap.size = p ∧ w.heap.size ≤ p := ⟨_, rfl, Nat.le_refl _⟩
  rw [hp] at hR1
  simp only [hp]
  generalize w.alloc (.cells #[.string s4, .int .i64 0, .int .i64 0] 49) = w1 at *
  clear hp
  refine (rnumber_any p _ _ 0 8 w1 hR1 (by omega) (by omega)).mono ?_
  rintro e w2 ⟨rfl, hR2, hO2⟩
  rw [numR_ok8 _ H1.out] at hR2 ⊢
  have HB2 := Lib.hid (HB1.out.trans (hO2.below hpw))
  clear hO2 HB1 hR1
  go_wp2_with fail
  refine (rnumber_any p _ _ _ 8 w2 hR2 (by omega) (by omega)).mono ?_
  rintro e w3 ⟨rfl, hR3, hO3⟩
  rw [numR_ok8 _ H2.out] at hR3 ⊢
  have HB3 := Lib.hid (HB2.out.trans (hO3.below hpw))
  clear hO3 HB2 hR2
  go_wp2_with fail
  refine (rnumber_any p _ _ _ 8 w3 hR3 (by omega) (by omega)).mono ?_
  rintro e w4 ⟨rfl, hR4, hO4⟩
  rw [numR_ok8 _ H3.out] at hR4 ⊢
  have HB4 := Lib.hid (HB3.out.trans (hO4.below hpw))
  clear hO4 HB3 hR3
  go_wp2
  (try simp only [Exit.inBlock, Exit.then]); refine bodyPost_ret (four_results rfl _ _ _) rfl ?_
  exact ⟨rfl, HB4.out⟩

set_option maxRecDepth 100000 in
set_option maxHeartbeats 2000000 in
theorem rget_no (s : ByteArray) (w : World) (hs : ∀ f i g, Rng f → Rng i → Rng g → s.data.toList ≠ hd f i g) :
    Calls Try.prog 15 #[.string s] w fun e w' => e = .returned (.tuple #[.int .i64 0, .int .i64 0, .int .i64 0, .bool false]) ∧ Below w.heap.size w w' := by
  by_cases hz : s.size = 28
  · have h4 : ((s.extract 0 4).toList == [99, 111, 114, 97]) = false := by
      rw [beq_eq_false_iff_ne, cut_toList]
      intro e
      obtain ⟨f, i, g, h1, h2, h3, h⟩ := is_hd (l := s.data.toList) (by rw [dat_len, hz]) e
      exact hs f i g h1 h2 h3 h
    clear hs
    go_enter Try.func15, Try.ntmps15
    go_wp2
    (try simp only [Exit.inBlock, Exit.then]); refine bodyPost_ret (four_results rfl _ _ _) rfl ?_
    exact ⟨rfl, Below.refl _ _⟩
  · clear hs
    have hz2 : ((s.size : Int) != 28) = true := by
      rw [bne_iff_ne]; omega
    clear hz
    go_enter Try.func15, Try.ntmps15
    go_wp2
    (try simp only [Exit.inBlock, Exit.then]); refine bodyPost_ret (four_results rfl _ _ _) rfl ?_
    exact ⟨rfl, Below.refl _ _⟩

set_option maxHeartbeats 2000000 in
theorem rnumber_is (s : ByteArray) (w : World) {f i g : Int} (hf : Rng f) (hi : Rng i) (hg : Rng g) (hs : s.data.toList = hd f i g) :
    Calls Try.prog 11 #[.string s] w fun e w' => e = .returned (.tuple #[.int .i64 (numF f i g).1, .int .i64 (numF f i g).2]) ∧ Below w.heap.size w w' := by
  have H1 := Lib.hid hf
  have H2 := Lib.hid hi
  have H3 := Lib.hid hg
  have H4 := Lib.hid hs
  clear hf hi hg hs
  obtain ⟨nf, hnf⟩ : ∃ nf, nf = numF f i g := ⟨_, rfl⟩
  rw [← hnf]
  have HNF := Lib.hid hnf
  clear hnf
  go_enter Try.func11, Try.ntmps11
  go_wp2_with fail
  refine (rget_is s w H1.out H2.out H3.out H4.out).mono ?_
  rintro e w1 ⟨rfl, hB1⟩
  have HB1 := Lib.hid hB1
  clear hB1
  clear H1 H2 H3 H4
  by_cases h1 : f = 1
  · subst h1
    by_cases h2 : 1 ≤ i
    · by_cases h3 : g = i
      · subst h3
        go_wp2
        go_ret2
        refine ⟨?_, HB1.out⟩; rw [show nf = _ from HNF.out.trans (by unfold numF; exact if_pos ⟨rfl, h2, rfl⟩)]; rfl
      · have h3' : (g != i) = true := by simpa using h3
        go_wp2
        go_ret2
        refine ⟨?_, HB1.out⟩; rw [show nf = _ from HNF.out.trans (by unfold numF; exact if_neg (fun h => h3 h.2.2))]; rfl
    · go_wp2
      go_ret2
      refine ⟨?_, HB1.out⟩; rw [show nf = _ from HNF.out.trans (by unfold numF; exact if_neg (fun h => by omega))]; rfl
  · go_wp2
    go_ret2
    refine ⟨?_, HB1.out⟩; rw [show nf = _ from HNF.out.trans (by unfold numF; exact if_neg (fun h => h1 h.1))]; rfl
set_option maxHeartbeats 2000000 in
theorem rnumber_no (s : ByteArray) (w : World) (hs : ∀ f i g, Rng f → Rng i → Rng g → s.data.toList ≠ hd f i g) :
    Calls Try.prog 11 #[.string s] w fun e w' => e = .returned (.tuple #[.int .i64 0, .int .i64 10001]) ∧ Below w.heap.size w w' := by
  have H4 := Lib.hid hs
  clear hs
  go_enter Try.func11, Try.ntmps11
  go_wp2_with fail
  refine (rget_no s w H4.out).mono ?_
  rintro e w1 ⟨rfl, hB1⟩
  have HB1 := Lib.hid hB1
  clear hB1 H4
  go_wp2
  go_ret2
  exact ⟨rfl, HB1.out⟩
end Go.Proofs.Ytdkmjpafhlamnaa
