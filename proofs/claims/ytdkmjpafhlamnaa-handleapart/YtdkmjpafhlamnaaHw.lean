/-
  HandleGets' and HandleApart's walks. Condition of the first: a text of at most 2^47 bytes.
-/
import Derived.Test.YtdkmjpafhlamnaaHl
namespace Go.Proofs.Ytdkmjpafhlamnaa
open Go.RowKit

set_option maxRecDepth 100000 in
set_option maxHeartbeats 4000000 in
theorem gets_is (s : ByteArray) (f i g : Int) (w : World) (hf : Rng f) (hi : Rng i) (hg : Rng g) (hs : s.data.toList = hd f i g) :
    Calls Try.prog 4 #[.string s] w fun e w' => e = .returned (.bool true) ∧ Below w.heap.size w w' := by
  have H1 := Lib.hid hf
  have H2 := Lib.hid hi
  have H3 := Lib.hid hg
  have HL := Lib.hid hs
  have HE := Lib.hid (show hdS f i g = s by unfold hdS; rw [← hs])
  clear hf hi hg hs
  go_enter Try.func4, Try.ntmps4
  go_wp2_with fail
  refine (speaks_any _).mono ?_
  rintro e w1 ⟨rfl, hB1⟩
  have HB1 := Lib.hid hB1
  clear hB1
  go_wp2_with fail
  refine (get_is s w1 H1.out H2.out H3.out HL.out).mono ?_
  rintro e w2 ⟨rfl, hB2⟩
  have HB2 := Lib.hid (HB1.out.trans (hB2.mono HB1.out.size))
  clear hB2 HB1
  go_wp2_with fail
  refine (rget_is s w2 H1.out H2.out H3.out HL.out).mono ?_
  rintro e w3 ⟨rfl, hB3⟩
  have HB3 := Lib.hid (HB2.out.trans (hB3.mono HB2.out.size))
  clear hB3 HB2
  go_wp2_with fail
  refine (number_is s w3 H1.out H2.out H3.out HL.out).mono ?_
  rintro e w4 ⟨rfl, hB4⟩
  have HB4 := Lib.hid (HB3.out.trans (hB4.mono HB3.out.size))
  clear hB4 HB3
  go_wp2_with fail
  refine (rnumber_is s w4 H1.out H2.out H3.out HL.out).mono ?_
  rintro e w5 ⟨rfl, hB5⟩
  have HB5 := Lib.hid (HB4.out.trans (hB5.mono HB4.out.size))
  clear hB5 HB4
  generalize numF f i g = nf
  go_wp2_with fail
  refine (put_any f i g w5).mono ?_
  rintro e w6 ⟨rfl, hB6⟩
  have HB6 := Lib.hid (HB5.out.trans (hB6.mono HB5.out.size))
  clear hB6 HB5
  rw [HE.out]
  go_wp2
  go_ret
  exact ⟨rfl, HB6.out⟩

set_option maxRecDepth 100000 in
set_option maxHeartbeats 4000000 in
theorem gets_no (s : ByteArray) (w : World) (hz : s.size ≤ 140737488355328) (hs : ∀ f i g, Rng f → Rng i → Rng g → s.data.toList ≠ hd f i g) :
    Calls Try.prog 4 #[.string s] w fun e w' => e = .returned (.bool true) ∧ Below w.heap.size w w' := by
  have HN := Lib.hid hs
  clear hs
  go_enter Try.func4, Try.ntmps4
  go_wp2_with fail
  refine (speaks_any _).mono ?_
  rintro e w1 ⟨rfl, hB1⟩
  have HB1 := Lib.hid hB1
  clear hB1
  go_wp2_with fail
  refine (get_no s w1 hz HN.out).mono ?_
  rintro e w2 ⟨rfl, hB2⟩
  have HB2 := Lib.hid (HB1.out.trans (hB2.mono HB1.out.size))
  clear hB2 HB1
  go_wp2_with fail
  refine (rget_no s w2 HN.out).mono ?_
  rintro e w3 ⟨rfl, hB3⟩
  have HB3 := Lib.hid (HB2.out.trans (hB3.mono HB2.out.size))
  clear hB3 HB2
  go_wp2_with fail
  refine (number_no s w3 hz HN.out).mono ?_
  rintro e w4 ⟨rfl, hB4⟩
  have HB4 := Lib.hid (HB3.out.trans (hB4.mono HB3.out.size))
  clear hB4 HB3
  go_wp2_with fail
  refine (rnumber_no s w4 HN.out).mono ?_
  rintro e w5 ⟨rfl, hB5⟩
  have HB5 := Lib.hid (HB4.out.trans (hB5.mono HB4.out.size))
  clear hB5 HB4
  go_wp2
  go_ret
  exact ⟨rfl, HB5.out⟩

theorem gets_walk (s : ByteArray) (w : World) (hz : s.size ≤ 140737488355328) :
    Calls Try.prog 4 #[.string s] w fun e w' => e = .returned (.bool true) ∧ Below w.heap.size w w' := by
  by_cases h : ∃ f i g, Rng f ∧ Rng i ∧ Rng g ∧ s.data.toList = hd f i g
  · obtain ⟨f, i, g, h1, h2, h3, h4⟩ := h
    exact gets_is s f i g w h1 h2 h3 h4
  · exact gets_no s w hz fun f i g h1 h2 h3 h4 => h ⟨f, i, g, h1, h2, h3, h4⟩

set_option maxRecDepth 100000 in
set_option maxHeartbeats 4000000 in
theorem apart_walk (a b : Int) (w : World) (ha : Rng a) (hb : Rng b) :
    Calls Try.prog 5 #[.int .i64 a, .int .i64 b] w fun e w' => e = .returned (.bool true) ∧ Below w.heap.size w w' := by
  have hi : hdS 1 a a = hdS 1 b b ↔ a = b := ⟨fun h => (hdS_inj (rng 1 (by omega) (by omega)) ha ha (rng 1 (by omega) (by omega)) hb hb h).2.1, fun h => by rw [h]⟩
  have H0 : Hid (Rng 1) := Lib.hid (rng 1 (by omega) (by omega))
  have H1 := Lib.hid ha
  clear ha hb
  go_enter Try.func5, Try.ntmps5
  go_wp2_with fail
  refine (speaks_any _).mono ?_
  rintro e w1 ⟨rfl, hB1⟩
  have HB1 := Lib.hid hB1
  clear hB1
  go_wp2_with fail
  refine (put_any 1 a a w1).mono ?_
  rintro e w2 ⟨rfl, hB2⟩
  have HB2 := Lib.hid (HB1.out.trans (hB2.mono HB1.out.size))
  clear hB2 HB1
  go_wp2_with fail
  refine (put_any 1 b b w2).mono ?_
  rintro e w3 ⟨rfl, hB3⟩
  have HB3 := Lib.hid (HB2.out.trans (hB3.mono HB2.out.size))
  clear hB3 HB2
  have hl : (hdS 1 a a).data.toList = hd 1 a a := hdS_list 1 a a
  have hz : (hdS 1 a a).size = 28 := hdS_size 1 a a
  generalize hdS 1 a a = x at *
  generalize hdS 1 b b = y at *
  have HL := Lib.hid hl
  clear hl
  go_wp2_with fail
  refine (number_is x w3 H0.out H1.out H1.out HL.out).mono ?_
  rintro e w4 ⟨rfl, hB4⟩
  have HB4 := Lib.hid (HB3.out.trans (hB4.mono HB3.out.size))
  clear hB4 HB3
  unfold numF
  by_cases h1 : 1 ≤ a
  · rw [if_pos ⟨rfl, h1, rfl⟩]
    by_cases h : a = b
    · obtain rfl := hi.2 h
      subst h
      clear hi
      go_wp2
      go_ret
      exact ⟨rfl, HB4.out⟩
    · have h' := str_ne fun e => h (hi.1 e)
      have h'' := int_ne h
      clear hi
      go_wp2
      go_ret
      exact ⟨rfl, HB4.out⟩
  · rw [if_neg (fun h => h1 h.2.1)]
    have hd1 : decide (1 ≤ a) = false := decide_eq_false h1
    by_cases h : a = b
    · obtain rfl := hi.2 h
      subst h
      clear hi
      go_wp2
      go_ret
      exact ⟨rfl, HB4.out⟩
    · have h' := str_ne fun e => h (hi.1 e)
      have h'' := int_ne h
      clear hi
      go_wp2
      go_ret
      exact ⟨rfl, HB4.out⟩
end Go.Proofs.Ytdkmjpafhlamnaa
