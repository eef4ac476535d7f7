/-
  The laws' first line, and HandlePuts' walk. No condition.
-/
import Derived.Test.YtdkmjpafhlamnaaHr
namespace Go.Proofs.Ytdkmjpafhlamnaa
open Go.RowKit

theorem hdS_list (f i g : Int) : (hdS f i g).data.toList = hd f i g := by unfold hdS; simp
theorem hdS_size (f i g : Int) : (hdS f i g).size = 28 := by rw [← dat_len, hdS_list, hd_length]
theorem hdS_inj {f i g f' i' g' : Int} (h1 : Rng f) (h2 : Rng i) (h3 : Rng g) (k1 : Rng f') (k2 : Rng i') (k3 : Rng g') (h : hdS f i g = hdS f' i' g') : f = f' ∧ i = i' ∧ g = g' := by
  have e : (hdS f i g).data.toList = (hdS f' i' g').data.toList := by rw [h]
  rw [hdS_list, hdS_list] at e
  exact hd_inj h1 h2 h3 k1 k2 k3 e
theorem str_ne {A B : ByteArray} (h : ¬ A = B) : (A.toList == B.toList) = false := by
  rw [beq_eq_false_iff_ne]
  intro e
  rw [ByteArray.toList_eq, ByteArray.toList_eq] at e
  exact h (ByteArray.ext (by simpa using e))
theorem int_ne {a b : Int} (h : ¬ a = b) : (a == b) = false := by rw [beq_eq_false_iff_ne]; exact h
theorem rng (n : Int) (h : -9223372036854775808 ≤ n) (h2 : n ≤ 9223372036854775807) : Rng n := ⟨h, h2⟩

set_option maxHeartbeats 1000000 in
theorem speaks_any (w : World) : Calls Try.prog 7 #[] w fun e w' => e = .returned (.bool true) ∧ Below w.heap.size w w' := by
  go_enter Try.func7, Try.ntmps7
  go_wp2_with fail
  refine (put_any 1 2 2 _).mono ?_
  rintro e w1 ⟨rfl, hB1⟩
  have HB1 := Lib.hid hB1
  clear hB1
  have hl := hdS_list 1 2 2
  generalize hdS 1 2 2 = s at *
  go_wp2_with fail
  refine (number_is s w1 (f := 1) (i := 2) (g := 2) (by unfold Rng; omega) (by unfold Rng; omega) (by unfold Rng; omega) hl).mono ?_
  rintro e w2 ⟨rfl, hB2⟩
  rw [show numF 1 2 2 = (2, 0) from rfl]
  have HB2 := Lib.hid (HB1.out.trans (hB2.mono HB1.out.size))
  clear hB2 HB1
  go_wp2
  go_ret
  exact ⟨rfl, HB2.out⟩

set_option maxRecDepth 100000 in
set_option maxHeartbeats 4000000 in
theorem puts_walk (f i g : Int) (w : World) (hf : Rng f) (hi : Rng i) (hg : Rng g) :
    Calls Try.prog 3 #[.int .i64 f, .int .i64 i, .int .i64 g] w fun e w' => e = .returned (.bool true) ∧ Below w.heap.size w w' := by
  have H1 := Lib.hid hf
  have H2 := Lib.hid hi
  have H3 := Lib.hid hg
  clear hf hi hg
  go_enter Try.func3, Try.ntmps3
  go_wp2_with fail
  refine (speaks_any _).mono ?_
  rintro e w1 ⟨rfl, hB1⟩
  have HB1 := Lib.hid hB1
  clear hB1
  go_wp2_with fail
  refine (put_any f i g w1).mono ?_
  rintro e w2 ⟨rfl, hB2⟩
  have HB2 := Lib.hid (HB1.out.trans (hB2.mono HB1.out.size))
  clear hB2 HB1
  obtain ⟨s, hs⟩ : ∃ s, s = hdS f i g := ⟨_, rfl⟩
  rw [← hs]
  have HS := Lib.hid hs
  have HL := Lib.hid (show s.data.toList = hd f i g by rw [hs, hdS_list])
  clear hs
  go_wp2_with fail
  refine (get_is s w2 H1.out H2.out H3.out HL.out).mono ?_
  rintro e w3 ⟨rfl, hB3⟩
  have HB3 := Lib.hid (HB2.out.trans (hB3.mono HB2.out.size))
  clear hB3 HB2
  go_wp2_with fail
  refine (number_is s w3 H1.out H2.out H3.out HL.out).mono ?_
  rintro e w4 ⟨rfl, hB4⟩
  have HB4 := Lib.hid (HB3.out.trans (hB4.mono HB3.out.size))
  clear hB4 HB3
  go_wp2_with fail
  refine (rnumber_is s w4 H1.out H2.out H3.out HL.out).mono ?_
  rintro e w5 ⟨rfl, hB5⟩
  have HB5 := Lib.hid (HB4.out.trans (hB5.mono HB4.out.size))
  clear hB5 HB4
  generalize numF f i g = nf
  go_wp2_with fail
  refine (rput_any f i g w5).mono ?_
  rintro e w6 ⟨rfl, hB6⟩
  rw [← HS.out]
  have HB6 := Lib.hid (HB5.out.trans (hB6.mono HB5.out.size))
  clear hB6 HB5
  go_wp2_with fail
  refine (verifier_any f w6).mono ?_
  rintro e w7 ⟨rfl, hB7⟩
  have HB7 := Lib.hid (HB6.out.trans (hB7.mono HB6.out.size))
  clear hB7 HB6
  go_wp2_with fail
  refine (refHyper_any f w7).mono ?_
  rintro e w8 ⟨rfl, hB8⟩
  have HB8 := Lib.hid (HB7.out.trans (hB8.mono HB7.out.size))
  clear hB8 HB7
  go_wp2_with fail
  refine (verifier_any f w8).mono ?_
  rintro e w9 ⟨rfl, hB9⟩
  have HB9 := Lib.hid (HB8.out.trans (hB9.mono HB8.out.size))
  clear hB9 HB8
  go_wp2_with fail
  refine (verifier_any i w9).mono ?_
  rintro e w10 ⟨rfl, hB10⟩
  have HB10 := Lib.hid (HB9.out.trans (hB10.mono HB9.out.size))
  clear hB10 HB9
  have hcmp : ((⟨(numBytes f 8).toArray⟩ : ByteArray) = ⟨(numBytes i 8).toArray⟩) ↔ f = i := by
    constructor
    · intro h
      refine numBytes_inj H1.out H2.out ?_
      have e1 : (numBytes f 8).toArray = (numBytes i 8).toArray := congrArg ByteArray.data h
      simpa using congrArg Array.toList e1
    · rintro rfl; rfl
  generalize (⟨(numBytes f 8).toArray⟩ : ByteArray) = A at *
  generalize (⟨(numBytes i 8).toArray⟩ : ByteArray) = B at *
  by_cases h : f = i
  · subst h
    obtain rfl := hcmp.2 rfl
    clear hcmp
    go_wp2
    go_ret
    exact ⟨rfl, HB10.out⟩
  · have h' := str_ne fun e => h (hcmp.1 e)
    have h'' := int_ne h
    clear hcmp
    go_wp2
    go_ret
    exact ⟨rfl, HB10.out⟩
end Go.Proofs.Ytdkmjpafhlamnaa
