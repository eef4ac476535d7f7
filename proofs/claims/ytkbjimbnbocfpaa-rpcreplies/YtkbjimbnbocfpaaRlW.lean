/-
  RpcReplies' walk: it answers true, and makes new blocks alone. Its condition: the texts are no longer than memory.
-/
import Derived.Test.YtkbjimbnbocfpaaApW
import Derived.Test.YtkbjimbnbocfpaaRgr
namespace Go.Proofs.Ytkbjimbnbocfpaa
open Go.RowKit
@[go_sem] theorem eq51 (a b c d : Int) (s : ByteArray) (a' b' c' d' : Int) (s' : ByteArray) (w : World) : (Op.equalIn 10000 51 (.agg #[.int .i64 a, .int .i64 b, .int .i64 c, .int .i64 d, .string s]) (.agg #[.int .i64 a', .int .i64 b', .int .i64 c', .int .i64 d', .string s'])).run Try.prog w = .ok (a == a' && (b == b' && (c == c' && (d == d' && s.toList == s'.toList)))) w := by
  have u3 := Try.underlying3
  have u9 := Try.underlying9
  have hS : Try.prog.underlying 51 = some (.struct (Try.prog.fieldsOf 51)) := by kernel_rfl
  have hp : Try.prog.stoodInHeld 51 = false := by kernel_rfl
  rw [show (10000 : Nat) = 9999 + 1 from rfl, run_equalIn_agg w 9999 51 _ _ hS hp]
  simp only [Program.fieldsOf, Try.underlying51]
  go_simp
  by_cases h1 : a = a' <;> by_cases h2 : b = b' <;> by_cases h3 : c = c' <;> by_cases h4 : d = d' <;> by_cases h5 : s.toList = s'.toList <;> simp [h1, h2, h3, h4, h5]
theorem getR_code {s : ByteArray} (h : ¬ 65536 < s.size) : (getR s).2 = 0 ∨ (getR s).2 = 4 := by
  unfold getR
  rw [if_neg h]
  split
  · exact .inl rfl
  · exact .inr rfl
theorem refGetReply_n (s : ByteArray) (w : World) (hs : s.size ≤ 140737488355328) (x v lo hi : Int) (b : ByteArray) (e : Int) (h : getR s = (⟨x, v, lo, hi, b⟩, e)) :
    Calls Try.prog 19 #[.string s] w fun r w' => r = .returned (.tuple #[.agg #[.int .i64 x, .int .i64 v, .int .i64 lo, .int .i64 hi, .string b], .bool (e == 0)]) ∧ Below w.heap.size w w' := by
  have := refGetReply_any s w hs
  rw [h] at this
  exact this
theorem getReply_m (s : ByteArray) (w : World) (x v lo hi : Int) (b : ByteArray) (e : Int) (h : getR s = (⟨x, v, lo, hi, b⟩, e)) :
    Calls Try.prog 18 #[.string s] w fun r w' => r = .returned (.tuple #[.agg #[.int .i64 x, .int .i64 v, .int .i64 lo, .int .i64 hi, .string b], .int .i64 e]) ∧ Below w.heap.size w w' := by
  have := getReply_any s w
  rw [h] at this
  exact this

set_option maxRecDepth 100000 in
set_option maxHeartbeats 4000000 in
theorem rl_walk (a b c d : Int) (body s : ByteArray) (w : World) (hb : body.size ≤ 140737488355328) (hs : s.size ≤ 140737488355328) :
    Calls Try.prog 5 #[.agg #[.int .i64 a, .int .i64 b, .int .i64 c, .int .i64 d], .string body, .string s] w fun e w' => e = .returned (.bool true) ∧ Below w.heap.size w w' := by
  obtain ⟨S, hS⟩ : ∃ S, (if (Rp.mk a b c d body).ok then restS (Rp.mk a b c d body).head body else ⟨#[]⟩) = S := ⟨_, rfl⟩
  obtain ⟨E, hE⟩ : ∃ E, (if (Rp.mk a b c d body).ok then restC (Rp.mk a b c d body).head body else 4) = E := ⟨_, rfl⟩
  have HS := Lib.hid hS
  have HE := Lib.hid hE
  clear hS hE
  obtain ⟨G, hG⟩ : ∃ G, getR s = G := ⟨_, rfl⟩
  obtain ⟨⟨yx, yv, yl, yh, yb⟩, g⟩ := G
  have HG := Lib.hid hG
  clear hG
  go_enter Try.func5, Try.ntmps5
  go_wp2_with fail
  refine (speaks_any _).mono ?_
  rintro e w1 ⟨rfl, hB1⟩
  have hA1 : w1.heap[w.heap.size]? = some (.cells #[.int .i64 a, .int .i64 b, .int .i64 c, .int .i64 d] 22 (0, 0)) := (hB1.block _ (by simp)).trans (heap_alloc_new w _)
  have HB1 := Lib.hid (((Below.refl _ w).alloc (Nat.le_refl _) (.cells #[.int .i64 a, .int .i64 b, .int .i64 c, .int .i64 d] 22)).trans (hB1.mono (by simp)))
  have HA1 := Lib.hid hA1
  clear hB1
  have x0 : w1.cell? ⟨w.heap.size, 0, none⟩ = some (.int .i64 a) := by rw [cell_of_row w1 _ _ _ _ _ hA1]; rfl
  have x1 : w1.cell? ⟨w.heap.size, 1, none⟩ = some (.int .i64 b) := by rw [cell_of_row w1 _ _ _ _ _ hA1]; rfl
  have x2 : w1.cell? ⟨w.heap.size, 2, none⟩ = some (.int .i64 c) := by rw [cell_of_row w1 _ _ _ _ _ hA1]; rfl
  have x3 : w1.cell? ⟨w.heap.size, 3, none⟩ = some (.int .i64 d) := by rw [cell_of_row w1 _ _ _ _ _ hA1]; rfl
  have lA : w.heap.size < w1.heap.size := (Array.getElem?_eq_some_iff.1 hA1).1
  clear hA1
  go_wp2_with fail
  refine (rep_n ⟨a, b, c, d, body⟩ w1 (by show body.size ≤ _; omega) S E HS.out HE.out).mono ?_
  rintro e w2 ⟨rfl, hB2⟩
  have hA2 := (hB2.block _ lA).trans HA1.out
  have lA2 : w.heap.size < w2.heap.size := by have := hB2.size; omega
  have HB2 := Lib.hid (HB1.out.trans (hB2.mono HB1.out.size))
  have HA2 := Lib.hid hA2
  clear hB2 x0 x1 x2 x3 HB1 HA1 lA
  have x0 : w2.cell? ⟨w.heap.size, 0, none⟩ = some (.int .i64 a) := by rw [cell_of_row w2 _ _ _ _ _ hA2]; rfl
  have x1 : w2.cell? ⟨w.heap.size, 1, none⟩ = some (.int .i64 b) := by rw [cell_of_row w2 _ _ _ _ _ hA2]; rfl
  have x2 : w2.cell? ⟨w.heap.size, 2, none⟩ = some (.int .i64 c) := by rw [cell_of_row w2 _ _ _ _ _ hA2]; rfl
  have x3 : w2.cell? ⟨w.heap.size, 3, none⟩ = some (.int .i64 d) := by rw [cell_of_row w2 _ _ _ _ _ hA2]; rfl
  clear hA2
  go_wp2_with fail
  refine (refPutReply_any ⟨a, b, c, d, body⟩ w2 hb S E HS.out HE.out).mono ?_
  rintro e w3 ⟨rfl, hB3⟩
  have hA3 := (hB3.block _ lA2).trans HA2.out
  have lA3 : w.heap.size < w3.heap.size := by have := hB3.size; omega
  have HB3 := Lib.hid (HB2.out.trans (hB3.mono HB2.out.size))
  have HA3 := Lib.hid hA3
  clear hB3 x0 x1 x2 x3 HB2 HA2 lA2 hA3
  go_upto_if 56 with (fail)
  go_cut [] (fun wc => Below w.heap.size w wc)
  case first =>
    by_cases hE0 : E = 0
    · have hgd : Good ⟨a, b, c, d, body⟩ S := good_of HS.out HE.out hE0 rfl
      have HGT := Lib.hid (good_get hgd)
      clear hgd
      subst hE0
      go_wp2_with fail
      refine (getReply_m S w3 a b c d body 0 HGT.out).mono ?_
      rintro e w4 ⟨rfl, hB4⟩
      have hA4 := (hB4.block _ lA3).trans HA3.out
      have lA4 : w.heap.size < w4.heap.size := by have := hB4.size; omega
      have HB4 := Lib.hid (HB3.out.trans (hB4.mono HB3.out.size))
      have x0 : w4.cell? ⟨w.heap.size, 0, none⟩ = some (.int .i64 a) := by rw [cell_of_row w4 _ _ _ _ _ hA4]; rfl
      have x1 : w4.cell? ⟨w.heap.size, 1, none⟩ = some (.int .i64 b) := by rw [cell_of_row w4 _ _ _ _ _ hA4]; rfl
      have x2 : w4.cell? ⟨w.heap.size, 2, none⟩ = some (.int .i64 c) := by rw [cell_of_row w4 _ _ _ _ _ hA4]; rfl
      have x3 : w4.cell? ⟨w.heap.size, 3, none⟩ = some (.int .i64 d) := by rw [cell_of_row w4 _ _ _ _ _ hA4]; rfl
      clear hA4 hB4
      go_wp2
      go_meet
      exact HB4.out.alloc HB4.out.size _
    · have hb0 : (E == 0) = false := by simpa using hE0
      go_wp2
      go_meet
      exact HB3.out
  case rest =>
    have HB4 := Lib.hid hcut
    clear hcut HB3 HA3 lA3
    go_wp2_with fail
    refine (getReply_m s wc yx yv yl yh yb g HG.out).mono ?_
    rintro e w5 ⟨rfl, hB5⟩
    have HB5 := Lib.hid (HB4.out.trans (hB5.mono HB4.out.size))
    clear hB5 HB4
    obtain ⟨X, hX⟩ : ∃ X, w5.heap.size = X := ⟨_, rfl⟩
    have hY := heap_alloc_new w5 (.cells #[.int .i64 yx, .int .i64 yv, .int .i64 yl, .int .i64 yh, .string yb] 49)
    have HB6 := Lib.hid (HB5.out.alloc HB5.out.size (.cells #[.int .i64 yx, .int .i64 yv, .int .i64 yl, .int .i64 yh, .string yb] 49))
    have lX : w5.heap.size < (w5.alloc (.cells #[.int .i64 yx, .int .i64 yv, .int .i64 yl, .int .i64 yh, .string yb] 49)).heap.size := by simp
    go_wp2_with fail
    generalize (w5.alloc (.cells #[.int .i64 yx, .int .i64 yv, .int .i64 yl, .int .i64 yh, .string yb] 49)) = W6 at *
    rw [hX] at hY lX
    have HY := Lib.hid hY
    clear hY hX
    refine (refGetReply_n s W6 hs yx yv yl yh yb g HG.out).mono ?_
    rintro e w7 ⟨rfl, hB7⟩
    have hY7 : RpAt w7 X ⟨yx, yv, yl, yh, yb⟩ := (hB7.block _ lX).trans HY.out
    have lX7 : X < w7.heap.size := by have := hB7.size; omega
    have HB7 := Lib.hid (HB6.out.trans (hB7.mono HB6.out.size))
    obtain ⟨x0, x1, x2, x3, x4⟩ := hY7.all
    dsimp only at x0 x1 x2 x3 x4
    clear hB7 hY7
    by_cases hl : 65536 < s.size
    · have hg : getR s = (⟨0, 0, 0, 0, ⟨#[]⟩⟩, 2) := if_pos hl
      rw [HG.out] at hg
      simp only [Prod.mk.injEq, Rp.mk.injEq] at hg
      obtain ⟨⟨rfl, rfl, rfl, rfl, rfl⟩, rfl⟩ := hg
      have hd : decide ((65536 : Int) < (s.size : Int)) = true := decide_eq_true (by omega)
      go_wp2
      go_ret
      exact ⟨rfl, HB7.out.alloc HB7.out.size _⟩
    · have hd : decide ((65536 : Int) < (s.size : Int)) = false := decide_eq_false (by omega)
      have hc := getR_code hl
      rw [HG.out] at hc
      dsimp only at hc
      rcases hc with rfl | rfl
      · go_wp2
        go_ret
        exact ⟨by simp, HB7.out.alloc HB7.out.size _⟩
      · go_wp2
        go_ret
        exact ⟨by simp, HB7.out.alloc HB7.out.size _⟩
end Go.Proofs.Ytkbjimbnbocfpaa
