/-
  RpcRefuses' walk: it answers true, and makes new blocks alone. No condition.
-/
import Derived.Test.YtkbjimbnbocfpaaRf
import Derived.Deep.QuietTactic
import Derived.BigQuiet
import Derived.WalkSmall
namespace Go.Proofs.Ytkbjimbnbocfpaa
open Go.RowKit
theorem getReply_n (s : ByteArray) (w : World) (x v lo hi : Int) (b : ByteArray) (e : Int) (h : getR s = (⟨x, v, lo, hi, b⟩, e)) :
    Calls Try.prog 18 #[.string s] w fun r w' => r = .returned (.tuple #[.agg #[.int .i64 x, .int .i64 v, .int .i64 lo, .int .i64 hi, .string b], .int .i64 e]) ∧ Below w.heap.size w w' := by
  have := getReply_any s w
  rw [h] at this
  exact this
theorem getO_err {s : ByteArray} {e : Int} (h : getO s = .err e) : e ≠ 62 := by
  unfold getO at h
  dsimp only at h
  split at h
  · simp only [Gco.err.injEq] at h; omega
  · split at h
    · simp only [Gco.err.injEq] at h; omega
    · split at h
      · simp only [Gco.err.injEq] at h; omega
      · split at h <;> cases h
set_option maxRecDepth 100000 in
set_option maxHeartbeats 1000000 in
theorem ref_walk (s : ByteArray) (w : World) :
    Calls Try.prog 6 #[.string s] w fun e w' => e = .returned (.bool true) ∧ Below w.heap.size w w' := by
  go_enter Try.func6, Try.ntmps6
  go_wp2_with fail
  refine (speaks_any _).mono ?_
  rintro e w1 ⟨rfl, hB1⟩
  have HB1 := Lib.hid hB1
  clear hB1
  go_wp2_with fail
  generalize hg : getO s = g
  have h := getCall_any s w1
  rw [hg] at h
  have HG := Lib.hid hg
  clear hg
  refine h.mono ?_
  clear h
  cases g with
  | err e =>
    rintro r w2 ⟨rfl, hB2⟩
    have he : (e != 62) = true := by simpa using getO_err HG.out
    have HB2 := Lib.hid (HB1.out.trans (hB2.mono HB1.out.size))
    clear hB2
    go_wp2
    go_ret
    exact ⟨rfl, HB2.out.alloc HB2.out.size _⟩
  | ok xid prog vers proc unix st m uid gid G args =>
    rintro r w2 ⟨vg, rfl, ho, hB2⟩
    obtain ⟨vo, va, vc, rfl⟩ := owned_slice ho
    have HB2 := Lib.hid (HB1.out.trans (hB2.mono HB1.out.size))
    clear hB2 ho
    go_wp2
    go_ret
    exact ⟨rfl, HB2.out.alloc HB2.out.size _⟩
  | ref xid v lo hi =>
    rintro r w2 ⟨rfl, hB2⟩
    obtain ⟨q1, q2, q3⟩ := refs_get HG.out
    obtain ⟨h8, _, hx, hr⟩ := get_refs HG.out
    have HB2 := Lib.hid (HB1.out.trans (hB2.mono HB1.out.size))
    clear hB2
    generalize (Rp.mk xid v lo hi ⟨#[]⟩).bytes = T at *
    have Q1 := Lib.hid q1
    have HR := Lib.hid hr
    clear q1 hr
    go_wp2_with fail
    refine (getReply_n T _ xid v lo hi ⟨#[]⟩ 0 Q1.out).mono ?_
    rintro r w3 ⟨rfl, hB3⟩
    have HB3 := Lib.hid ((HB2.out.alloc HB2.out.size (.cells #[.int .i64 0, .int .i64 0, .int .i64 0, .int .i64 0, .bool false, .int .i64 0, .string ⟨#[]⟩, .int .i64 0, .int .i64 0, .slice none 0 0, .string ⟨#[]⟩] 30)).trans (hB3.mono (by have := HB2.out.size; simp; omega)))
    clear hB3 HB2 HB1
    have hd8 : decide ((8 : Int) ≤ (s.size : Int)) = true := decide_eq_true (by omega)
    have h4s : 4 ≤ s.size := by omega
    have hb : v = 6 ∨ v = 4 ∨ v = 7 := by have := HR.out; unfold Refs at this; omega
    rcases hb with rfl | rfl | rfl
    · go_wp2_with fail
      go_quiet (fail)
      go_wp2
      go_ret
      exact ⟨by simp, below_drewN (HB3.out.alloc HB3.out.size _) _⟩
    · go_wp2_with fail
      go_quiet (fail)
      go_wp2
      go_ret
      exact ⟨by simp, below_drewN (HB3.out.alloc HB3.out.size _) _⟩
    · go_wp2_with fail
      go_quiet (fail)
      go_wp2
      go_ret
      exact ⟨by simp, below_drewN (HB3.out.alloc HB3.out.size _) _⟩
end Go.Proofs.Ytkbjimbnbocfpaa
