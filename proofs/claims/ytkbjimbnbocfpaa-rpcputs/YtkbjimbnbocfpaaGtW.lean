/-
  RpcGets' walk: it answers true, and makes new blocks alone. No condition.
-/
import Derived.Test.YtkbjimbnbocfpaaRgc
import Derived.Test.YtkbjimbnbocfpaaIv
import Derived.Test.YtkbjimbnbocfpaaSa
import Derived.Test.YtkbjimbnbocfpaaPv
namespace Go.Proofs.Ytkbjimbnbocfpaa
open Go.RowKit
theorem ints_of_own {w : World} {vg : Value} {G : List Int} (h : w.ownsRow 0 3 1 vg G.length (ints G)) : ∃ ao cap, vg = .slice ao G.length cap ∧ IntsAt w ao G ∧ G.length ≤ cap ∧ ∀ g off, ao = some ⟨g, off, none⟩ → g < w.heap.size := by
  have hh := h
  rcases h.2 with ⟨rfl, h0⟩ | ⟨g, cap, cur, rfl, _, hg, hnc, hcm, hcs, htake⟩
  · have hz : G = [] := List.eq_nil_of_length_eq_zero h0
    subst hz
    exact ⟨none, 0, rfl, fun i hi => absurd hi (by simp), by simp, by intro g off e; cases e⟩
  · have hlt : g < w.heap.size := (Array.getElem?_eq_some_iff.1 hg).1
    refine ⟨some ⟨g, 0, none⟩, cap, rfl, fun i hi => ⟨g, 0, rfl, hlt, ?_⟩, hnc, ?_⟩
    · have := hh.cells (g := g) rfl i (.int .i64 G[i]) (by simp [ints, List.getElem?_eq_getElem hi])
      rw [Nat.zero_add]
      by_cases h0 : i = 0
      · subst h0; simpa [Addr.add] using this
      · simpa [Addr.add, h0] using this
    · intro g' off e
      simp only [Option.some.injEq, Addr.mk.injEq, and_true] at e
      omega
theorem grp_small {s : ByteArray} {xid prog vers proc : Int} {unix : Bool} {st : Int} {m : ByteArray} {uid gid : Int} {G : List Int} {args : ByteArray} (h : getO s = .ok xid prog vers proc unix st m uid gid G args) : G.length ≤ 16 ∧ args.size ≤ 65536 := by
  obtain ⟨h1, h2, h3⟩ := getO_took h
  refine ⟨?_, ?_⟩
  · unfold Cl.ok at h1
    cases unix
    · simp [Cl.zero] at h1
      rw [h1.2.2]; simp
    · simp at h1
      exact h1.2.1.2
  · unfold restC at h2
    split at h2
    · omega
    · omega
theorem getO_err0 {s : ByteArray} {e : Int} (h : getO s = .err e) : e ≠ 0 := by
  unfold getO at h
  dsimp only at h
  split at h
  · simp only [Gco.err.injEq] at h; omega
  · split at h
    · simp only [Gco.err.injEq] at h; omega
    · split at h
      · simp only [Gco.err.injEq] at h; omega
      · split at h <;> cases h
theorem plain_head (c : Cl) (h : c.unix = false) : c.headP = c.head := by
  unfold Cl.headP Cl.head
  rw [h]
  simp
/-- PutCall of a call that can be laid out. -/
theorem put_back (c : Cl) (ao : Option Addr) (cap : Nat) (w : World) (hI : IntsAt w ao c.groups) (hao : ∀ g off, ao = some ⟨g, off, none⟩ → g < w.heap.size) (hG : c.groups.length ≤ 140737488355328) (hs : c.args.size ≤ 9223372036854700000) (ho : c.ok = true) (s : ByteArray) (hc : restC c.head c.args = 0) (hS : restS c.head c.args = s) :
    Calls Try.prog 11 #[.agg (c.cells (.slice ao c.groups.length cap))] w fun e w' => e = .returned (.tuple #[.string s, .int .i64 0]) ∧ Below w.heap.size w w' := by
  cases hu : c.unix with
  | false =>
    have h := putCall_plain c ao cap w hu hs
    rw [if_pos ho, if_pos ho, plain_head c hu, hc, hS] at h
    unfold Cl.cells
    rw [hu]
    exact h
  | true =>
    have h := putCall_unix c ao cap w hu hI hao hG hs s 0 (by rw [if_pos ho]; exact hS) (by rw [if_pos ho]; exact hc)
    unfold Cl.cells
    rw [hu]
    exact h
set_option maxRecDepth 100000 in
set_option maxHeartbeats 4000000 in
theorem gets_walk (s : ByteArray) (w : World) : Calls Try.prog 4 #[.string s] w fun e w' => e = .returned (.bool true) ∧ Below w.heap.size w w' := by
  go_enter Try.func4, Try.ntmps4
  go_wp2_with fail
  refine (speaks_any _).mono ?_
  rintro e w1 ⟨rfl, hB1⟩
  have HB1 := Lib.hid hB1
  clear hB1
  go_wp2_with fail
  generalize hg : getO s = g
  have h := getCall_any s w1
  rw [hg] at h
  have HG := Lib.hid hg
  clear hg
  refine h.mono ?_
  clear h
  cases g with
  | err e =>
    have he : (e != 0) = true := by simpa using getO_err0 HG.out
    rintro r w2 ⟨rfl, hB2⟩
    have HB2 := Lib.hid (HB1.out.trans (hB2.mono HB1.out.size))
    clear hB2 HB1
    have hX := heap_alloc_new w2 (.cells #[.int .i64 0, .int .i64 0, .int .i64 0, .int .i64 0, .bool false, .int .i64 0, .string ⟨#[]⟩, .int .i64 0, .int .i64 0, (.slice none 0 0), .string ⟨#[]⟩] 30)
    have lX : w2.heap.size < (w2.alloc (.cells #[.int .i64 0, .int .i64 0, .int .i64 0, .int .i64 0, .bool false, .int .i64 0, .string ⟨#[]⟩, .int .i64 0, .int .i64 0, (.slice none 0 0), .string ⟨#[]⟩] 30)).heap.size := by simp
    have HB3 := Lib.hid (HB2.out.alloc HB2.out.size (.cells #[.int .i64 0, .int .i64 0, .int .i64 0, .int .i64 0, .bool false, .int .i64 0, .string ⟨#[]⟩, .int .i64 0, .int .i64 0, (.slice none 0 0), .string ⟨#[]⟩] 30))
    go_wp2_with fail
    generalize hW3 : (w2.alloc (.cells #[.int .i64 0, .int .i64 0, .int .i64 0, .int .i64 0, .bool false, .int .i64 0, .string ⟨#[]⟩, .int .i64 0, .int .i64 0, (.slice none 0 0), .string ⟨#[]⟩] 30)) = W3 at *
    have hX' : CAt W3 w2.heap.size 0 0 0 0 false 0 ⟨#[]⟩ 0 0 (.slice none 0 0) ⟨#[]⟩ := hX
    have HX := Lib.hid hX'
    clear hX hX'
    clear hW3
    have h2 := refGetCall_any s W3
    rw [HG.out] at h2
    refine h2.mono ?_
    clear h2
    rintro r w4 ⟨rfl, hB4⟩
    have hX4 : CAt w4 w2.heap.size 0 0 0 0 false 0 ⟨#[]⟩ 0 0 (.slice none 0 0) ⟨#[]⟩ := (hB4.block _ lX).trans HX.out
    have n4 : W3.heap.size ≤ w4.heap.size := hB4.size
    have HB4 := Lib.hid (HB3.out.trans (hB4.mono HB3.out.size))
    have lX4 : w2.heap.size < w4.heap.size := by omega
    obtain ⟨z0, z1, z2, z3, z4, z5, z6, z7, z8, z9, z10⟩ := hX4.all
    have HX4 := Lib.hid hX4
    clear hB4 hX4 HX HB3
    go_wp2_with fail
    refine (same_any ⟨0, 0, 0, 0, false, 0, ⟨#[]⟩, 0, 0, [], ⟨#[]⟩⟩ none none 0 0 _ (fun i hi => absurd hi (by simp)) (fun i hi => absurd hi (by simp)) (by decide) (by decide) (by decide)).mono ?_
    rintro r w5 ⟨rfl, hB5⟩
    have HB5 := Lib.hid ((HB4.out.alloc HB4.out.size (.cells #[.int .i64 0, .int .i64 0, .int .i64 0, .int .i64 0, .bool false, .int .i64 0, .string ⟨#[]⟩, .int .i64 0, .int .i64 0, (.slice none 0 0), .string ⟨#[]⟩] 32)).trans (hB5.mono (by have := HB4.out.size; simp; omega)))
    clear hB5
    go_wp2
    go_ret
    exact ⟨rfl, HB5.out⟩
  | ref xid v lo hi =>
    generalize (Rp.mk xid v lo hi ⟨#[]⟩).bytes = T at *
    rintro r w2 ⟨rfl, hB2⟩
    have HB2 := Lib.hid (HB1.out.trans (hB2.mono HB1.out.size))
    clear hB2 HB1
    have hX := heap_alloc_new w2 (.cells #[.int .i64 0, .int .i64 0, .int .i64 0, .int .i64 0, .bool false, .int .i64 0, .string ⟨#[]⟩, .int .i64 0, .int .i64 0, (.slice none 0 0), .string ⟨#[]⟩] 30)
    have lX : w2.heap.size < (w2.alloc (.cells #[.int .i64 0, .int .i64 0, .int .i64 0, .int .i64 0, .bool false, .int .i64 0, .string ⟨#[]⟩, .int .i64 0, .int .i64 0, (.slice none 0 0), .string ⟨#[]⟩] 30)).heap.size := by simp
    have HB3 := Lib.hid (HB2.out.alloc HB2.out.size (.cells #[.int .i64 0, .int .i64 0, .int .i64 0, .int .i64 0, .bool false, .int .i64 0, .string ⟨#[]⟩, .int .i64 0, .int .i64 0, (.slice none 0 0), .string ⟨#[]⟩] 30))
    go_wp2_with fail
    generalize hW3 : (w2.alloc (.cells #[.int .i64 0, .int .i64 0, .int .i64 0, .int .i64 0, .bool false, .int .i64 0, .string ⟨#[]⟩, .int .i64 0, .int .i64 0, (.slice none 0 0), .string ⟨#[]⟩] 30)) = W3 at *
    have hX' : CAt W3 w2.heap.size 0 0 0 0 false 0 ⟨#[]⟩ 0 0 (.slice none 0 0) ⟨#[]⟩ := hX
    have HX := Lib.hid hX'
    clear hX hX'
    clear hW3
    have h2 := refGetCall_any s W3
    rw [HG.out] at h2
    refine h2.mono ?_
    clear h2
    rintro r w4 ⟨rfl, hB4⟩
    have hX4 : CAt w4 w2.heap.size 0 0 0 0 false 0 ⟨#[]⟩ 0 0 (.slice none 0 0) ⟨#[]⟩ := (hB4.block _ lX).trans HX.out
    have n4 : W3.heap.size ≤ w4.heap.size := hB4.size
    have HB4 := Lib.hid (HB3.out.trans (hB4.mono HB3.out.size))
    have lX4 : w2.heap.size < w4.heap.size := by omega
    obtain ⟨z0, z1, z2, z3, z4, z5, z6, z7, z8, z9, z10⟩ := hX4.all
    have HX4 := Lib.hid hX4
    clear hB4 hX4 HX HB3
    go_wp2_with fail
    refine (same_any ⟨0, 0, 0, 0, false, 0, ⟨#[]⟩, 0, 0, [], ⟨#[]⟩⟩ none none 0 0 _ (fun i hi => absurd hi (by simp)) (fun i hi => absurd hi (by simp)) (by decide) (by decide) (by decide)).mono ?_
    rintro r w5 ⟨rfl, hB5⟩
    have HB5 := Lib.hid ((HB4.out.alloc HB4.out.size (.cells #[.int .i64 0, .int .i64 0, .int .i64 0, .int .i64 0, .bool false, .int .i64 0, .string ⟨#[]⟩, .int .i64 0, .int .i64 0, (.slice none 0 0), .string ⟨#[]⟩] 32)).trans (hB5.mono (by have := HB4.out.size; simp; omega)))
    clear hB5
    go_wp2
    go_ret
    exact ⟨rfl, HB5.out⟩
  | ok xid prog vers proc unix st m uid gid G args =>
    have HT := Lib.hid (getO_took HG.out)
    obtain ⟨hgs, has⟩ := grp_small HG.out
    rintro r w2 ⟨vg, rfl, ho, hB2⟩
    obtain ⟨ao, cap, rfl, hI2, hc2, hao⟩ := ints_of_own ho
    have HB2 := Lib.hid (HB1.out.trans (hB2.mono HB1.out.size))
    clear hB2 HB1
    have HI2 := Lib.hid hI2
    have HAO := Lib.hid hao
    clear hI2 ho hao
    have hX := heap_alloc_new w2 (.cells #[.int .i64 xid, .int .i64 prog, .int .i64 vers, .int .i64 proc, .bool unix, .int .i64 st, .string m, .int .i64 uid, .int .i64 gid, (.slice ao G.length cap), .string args] 30)
    have lX : w2.heap.size < (w2.alloc (.cells #[.int .i64 xid, .int .i64 prog, .int .i64 vers, .int .i64 proc, .bool unix, .int .i64 st, .string m, .int .i64 uid, .int .i64 gid, (.slice ao G.length cap), .string args] 30)).heap.size := by simp
    have HB3 := Lib.hid (HB2.out.alloc HB2.out.size (.cells #[.int .i64 xid, .int .i64 prog, .int .i64 vers, .int .i64 proc, .bool unix, .int .i64 st, .string m, .int .i64 uid, .int .i64 gid, (.slice ao G.length cap), .string args] 30))
    have HI3 := Lib.hid (HI2.out.alloc (.cells #[.int .i64 xid, .int .i64 prog, .int .i64 vers, .int .i64 proc, .bool unix, .int .i64 st, .string m, .int .i64 uid, .int .i64 gid, (.slice ao G.length cap), .string args] 30))
    go_wp2_with fail
    generalize hW3 : (w2.alloc (.cells #[.int .i64 xid, .int .i64 prog, .int .i64 vers, .int .i64 proc, .bool unix, .int .i64 st, .string m, .int .i64 uid, .int .i64 gid, (.slice ao G.length cap), .string args] 30)) = W3 at *
    have hX' : CAt W3 w2.heap.size xid prog vers proc unix st m uid gid (.slice ao G.length cap) args := hX
    have HX := Lib.hid hX'
    clear hX hX'
    have l23 : w2.heap.size ≤ W3.heap.size := by omega
    clear hW3
    have h2 := refGetCall_any s W3
    rw [HG.out] at h2
    refine h2.mono ?_
    clear h2
    rintro r w4 ⟨vg2, rfl, ho2, hB4⟩
    obtain ⟨bo, cap', rfl, hI4, hc4, hbo⟩ := ints_of_own ho2
    have HI4 := Lib.hid (HI3.out.below hB4)
    have HJ4 := Lib.hid hI4
    clear ho2 hI4 hbo
    have hX4 : CAt w4 w2.heap.size xid prog vers proc unix st m uid gid (.slice ao G.length cap) args := (hB4.block _ lX).trans HX.out
    have n4 : W3.heap.size ≤ w4.heap.size := hB4.size
    have HB4 := Lib.hid (HB3.out.trans (hB4.mono HB3.out.size))
    have lX4 : w2.heap.size < w4.heap.size := by omega
    obtain ⟨z0, z1, z2, z3, z4, z5, z6, z7, z8, z9, z10⟩ := hX4.all
    have HX4 := Lib.hid hX4
    clear hB4 hX4 HX HB3
    go_wp2_with fail
    refine (same_any ⟨xid, prog, vers, proc, unix, st, m, uid, gid, G, args⟩ ao bo cap cap' _ (HI4.out.alloc _) (HJ4.out.alloc _) (by show G.length ≤ _; omega) hc2 hc4).mono ?_
    rintro r w5 ⟨rfl, hB5⟩
    have HB5 := Lib.hid ((HB4.out.alloc HB4.out.size (.cells #[.int .i64 xid, .int .i64 prog, .int .i64 vers, .int .i64 proc, .bool unix, .int .i64 st, .string m, .int .i64 uid, .int .i64 gid, (.slice bo G.length cap'), .string args] 32)).trans (hB5.mono (by have := HB4.out.size; simp; omega)))
    have hX5 : CAt w5 w2.heap.size xid prog vers proc unix st m uid gid (.slice ao G.length cap) args := (hB5.block _ (by simp; omega)).trans (((World.grownBy_alloc _ _ none).block w2.heap.size lX4 (by simp)).trans HX4.out)
    have HI5 := Lib.hid ((HI4.out.alloc (.cells #[.int .i64 xid, .int .i64 prog, .int .i64 vers, .int .i64 proc, .bool unix, .int .i64 st, .string m, .int .i64 uid, .int .i64 gid, (.slice bo G.length cap'), .string args] 32)).below hB5)
    have n5 : w2.heap.size ≤ w5.heap.size := by have := hB5.size; simp at this; omega
    clear hB5 z0 z1 z2 z3 z4 z5 z6 z7 z8 z9 z10
    obtain ⟨z0, z1, z2, z3, z4, z5, z6, z7, z8, z9, z10⟩ := hX5.all
    clear hX5
    go_wp2_with fail
    refine (put_back ⟨xid, prog, vers, proc, unix, st, m, uid, gid, G, args⟩ ao cap w5 HI5.out (fun g off e => by have := HAO.out g off e; omega) (by show G.length ≤ _; omega) (by show args.size ≤ _; omega) HT.out.1 s HT.out.2.1 HT.out.2.2).mono ?_
    rintro r w6 ⟨rfl, hB6⟩
    have HB6 := Lib.hid (HB5.out.trans (hB6.mono HB5.out.size))
    clear hB6
    go_wp2
    go_ret
    exact ⟨by simp, HB6.out⟩
end Go.Proofs.Ytkbjimbnbocfpaa
