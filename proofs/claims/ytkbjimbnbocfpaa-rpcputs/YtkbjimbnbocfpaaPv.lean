/-
  PutCall of a call with an AUTH_SYS credential, whole. Its conditions: the groups lie in memory, the texts are of a length that a machine has.
-/
import Derived.Test.YtkbjimbnbocfpaaPu
import Derived.Test.YtkbjimbnbocfpaaRef
namespace Go.Proofs.Ytkbjimbnbocfpaa
open Go.RowKit
/-- A writer at work beside a call in its box and the call's groups. -/
structure Uw (w : World) (B p : Nat) (ao : Option Addr) (G : List Int) (cs : Array Value) (v : Value) (l : List UInt8) (wc : World) : Prop where
  wr : Wr wc p v l
  box : wc.heap[B]? = some (.cells cs 30 (0, 0))
  ints : IntsAt wc ao G
  low : Below w.heap.size w wc
  own : ∀ k, v.ownBlock = some k → w.heap.size ≤ k
theorem Uw.below {w wc w' : World} {B p : Nat} {ao : Option Addr} {G : List Int} {cs : Array Value} {v : Value} {l : List UInt8} (h : Uw w B p ao G cs v l wc) (hb : Below wc.heap.size wc w') : Uw w B p ao G cs v l w' :=
  ⟨h.wr.below hb, (hb.block _ (Array.getElem?_eq_some_iff.1 h.box).1).trans h.box, h.ints.below hb, h.low.trans (hb.mono h.low.size), h.own⟩
theorem Uw.alloc {w wc : World} {B p : Nat} {ao : Option Addr} {G : List Int} {cs : Array Value} {v : Value} {l : List UInt8} (h : Uw w B p ao G cs v l wc) (o : Obj) : Uw w B p ao G cs v l (wc.alloc o) := h.below ((Below.refl _ _).alloc (Nat.le_refl _) o)
theorem Uw.step {w wc w' : World} {B p : Nat} {ao : Option Addr} {G : List Int} {cs : Array Value} {v : Value} {l l' : List UInt8} (h : Uw w B p ao G cs v l wc) (hp : w.heap.size ≤ p) (hao : ∀ g off, ao = some ⟨g, off, none⟩ → g < w.heap.size)
    (ht : WrTo wc p v l' w') : ∃ v', Uw w B p ao G cs v' l' w' := by
  obtain ⟨v', hw, hc⟩ := ht
  have hs := h.low.size
  refine ⟨v', hw, h.wr.far hc h.box (by decide), h.ints.kept hc ?_, h.low.trans (hc.below hs hp h.own), ?_⟩
  · intro g off e
    have h1 := hao g off e
    exact ⟨by omega, fun e2 => by have := h.own g e2.symm; omega⟩
  · intro k hk
    rcases hc.own with e | ⟨g, e, hg⟩
    · rw [e] at hk; exact h.own k hk
    · rw [e] at hk
      have : g = k := by simpa using hk
      omega
section
variable {w wc : World} {B p : Nat} {ao : Option Addr} {G : List Int} {cs : Array Value} {v : Value} {l : List UInt8}
theorem uint_u (h : Uw w B p ao G cs v l wc) (hp : w.heap.size ≤ p) (hao : ∀ g off, ao = some ⟨g, off, none⟩ → g < w.heap.size) (n : Int) (hb : l.length ≤ 1000000) :
    Calls Try.prog 22 #[.pointer (some ⟨p, 0, none⟩), .int .i64 n] wc fun e w' => e = .returned (.tuple #[]) ∧ ∃ v', Uw w B p ao G cs v' (l ++ numBytes n 4) w' :=
  (uint_any p v l n wc h.wr (by omega)).mono fun _ _ ⟨a, b⟩ => ⟨a, h.step hp hao b⟩
theorem opaque_u (h : Uw w B p ao G cs v l wc) (hp : w.heap.size ≤ p) (hao : ∀ g off, ao = some ⟨g, off, none⟩ → g < w.heap.size) (s : ByteArray) (hb : l.length ≤ 1000000) (hs : s.size ≤ 1000000) :
    Calls Try.prog 23 #[.pointer (some ⟨p, 0, none⟩), .string s] wc fun e w' => e = .returned (.tuple #[]) ∧ ∃ v', Uw w B p ao G cs v' (l ++ opaqueOf s) w' :=
  (opaque_any p v l s wc h.wr (by omega)).mono fun _ _ ⟨a, b⟩ => ⟨a, h.step hp hao b⟩
theorem putU_u (h : Uw w B p ao G cs v l wc) (hp : w.heap.size ≤ p) (hao : ∀ g off, ao = some ⟨g, off, none⟩ → g < w.heap.size) (L : List Int) (n : Nat) (hn : L.length = n) (bo : Option Addr) (cap : Nat) (hI : IntsAt wc bo L) (hbo : ∀ g off, bo = some ⟨g, off, none⟩ → g ≠ p ∧ some g ≠ v.ownBlock) (hb : l.length ≤ 1000000) (hL : n ≤ 1000000) :
    Calls Try.prog 21 #[.pointer (some ⟨p, 0, none⟩), .slice bo n cap] wc fun e w' => e = .returned (.tuple #[]) ∧ ∃ v', Uw w B p ao G cs v' (l ++ putU L) w' :=
  (putU_n p v l L n hn bo cap wc h.wr hI hbo (by omega)).mono fun _ _ ⟨a, b⟩ => ⟨a, h.step hp hao b⟩
end

set_option maxRecDepth 100000 in
set_option maxHeartbeats 2000000 in
theorem unixBytes_any (c : Cl) (ao : Option Addr) (cap : Nat) (w : World) (hI : IntsAt w ao c.groups) (hao : ∀ g off, ao = some ⟨g, off, none⟩ → g < w.heap.size) (hm : c.mach.size ≤ 255) (hG : c.groups.length ≤ 16) (u : Bool) (S : ByteArray) (hS : (⟨c.cred.toArray⟩ : ByteArray) = S) :
    Calls Try.prog 24 #[.agg #[.int .i64 c.xid, .int .i64 c.prog, .int .i64 c.vers, .int .i64 c.proc, .bool u, .int .i64 c.stamp, .string c.mach, .int .i64 c.uid, .int .i64 c.gid, .slice ao c.groups.length cap, .string c.args]] w
      fun e w' => e = .returned (.string S) ∧ Below w.heap.size w w' := by
  obtain ⟨xid, prog, vers, proc, unix, stamp, mach, uid, gid, G, args⟩ := c
  dsimp only at hI hm hG ⊢
  have hcred : ([] ++ numBytes stamp 4 ++ opaqueOf mach ++ putU [uid, gid, (G.length : Int)] ++ putU G) = (Cl.mk xid prog vers proc unix stamp mach uid gid G args).cred := rfl
  have HC := Lib.hid hcred
  have HS := Lib.hid hS
  have HAO := Lib.hid hao
  clear hcred hS hao
  have hol := opaqueOf_length mach
  have hpl := pad_lt mach.size
  have l1 := numBytes_length stamp 4
  have l2 := putU_length [uid, gid, (G.length : Int)]
  simp only [List.length_cons, List.length_nil] at l2
  have hU0 : Uw w w.heap.size (w.heap.size + 1) ao G #[.int .i64 xid, .int .i64 prog, .int .i64 vers, .int .i64 proc, .bool u, .int .i64 stamp, .string mach, .int .i64 uid, .int .i64 gid, .slice ao G.length cap, .string args] (.slice none 0 0) []
      ((w.alloc (.cells #[.int .i64 xid, .int .i64 prog, .int .i64 vers, .int .i64 proc, .bool u, .int .i64 stamp, .string mach, .int .i64 uid, .int .i64 gid, .slice ao G.length cap, .string args] 30)).alloc (.cells #[.slice none 0 0] 63)) := by
    refine ⟨?_, ?_, (hI.alloc _).alloc _, ((Below.refl _ w).alloc (Nat.le_refl _) _).alloc (by simp) _, by intro k hk; simp [Value.ownBlock] at hk⟩
    · have := Wr.new (w.alloc (.cells #[.int .i64 xid, .int .i64 prog, .int .i64 vers, .int .i64 proc, .bool u, .int .i64 stamp, .string mach, .int .i64 uid, .int .i64 gid, .slice ao G.length cap, .string args] 30))
      simpa using this
    · exact ((World.grownBy_alloc _ _ none).block w.heap.size (by simp) (by simp)).trans (heap_alloc_new w _)
  clear hI
  go_enter Try.func24, Try.ntmps24
  go_wp2_with fail
  generalize ((w.alloc (.cells #[.int .i64 xid, .int .i64 prog, .int .i64 vers, .int .i64 proc, .bool u, .int .i64 stamp, .string mach, .int .i64 uid, .int .i64 gid, .slice ao G.length cap, .string args] 30)).alloc (.cells #[.slice none 0 0] 63)) = W0 at *
  refine (uint_u hU0 (by omega) HAO.out stamp (by simp)).mono ?_
  rintro e w1 ⟨rfl, v1, hU1⟩
  clear hU0
  have HU1 := Lib.hid hU1
  have f6 : w1.cell? ⟨w.heap.size, 6, none⟩ = some (.string mach) := by rw [cell_of_row w1 _ _ _ _ _ hU1.box]; rfl
  clear hU1
  go_wp2_with fail
  refine (opaque_u HU1.out (by omega) HAO.out mach (by simp; omega) (by omega)).mono ?_
  rintro e w2 ⟨rfl, v2, hU2⟩
  clear f6
  have f7 : w2.cell? ⟨w.heap.size, 7, none⟩ = some (.int .i64 uid) := by rw [cell_of_row w2 _ _ _ _ _ hU2.box]; rfl
  have f8 : w2.cell? ⟨w.heap.size, 8, none⟩ = some (.int .i64 gid) := by rw [cell_of_row w2 _ _ _ _ _ hU2.box]; rfl
  have f9 : w2.cell? ⟨w.heap.size, 9, none⟩ = some (.slice ao G.length cap) := by rw [cell_of_row w2 _ _ _ _ _ hU2.box]; rfl
  have n2 := hU2.wr.lt
  have hown2 : ∀ k, v2.ownBlock = some k → k < w2.heap.size := fun k hk => hU2.wr.own_lt hk
  have HU2 := Lib.hid hU2
  have HO2 := Lib.hid hown2
  clear hU2 HU1 hown2
  go_wp2_with fail
  refine (putU_u (HU2.out.alloc _) (by omega) HAO.out [uid, gid, (G.length : Int)] 3 rfl (some ⟨w2.heap.size, 0, none⟩) 3 (built3 w2 _ rfl _ _ _) (by intro g off e; simp only [Option.some.injEq, Addr.mk.injEq, and_true] at e; obtain ⟨e1, _⟩ := e; exact ⟨by omega, fun e2 => by have := HO2.out g e2.symm; omega⟩) (by simp only [List.length_append, List.length_nil]; omega) (by omega)).mono ?_
  rintro e w3 ⟨rfl, v3, hU3⟩
  have f9' : w3.cell? ⟨w.heap.size, 9, none⟩ = some (.slice ao G.length cap) := by rw [cell_of_row w3 _ _ _ _ _ hU3.box]; rfl
  have HU3 := Lib.hid hU3
  clear hU3 HU2 HO2 f7 f8 f9
  go_wp2_with fail
  refine (putU_u HU3.out (by omega) HAO.out G G.length rfl ao cap HU3.out.ints (by intro g off e; have h1 := HAO.out g off e; exact ⟨by omega, fun e2 => by have := HU3.out.own g e2.symm; omega⟩) (by simp only [List.length_append, List.length_nil]; omega) (by omega)).mono ?_
  rintro e w4 ⟨rfl, v4, hU4⟩
  have HU4 := Lib.hid hU4
  clear hU4 HU3 f9'
  go_wp2_with fail
  refine (bytes_any (w.heap.size + 1) v4 _ w4 HU4.out.wr).mono ?_
  rintro e w5 ⟨rfl, rfl⟩
  go_wp2
  go_ret
  exact ⟨ret_str (by rw [← HS.out, ← HC.out]; simp), HU4.out.low⟩
theorem cred_length (c : Cl) (hm : c.mach.size ≤ 255) (hG : c.groups.length ≤ 16) : c.cred.length ≤ 340 := by
  have h1 := opaqueOf_length c.mach
  have h2 := pad_lt c.mach.size
  have h3 : pad c.mach.size + c.mach.size ≤ 256 := by unfold pad; omega
  unfold Cl.cred
  simp only [List.length_append, numBytes_length, putU_length, List.length_cons, List.length_nil]
  omega
theorem head_length (c : Cl) (hm : c.mach.size ≤ 255) (hG : c.groups.length ≤ 16) : c.head.length ≤ 400 := by
  have h1 := cred_length c hm hG
  have h2 := opaqueOf_length ⟨c.cred.toArray⟩
  have h3 := pad_lt c.cred.length
  have h4 : (⟨c.cred.toArray⟩ : ByteArray).size = c.cred.length := by show c.cred.toArray.size = _; simp
  rw [h4] at h2
  unfold Cl.head
  cases c.unix
  · simp only [List.length_append, numBytes_length, putU_length, List.length_cons, List.length_nil, opaque_nil, Bool.false_eq_true, if_false]
    omega
  · simp only [List.length_append, numBytes_length, putU_length, List.length_cons, List.length_nil, opaque_nil, if_true]
    omega

set_option maxRecDepth 100000 in
set_option maxHeartbeats 2000000 in
theorem putCall_unix (c : Cl) (ao : Option Addr) (cap : Nat) (w : World) (hu : c.unix = true) (hI : IntsAt w ao c.groups) (hao : ∀ g off, ao = some ⟨g, off, none⟩ → g < w.heap.size) (hGl : c.groups.length ≤ 140737488355328) (hs : c.args.size ≤ 9223372036854700000) (S : ByteArray) (E : Int)
    (hS : (if c.ok then restS c.head c.args else ⟨#[]⟩) = S) (hE : (if c.ok then restC c.head c.args else 4) = E) :
    Calls Try.prog 11 #[.agg #[.int .i64 c.xid, .int .i64 c.prog, .int .i64 c.vers, .int .i64 c.proc, .bool true, .int .i64 c.stamp, .string c.mach, .int .i64 c.uid, .int .i64 c.gid, .slice ao c.groups.length cap, .string c.args]] w
      fun e w' => e = .returned (.tuple #[.string S, .int .i64 E]) ∧ Below w.heap.size w w' := by
  obtain ⟨b, hb⟩ : ∃ b, c.ok = b := ⟨_, rfl⟩
  have hsm : b = true → c.mach.size ≤ 255 ∧ c.groups.length ≤ 16 := by
    intro h
    subst h
    unfold Cl.ok at hb
    rw [hu] at hb
    simp only [if_true, Bool.and_eq_true, decide_eq_true_eq] at hb
    exact ⟨hb.2.1.1.2, hb.2.1.2⟩
  rw [hb] at hS hE
  have hhl := head_length c
  have hcl := cred_length c
  have hub := fun wz h1 h2 m1 m2 => unixBytes_any c ao cap wz h1 h2 m1 m2 true ⟨c.cred.toArray⟩ rfl
  have hic := fun wz h1 => isCall_unix c.xid c.prog c.vers c.proc c.stamp c.uid c.gid c.mach c.args c.groups ao cap wz h1 hGl b (by rw [← hb, ← hu])
  have hhd : c.head = putU [c.xid, 0, 2, c.prog, c.vers, c.proc] ++ (numBytes 1 4 ++ opaqueOf ⟨c.cred.toArray⟩) ++ numBytes 0 4 ++ opaqueOf ⟨#[]⟩ := by
    unfold Cl.head; rw [hu]; rfl
  generalize c.head = hd at *
  generalize c.cred = cr at *
  obtain ⟨xid, prog, vers, proc, unix, stamp, mach, uid, gid, G, args⟩ := c
  dsimp only at hI hGl hs hS hE hsm hhl hcl hub hic hhd ⊢
  have HS := Lib.hid hS
  have HE := Lib.hid hE
  have HSM := Lib.hid hsm
  have HHL := Lib.hid hhl
  have HCL := Lib.hid hcl
  have HUB := Lib.hid hub
  have HIC := Lib.hid hic
  have HHD := Lib.hid hhd
  have HAO := Lib.hid hao
  have HI := Lib.hid hI
  clear hS hE hsm hhl hcl hub hic hhd hao hI hb hu
  have hcrs : (⟨cr.toArray⟩ : ByteArray).size = cr.length := by show cr.toArray.size = _; simp
  have hol := opaqueOf_length ⟨cr.toArray⟩
  have hpl := pad_lt (⟨cr.toArray⟩ : ByteArray).size
  have l6 := putU_length [xid, 0, 2, prog, vers, proc]
  simp only [List.length_cons, List.length_nil] at l6
  have lz : (opaqueOf ⟨#[]⟩).length = 4 := lo0
  go_enter Try.func11, Try.ntmps11
  go_wp2_with fail
  refine (HIC.out _ (HI.out.alloc _)).mono ?_
  rintro e w1 ⟨rfl, hB1⟩
  have hsz1 : w.heap.size + 1 ≤ w1.heap.size := by have := hB1.size; simpa using this
  have hq : w1.heap[w.heap.size]? = some (.cells #[.int .i64 xid, .int .i64 prog, .int .i64 vers, .int .i64 proc, .bool true, .int .i64 stamp, .string mach, .int .i64 uid, .int .i64 gid, .slice ao G.length cap, .string args] 30 (0, 0)) :=
    (hB1.block w.heap.size (by simp)).trans (heap_alloc_new w _)
  have hbb : Below w.heap.size w w1 := ((Below.refl w.heap.size w).alloc (Nat.le_refl _) (.cells #[.int .i64 xid, .int .i64 prog, .int .i64 vers, .int .i64 proc, .bool true, .int .i64 stamp, .string mach, .int .i64 uid, .int .i64 gid, .slice ao G.length cap, .string args] 30)).trans (hB1.mono (by simp))
  have HB1 := Lib.hid hbb
  have hI1 := HI.out.below hbb
  clear hB1 hbb HIC
  cases b
  · have hS := HS.out
    have hE := HE.out
    simp only [Bool.false_eq_true, if_false] at hS hE
    subst hS hE
    go_wp2
    go_ret2
    exact ⟨rfl, HB1.out⟩
  · obtain ⟨m1, m2⟩ := HSM.out rfl
    have hcl := HCL.out m1 m2
    have hhl := HHL.out m1 m2
    have hU0 : Uw w w.heap.size w1.heap.size ao G #[.int .i64 xid, .int .i64 prog, .int .i64 vers, .int .i64 proc, .bool true, .int .i64 stamp, .string mach, .int .i64 uid, .int .i64 gid, .slice ao G.length cap, .string args] (.slice none 0 0) [] (w1.alloc (.cells #[.slice none 0 0] 63)) :=
      ⟨Wr.new w1, ((World.grownBy_alloc _ _ none).block w.heap.size (by omega) (by simp)).trans hq, hI1.alloc _, HB1.out.alloc (by omega) _, by intro k hk; simp [Value.ownBlock] at hk⟩
    have HU0 := Lib.hid (hU0.alloc (.cells #[.int .i64 xid, .int .i64 0, .int .i64 2, .int .i64 prog, .int .i64 vers, .int .i64 proc] 3))
    have HI2 := Lib.hid (built6 (w1.alloc (.cells #[.slice none 0 0] 63)) (w1.heap.size + 1) (by simp) xid 0 2 prog vers proc)
    have f0 : w1.cell? ⟨w.heap.size, 0, none⟩ = some (.int .i64 xid) := by rw [cell_of_row w1 _ _ _ _ _ hq]; rfl
    have f1 : w1.cell? ⟨w.heap.size, 1, none⟩ = some (.int .i64 prog) := by rw [cell_of_row w1 _ _ _ _ _ hq]; rfl
    have f2 : w1.cell? ⟨w.heap.size, 2, none⟩ = some (.int .i64 vers) := by rw [cell_of_row w1 _ _ _ _ _ hq]; rfl
    have f3 : w1.cell? ⟨w.heap.size, 3, none⟩ = some (.int .i64 proc) := by rw [cell_of_row w1 _ _ _ _ _ hq]; rfl
    clear hq hU0 hI1 HB1 HCL HHL HSM
    have hBl : w.heap.size < w1.heap.size := by omega
    go_wp2_with fail
    refine (putU_u HU0.out (by omega) HAO.out [xid, 0, 2, prog, vers, proc] 6 rfl (some ⟨w1.heap.size + 1, 0, none⟩) 6 HI2.out (by intro g off e; simp only [Option.some.injEq, Addr.mk.injEq, and_true] at e; obtain ⟨e1, _⟩ := e; exact ⟨by omega, by simp [Value.ownBlock]⟩) (by simp) (by omega)).mono ?_
    rintro e w2 ⟨rfl, v2, hU2⟩
    have HU2 := Lib.hid hU2
    have f4 : w2.cell? ⟨w.heap.size, 4, none⟩ = some (.bool true) := by rw [cell_of_row w2 _ _ _ _ _ hU2.box]; rfl
    clear hU2 HU0 HI2 f0 f1 f2 f3
    generalize hpq : w1.heap.size = p at *
    have HP := Lib.hid hpq
    clear hpq
    go_wp2_with fail
    refine (uint_u HU2.out (by omega) HAO.out 1 (by simp only [List.length_append, List.length_nil]; omega)).mono ?_
    rintro e w3 ⟨rfl, v3, hU3⟩
    have hbx := hU3.box
    have g0 : w3.cell? ⟨w.heap.size, 0, none⟩ = some (.int .i64 xid) := by rw [cell_of_row w3 _ _ _ _ _ hbx]; rfl
    have g1 : w3.cell? ⟨w.heap.size, 1, none⟩ = some (.int .i64 prog) := by rw [cell_of_row w3 _ _ _ _ _ hbx]; rfl
    have g2 : w3.cell? ⟨w.heap.size, 2, none⟩ = some (.int .i64 vers) := by rw [cell_of_row w3 _ _ _ _ _ hbx]; rfl
    have g3 : w3.cell? ⟨w.heap.size, 3, none⟩ = some (.int .i64 proc) := by rw [cell_of_row w3 _ _ _ _ _ hbx]; rfl
    have g4 : w3.cell? ⟨w.heap.size, 4, none⟩ = some (.bool true) := by rw [cell_of_row w3 _ _ _ _ _ hbx]; rfl
    have g5 : w3.cell? ⟨w.heap.size, 5, none⟩ = some (.int .i64 stamp) := by rw [cell_of_row w3 _ _ _ _ _ hbx]; rfl
    have g6 : w3.cell? ⟨w.heap.size, 6, none⟩ = some (.string mach) := by rw [cell_of_row w3 _ _ _ _ _ hbx]; rfl
    have g7 : w3.cell? ⟨w.heap.size, 7, none⟩ = some (.int .i64 uid) := by rw [cell_of_row w3 _ _ _ _ _ hbx]; rfl
    have g8 : w3.cell? ⟨w.heap.size, 8, none⟩ = some (.int .i64 gid) := by rw [cell_of_row w3 _ _ _ _ _ hbx]; rfl
    have g9 : w3.cell? ⟨w.heap.size, 9, none⟩ = some (.slice ao G.length cap) := by rw [cell_of_row w3 _ _ _ _ _ hbx]; rfl
    have g10 : w3.cell? ⟨w.heap.size, 10, none⟩ = some (.string args) := by rw [cell_of_row w3 _ _ _ _ _ hbx]; rfl
    have HU3 := Lib.hid hU3
    clear hU3 HU2 f4 hbx
    go_wp2_with fail
    refine (HUB.out w3 HU3.out.ints (fun g off e => Nat.lt_of_lt_of_le (HAO.out g off e) HU3.out.low.size) m1 m2).mono ?_
    rintro e w4 ⟨rfl, hB4⟩
    have HU4 := Lib.hid (HU3.out.below hB4)
    clear HU3 hB4 g0 g1 g2 g3 g4 g5 g6 g7 g8 g9 g10 HUB
    go_wp2_with fail
    refine (opaque_u HU4.out (by omega) HAO.out ⟨cr.toArray⟩ (by simp only [List.length_append, List.length_nil, numBytes_length]; omega) (by omega)).mono ?_
    rintro e w5 ⟨rfl, v5, hU5⟩
    have HU5 := Lib.hid hU5
    clear hU5 HU4
    go_wp2_with fail
    refine (uint_u HU5.out (by omega) HAO.out 0 (by simp only [List.length_append, List.length_nil, numBytes_length]; omega)).mono ?_
    rintro e w6 ⟨rfl, v6, hU6⟩
    have HU6 := Lib.hid hU6
    clear hU6 HU5
    go_wp2_with fail
    refine (opaque_u HU6.out (by omega) HAO.out ⟨#[]⟩ (by simp only [List.length_append, List.length_nil, numBytes_length]; omega) (by show 0 ≤ _; omega)).mono ?_
    rintro e w7 ⟨rfl, v7, hU7⟩
    have hhead : ([] ++ putU [xid, 0, 2, prog, vers, proc] ++ numBytes 1 4 ++ opaqueOf ⟨cr.toArray⟩ ++ numBytes 0 4 ++ opaqueOf ⟨#[]⟩) = hd := by rw [HHD.out]; simp
    rw [hhead] at hU7
    have f10 : w7.cell? ⟨w.heap.size, 10, none⟩ = some (.string args) := by rw [cell_of_row w7 _ _ _ _ _ hU7.box]; rfl
    have HU7 := Lib.hid hU7
    clear hU7 HU6 hhead
    go_wp2_with fail
    refine (rest_any p v7 hd args w7 HU7.out.wr (by omega) hs).mono ?_
    rintro e w8 ⟨rfl, rfl⟩
    go_wp2
    go_ret2
    refine ⟨?_, HU7.out.low⟩
    rw [← HS.out, ← HE.out]
    simp
end Go.Proofs.Ytkbjimbnbocfpaa
