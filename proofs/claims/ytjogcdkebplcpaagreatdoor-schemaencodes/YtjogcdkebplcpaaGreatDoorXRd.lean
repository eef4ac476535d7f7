/-
  A reader in memory, and what its inner calls do. Their conditions: a reader; what is taken is there.
-/
import Derived.Test.YtjogcdkebplcpaaGreatDoorXPut
import Derived.Deep.QuietTactic
import Derived.BigQuiet
namespace Go.Proofs.YtjogcdkebplcpaaGreatDoor.X
open Go.RowKit

/-- The slice v holds the bytes l. -/
def Bytes (w : World) (v : Value) (l : List UInt8) : Prop :=
  (v = .slice none 0 0 ∧ l = []) ∨ ∃ g off cap cur fr, v = .slice (some ⟨g, off, none⟩) l.length cap ∧ l.length ≤ cap ∧ cap ≤ maxLen ∧ w.heap[g]? = some (.cells cur 5 fr) ∧ ∀ j (_ : j < l.length), cur[off + j]? = some (.int .u8 (l[j].toNat : Int))

/-- The reader in block p has l left and the error e. -/
def Rd (w : World) (p : Nat) (l : List UInt8) (e : Int) : Prop := ∃ v, w.heap[p]? = some (.cells #[v, .int .i64 e] 95 (0, 0)) ∧ Bytes w v l

/-- Block p alone has turned. -/
structure Only (p : Nat) (w w' : World) : Prop where
  os : w'.os = w.os
  tape : w'.tape = w.tape
  output : w'.output = w.output
  size : w'.heap.size = w.heap.size
  block : ∀ k, k ≠ p → w'.heap[k]? = w.heap[k]?

theorem Only.refl (p : Nat) (w : World) : Only p w w := ⟨rfl, rfl, rfl, rfl, fun _ _ => rfl⟩
theorem Only.trans {p : Nat} {a b c : World} (h : Only p a b) (k : Only p b c) : Only p a c :=
  ⟨k.os.trans h.os, k.tape.trans h.tape, k.output.trans h.output, k.size.trans h.size, fun i hi => (k.block i hi).trans (h.block i hi)⟩
theorem Only.drew {p : Nat} {a b : World} (h : Only p a b) (n : Nat) : Only p a (b.drewN n) := ⟨h.os, h.tape, h.output, h.size, h.block⟩
theorem Only.set {p : Nat} {a b : World} (h : Only p a b) (o : Nat) (u : Value) : Only p a (b.setCell ⟨p, o, none⟩ u) :=
  h.trans ⟨rfl, rfl, rfl, by simp [World.setCell], fun k hk => Below.heap_setCell _ _ _ _ hk⟩
theorem Only.below {p : Nat} {w w' : World} (h : Only p w w') {B : Nat} (hp : B ≤ p) : Below B w w' :=
  ⟨h.os, h.tape, h.output, Nat.le_of_eq h.size.symm, fun k hk => h.block k (by omega)⟩

theorem Bytes.only {p : Nat} {w w' : World} {v x y : Value} {l : List UInt8} (h : Bytes w v l) (hp : w.heap[p]? = some (.cells #[x, y] 95 (0, 0))) (ho : Only p w w') : Bytes w' v l := by
  rcases h with h | ⟨g, off, cap, cur, fr, h1, h2, h3, h4, h5⟩
  · exact .inl h
  · refine .inr ⟨g, off, cap, cur, fr, h1, h2, h3, (ho.block g ?_).trans h4, h5⟩
    intro e; subst e; rw [hp] at h4; simp at h4
theorem Bytes.take {w : World} {g off cap : Nat} {l : List UInt8} {cur : Array Value} {fr : Nat × Nat} (h2 : l.length ≤ cap) (h3 : cap ≤ maxLen) (h4 : w.heap[g]? = some (.cells cur 5 fr))
    (h5 : ∀ j (_ : j < l.length), cur[off + j]? = some (.int .u8 (l[j].toNat : Int))) {n : Nat} (hn : n ≤ l.length) : Bytes w (.slice (some ⟨g, off, none⟩) n cap) (l.take n) := by
  have e : (l.take n).length = n := by simp; omega
  refine .inr ⟨g, off, cap, cur, fr, by rw [e], by omega, h3, h4, fun j hj => ?_⟩
  rw [h5 j (by omega)]
  simp
theorem Bytes.drop {w : World} {g off cap : Nat} {l : List UInt8} {cur : Array Value} {fr : Nat × Nat} (h2 : l.length ≤ cap) (h3 : cap ≤ maxLen) (h4 : w.heap[g]? = some (.cells cur 5 fr))
    (h5 : ∀ j (_ : j < l.length), cur[off + j]? = some (.int .u8 (l[j].toNat : Int))) {n : Nat} : Bytes w (.slice (some ⟨g, off + n, none⟩) (l.length - n) (cap - n)) (l.drop n) := by
  refine .inr ⟨g, off + n, cap - n, cur, fr, by simp, by simp; omega, by omega, h4, fun j hj => ?_⟩
  have hj' : n + j < l.length := by simp at hj; omega
  have := h5 (n + j) hj'
  rw [show off + n + j = off + (n + j) from by omega, this]
  simp

theorem two_cells {w : World} {p : Nat} {x y : Value} (h : w.heap[p]? = some (.cells #[x, y] 95 (0, 0))) : w.cell? ⟨p, 0, none⟩ = some x ∧ w.cell? ⟨p, 1, none⟩ = some y ∧ w.frozen? ⟨p, 0, none⟩ = false ∧ w.frozen? ⟨p, 1, none⟩ = false := by
  refine ⟨?_, ?_, Lib.frozen_of_heap h _, Lib.frozen_of_heap h _⟩
  · rw [cell_of_row w p 0 _ _ _ h]; rfl
  · rw [cell_of_row w p 1 _ _ _ h]; rfl
theorem two_set0 {w : World} {p : Nat} {x y : Value} (h : w.heap[p]? = some (.cells #[x, y] 95 (0, 0))) (u : Value) : (w.setCell ⟨p, 0, none⟩ u).heap[p]? = some (.cells #[u, y] 95 (0, 0)) := by
  simp [World.setCell, Array.getElem?_modify, h]
theorem two_set1 {w : World} {p : Nat} {x y : Value} (h : w.heap[p]? = some (.cells #[x, y] 95 (0, 0))) (u : Value) : (w.setCell ⟨p, 1, none⟩ u).heap[p]? = some (.cells #[x, u] 95 (0, 0)) := by
  simp [World.setCell, Array.getElem?_modify, h]

/-- What is left and the error, once something was wrong. -/
def failE (e d : Int) : Int := if e = 0 then d else e

set_option maxHeartbeats 400000 in
theorem fail_any (p : Nat) (l : List UInt8) (e d : Int) (w : World) (h : Rd w p l e) :
    Calls Tryz.prog 81 #[.pointer (some ⟨p, 0, none⟩), .int .i64 d] w fun r w' => r = .returned (.tuple #[]) ∧ Rd w' p [] (failE e d) ∧ Only p w w' := by
  obtain ⟨v, h1, h2⟩ := h
  obtain ⟨c0, c1, f0, f1⟩ := two_cells h1
  have HH := Lib.hid h1
  clear h1
  by_cases he : e = 0
  · subst he
    go_enter Tryz.func81, Tryz.ntmps81
    go_wp2
    go_end0
    refine ⟨rfl, ⟨.slice none 0 0, ?_, .inl ⟨rfl, rfl⟩⟩, ((Only.refl p w).set 1 _).set 0 _⟩
    exact two_set0 (two_set1 HH.out _) _
  · have hb : (e == 0) = false := by simp [he]
    go_enter Tryz.func81, Tryz.ntmps81
    go_wp2
    go_end0
    refine ⟨rfl, ⟨.slice none 0 0, ?_, .inl ⟨rfl, rfl⟩⟩, (Only.refl p w).set 0 _⟩
    unfold failE; rw [if_neg he]
    exact two_set0 HH.out _

/-- What a take leaves. -/
def Took (w : World) (p : Nat) (l : List UInt8) (e : Int) (n : Nat) (r : Ending) (w' : World) : Prop := ∃ u, r = .returned u ∧ Bytes w' u (l.take n) ∧ Rd w' p (l.drop n) e ∧ Only p w w'

theorem took_mid {w : World} {p g off cap n : Nat} {l : List UInt8} {e : Int} {cur : Array Value} {fr : Nat × Nat} (h1 : w.heap[p]? = some (.cells #[.slice (some ⟨g, off, none⟩) l.length cap, .int .i64 e] 95 (0, 0)))
    (b2 : l.length ≤ cap) (b3 : cap ≤ maxLen) (b4 : w.heap[g]? = some (.cells cur 5 fr)) (b5 : ∀ j (_ : j < l.length), cur[off + j]? = some (.int .u8 (l[j].toNat : Int))) (hn : n ≤ l.length) :
    Took w p l e n (.returned (.slice (some ⟨g, off, none⟩) n cap)) (w.setCell ⟨p, 0, none⟩ (.slice (some ⟨g, off + n, none⟩) (l.length - n) (cap - n))) := by
  have ho := (Only.refl p w).set 0 (.slice (some ⟨g, off + n, none⟩) (l.length - n) (cap - n))
  exact ⟨_, rfl, (Bytes.take b2 b3 b4 b5 hn).only h1 ho, ⟨_, two_set0 h1 _, (Bytes.drop b2 b3 b4 b5).only h1 ho⟩, ho⟩
theorem took_end {w : World} {p g off cap n : Nat} {l : List UInt8} {e : Int} {cur : Array Value} {fr : Nat × Nat} (h1 : w.heap[p]? = some (.cells #[.slice (some ⟨g, off, none⟩) l.length cap, .int .i64 e] 95 (0, 0)))
    (b2 : l.length ≤ cap) (b3 : cap ≤ maxLen) (b4 : w.heap[g]? = some (.cells cur 5 fr)) (b5 : ∀ j (_ : j < l.length), cur[off + j]? = some (.int .u8 (l[j].toNat : Int))) (hn : n ≤ l.length) (hc : cap = n) :
    Took w p l e n (.returned (.slice (some ⟨g, off, none⟩) n n)) (w.setCell ⟨p, 0, none⟩ (.slice (some ⟨g, off, none⟩) (l.length - n) 0)) := by
  have ho := (Only.refl p w).set 0 (.slice (some ⟨g, off, none⟩) (l.length - n) 0)
  subst hc
  have e0 : l.length - cap = 0 := by omega
  have e1 : l.drop cap = [] := List.drop_eq_nil_of_le b2
  refine ⟨_, rfl, (Bytes.take b2 b3 b4 b5 hn).only h1 ho, ⟨_, two_set0 h1 _, ?_⟩, ho⟩
  rw [e1, e0]
  have ho' := (Only.refl p w).set 0 (.slice (some ⟨g, off, none⟩) 0 0)
  exact Bytes.only (.inr ⟨g, off, 0, cur, fr, rfl, Nat.le_refl _, by unfold maxLen; omega, b4, fun j hj => absurd hj (by simp)⟩) h1 ho'

set_option maxHeartbeats 400000 in
theorem take_any (p : Nat) (l : List UInt8) (e : Int) (n : Nat) (w : World) (h : Rd w p l e) (hn : n ≤ l.length) :
    Calls Tryz.prog 83 #[.pointer (some ⟨p, 0, none⟩), .int .i64 n] w (Took w p l e n) := by
  obtain ⟨v, h1, h2⟩ := h
  obtain ⟨c0, c1, f0, f1⟩ := two_cells h1
  have HH := Lib.hid h1
  clear h1
  rcases h2 with ⟨rfl, rfl⟩ | ⟨g, off, cap, cur, fr, rfl, b2, b3, b4, b5⟩
  · have h0 : n = 0 := by simpa using hn
    subst h0
    go_enter Tryz.func83, Tryz.ntmps83
    go_wp2
    go_ret
    exact ⟨_, rfl, .inl ⟨rfl, rfl⟩, ⟨_, two_set0 HH.out _, .inl ⟨rfl, rfl⟩⟩, (Only.refl p w).set 0 _⟩
  · have B4 := Lib.hid b4
    have B5 := Lib.hid b5
    clear b4 b5
    unfold maxLen at b3
    go_enter Tryz.func83, Tryz.ntmps83
    go_wp2
    all_goals go_ret
    · exact took_end HH.out b2 (by unfold maxLen; exact b3) B4.out B5.out hn ‹_›
    · exact took_mid HH.out b2 (by unfold maxLen; exact b3) B4.out B5.out hn

theorem Bytes.cells {w : World} {u : Value} {m : List UInt8} (h : Bytes w u m) (k : Nat) (hk : m.length = k) (h0 : 0 < k) :
    ∃ g off cap, u = .slice (some ⟨g, off, none⟩) k cap ∧ k ≤ cap ∧ cap ≤ maxLen ∧ ∀ j, j < k → w.cell? ⟨g, off + j, none⟩ = some (.int .u8 ((m.getD j 0).toNat : Int)) := by
  rcases h with ⟨_, rfl⟩ | ⟨g, off, cap, cur, fr, rfl, b2, b3, b4, b5⟩
  · simp at hk; omega
  · subst hk
    refine ⟨g, off, cap, rfl, b2, b3, fun j hj => ?_⟩
    rw [cell_of_row w g (off + j) _ _ _ b4, b5 j hj]
    simp [List.getD_eq_getElem?_getD, List.getElem?_eq_getElem hj]

/-- The number that bytes tell, the highest first. -/
def be (l : List UInt8) : Nat := l.foldl (fun n b => 256 * n + b.toNat) 0
theorem be_snoc (l : List UInt8) (b : UInt8) : be (l ++ [b]) = 256 * be l + b.toNat := by simp [be]

theorem wrap_emod (x : Int) : (wrap64 x) % 18446744073709551616 = x % 18446744073709551616 := by unfold wrap64; omega
theorem or_byte (N : Int) (b : Nat) (hb : b < 256) : bits .or .i64 (wrap64 (N * 256)) (b : Int) = IntKind.i64.wrap (N * 256 + b) := by
  have e : (BitVec.ofInt 64 (wrap64 (N * 256)) ||| BitVec.ofInt 64 (b : Int)).toNat = ((N * 256) % 18446744073709551616).toNat + b := by
    rw [BitVec.toNat_or, BitVec.toNat_ofInt, BitVec.toNat_ofInt]
    have h1 : ((b : Int) % ((2 ^ 64 : Nat) : Int)).toNat = b := by omega
    have h2 : (wrap64 (N * 256) % ((2 ^ 64 : Nat) : Int)).toNat = ((N * 256) % 18446744073709551616).toNat := by
      have := wrap_emod (N * 256)
      have e2 : (((2 ^ 64 : Nat)) : Int) = 18446744073709551616 := by decide
      rw [e2, this]
    rw [h1, h2]
    obtain ⟨q, hq⟩ : ∃ q : Nat, ((N * 256) % 18446744073709551616).toNat = 2 ^ 8 * q := ⟨((N * 256) % 18446744073709551616).toNat / 256, by omega⟩
    rw [hq, ← Nat.two_pow_add_eq_or_of_lt (by omega)]
  unfold bits
  show IntKind.i64.wrap (((BitVec.ofInt 64 (wrap64 (N * 256)) ||| BitVec.ofInt 64 (b : Int)).toNat : Nat) : Int) = _
  rw [e, IntKind.wrap_i64, IntKind.wrap_i64]
  omega
theorem wrap_step (m b : Int) : IntKind.i64.wrap (IntKind.i64.wrap m * 256 + b) = IntKind.i64.wrap (256 * m + b) := by
  rw [IntKind.wrap_i64, IntKind.wrap_i64, IntKind.wrap_i64]
  omega

/-- A number taken: the answer, what is left, the error. -/
def numR (size : Nat) (l : List UInt8) (e : Int) : Int × List UInt8 × Int :=
  if l.length < size then (0, [], failE e 5) else (IntKind.i64.wrap (be (l.take size)), l.drop size, e)

set_option maxHeartbeats 400000 in
theorem rnum_any (p : Nat) (l : List UInt8) (e : Int) (size : Nat) (w : World) (h : Rd w p l e) (hs : 0 < size) (hs8 : size ≤ 8) (hl : l.length ≤ 140737488355328) :
    Calls Tryz.prog 79 #[.pointer (some ⟨p, 0, none⟩), .int .i64 size] w fun r w' => r = .returned (.int .i64 (numR size l e).1) ∧ Rd w' p (numR size l e).2.1 (numR size l e).2.2 ∧ Only p w w' := by
  have hh := h
  obtain ⟨v, h1, h2⟩ := hh
  obtain ⟨c0, c1, f0, f1⟩ := two_cells h1
  have hv : ∃ ao cap, v = .slice ao l.length cap := by
    rcases h2 with ⟨rfl, rfl⟩ | ⟨g, off, cap, cur, fr, rfl, _⟩
    · exact ⟨none, 0, rfl⟩
    · exact ⟨_, _, rfl⟩
  obtain ⟨ao, cap, rfl⟩ := hv
  clear h1 h2
  by_cases hlt : l.length < size
  · have hb : decide ((l.length : Int) < (size : Int)) = true := by simp; exact hlt
    go_enter Tryz.func79, Tryz.ntmps79
    go_wp2_with fail
    refine (fail_any p l e 5 w h).mono ?_
    rintro r w1 ⟨rfl, hR, hO⟩
    have HR := Lib.hid hR
    have HO := Lib.hid hO
    clear hR hO
    go_wp2
    go_ret
    unfold numR
    rw [if_pos hlt]
    exact ⟨rfl, HR.out, HO.out⟩
  · have hb : decide ((l.length : Int) < (size : Int)) = false := by simp; omega
    go_enter Tryz.func79, Tryz.ntmps79
    go_wp2_with fail
    refine (take_any p l e size w h (by omega)).mono ?_
    rintro r w1 ⟨u, rfl, hB, hR, hO⟩
    have HR := Lib.hid hR
    have HO := Lib.hid hO
    clear hR hO
    obtain ⟨g, off, cp, rfl, b2, b3, b4⟩ := hB.cells size (by simp; omega) hs
    have HCell := Lib.hid b4
    clear b4 hB
    unfold maxLen at b3
    go_wp2
    go_loop [5, 23] (fun s i => ∃ k : Nat, k ≤ size ∧ i = .int .i64 k ∧ s = .int .i64 (IntKind.i64.wrap (be (l.take k)))) (fun _ i => size - (intOf i).toNat)
    case atStart => exact ⟨0, Nat.zero_le _, rfl, rfl⟩
    case round =>
      obtain ⟨k, hk, rfl, rfl⟩ := hrel
      by_cases hk2 : k < size
      · have hc := HCell.out k hk2
        generalize hN : IntKind.i64.wrap ((be (l.take k) : Nat) : Int) = N
        have HN := Lib.hid hN
        clear hN
        obtain ⟨b, hbb⟩ : ∃ b : UInt8, b = (l.take size).getD k 0 := ⟨_, rfl⟩
        rw [← hbb] at hc
        have HBB := Lib.hid hbb
        clear hbb
        have hb256 := b.toNat_lt
        go_wp2
        go_round
        case rel =>
          refine ⟨k + 1, by omega, by go_num, ?_⟩
          rw [or_byte N b.toNat (by omega), ← HN.out, wrap_step]
          have e1 : l.take (k + 1) = l.take k ++ [b] := by
            rw [List.take_succ_eq_append_getElem (by omega), HBB.out]
            simp [List.getD_eq_getElem?_getD, hk2, List.getElem?_eq_getElem (show k < l.length by omega)]
          rw [e1, be_snoc]
          go_num
        case measure => simp [intOf]; omega
      · go_wp2
        go_ret
        have hk' : k = size := by omega
        subst hk'
        unfold numR
        rw [if_neg hlt]
        exact ⟨rfl, HR.out, HO.out⟩

set_option maxHeartbeats 400000 in
theorem ruint_any (p : Nat) (l : List UInt8) (e : Int) (w : World) (h : Rd w p l e) (hl : l.length ≤ 140737488355328) :
    Calls Tryz.prog 56 #[.pointer (some ⟨p, 0, none⟩)] w fun r w' => r = .returned (.int .i64 (numR 4 l e).1) ∧ Rd w' p (numR 4 l e).2.1 (numR 4 l e).2.2 ∧ Only p w w' := by
  go_enter Tryz.func56, Tryz.ntmps56
  go_wp2_with fail
  refine (rnum_any p l e 4 w h (by omega) (by omega) hl).mono ?_
  rintro r w1 ⟨rfl, hR, hO⟩
  have HR := Lib.hid hR
  have HO := Lib.hid hO
  clear hR hO
  go_wp2
  go_ret
  exact ⟨rfl, HR.out, HO.out⟩

set_option maxHeartbeats 400000 in
theorem rhyper_any (p : Nat) (l : List UInt8) (e : Int) (w : World) (h : Rd w p l e) (hl : l.length ≤ 140737488355328) :
    Calls Tryz.prog 57 #[.pointer (some ⟨p, 0, none⟩)] w fun r w' => r = .returned (.int .i64 (numR 8 l e).1) ∧ Rd w' p (numR 8 l e).2.1 (numR 8 l e).2.2 ∧ Only p w w' := by
  go_enter Tryz.func57, Tryz.ntmps57
  go_wp2_with fail
  refine (rnum_any p l e 8 w h (by omega) (by omega) hl).mono ?_
  rintro r w1 ⟨rfl, hR, hO⟩
  have HR := Lib.hid hR
  have HO := Lib.hid hO
  clear hR hO
  go_wp2
  go_ret
  exact ⟨rfl, HR.out, HO.out⟩

/-- A Bool taken. -/
def boolR (l : List UInt8) (e : Int) : Bool × List UInt8 × Int :=
  if 1 < (numR 4 l e).1 then (false, [], failE (numR 4 l e).2.2 4) else ((numR 4 l e).1 == 1, (numR 4 l e).2)

set_option maxHeartbeats 400000 in
theorem rbool_any (p : Nat) (l : List UInt8) (e : Int) (w : World) (h : Rd w p l e) (hl : l.length ≤ 140737488355328) :
    Calls Tryz.prog 80 #[.pointer (some ⟨p, 0, none⟩)] w fun r w' => r = .returned (.bool (boolR l e).1) ∧ Rd w' p (boolR l e).2.1 (boolR l e).2.2 ∧ Only p w w' := by
  obtain ⟨N, hN⟩ : ∃ N, N = numR 4 l e := ⟨_, rfl⟩
  have HN := Lib.hid hN
  clear hN
  go_enter Tryz.func80, Tryz.ntmps80
  go_wp2_with fail
  refine (ruint_any p l e w h hl).mono ?_
  rintro r w1 ⟨rfl, hR, hO⟩
  rw [← HN.out] at hR ⊢
  have HO := Lib.hid hO
  clear hO
  obtain ⟨n, l1, e1⟩ := N
  by_cases h1 : 1 < n
  · have h2 : (n == 1) = false := by simp; omega
    have HF := Lib.hid (show boolR l e = (false, [], failE e1 4) by unfold boolR; rw [← HN.out]; exact if_pos h1)
    go_wp2_with fail
    refine (fail_any p l1 e1 4 w1 hR).mono ?_
    rintro r w2 ⟨rfl, hR2, hO2⟩
    have HR := Lib.hid hR2
    have HO2 := Lib.hid hO2
    clear hR2 hO2 hR
    go_wp2
    go_ret
    rw [HF.out]
    exact ⟨by simp, HR.out, HO.out.trans HO2.out⟩
  · have HF := Lib.hid (show boolR l e = (n == 1, l1, e1) by unfold boolR; rw [← HN.out]; exact if_neg h1)
    have HR := Lib.hid hR
    clear hR
    go_wp2
    go_ret
    rw [HF.out]
    exact ⟨rfl, HR.out, HO.out⟩

/-- What End tells. -/
def endR (l : List UInt8) (e : Int) : Int := if e = 0 then (if l.length = 0 then 0 else 6) else e

set_option maxHeartbeats 400000 in
theorem end_any (p : Nat) (l : List UInt8) (e : Int) (w : World) (h : Rd w p l e) :
    Calls Tryz.prog 25 #[.pointer (some ⟨p, 0, none⟩)] w fun r w' => r = .returned (.int .i64 (endR l e)) ∧ w = w' := by
  obtain ⟨v, h1, h2⟩ := h
  obtain ⟨c0, c1, f0, f1⟩ := two_cells h1
  have hv : ∃ ao cap, v = .slice ao l.length cap := by
    rcases h2 with ⟨rfl, rfl⟩ | ⟨g, off, cap, cur, fr, rfl, _⟩
    · exact ⟨none, 0, rfl⟩
    · exact ⟨_, _, rfl⟩
  obtain ⟨ao, cap, rfl⟩ := hv
  clear h1 h2
  by_cases he : e = 0
  · subst he
    by_cases hz : l.length = 0
    · have hz2 : decide (0 < l.length) = false := by simp [hz]
      have HZ := Lib.hid hz
      clear hz
      go_enter Tryz.func25, Tryz.ntmps25
      go_wp2
      all_goals (go_ret; exact ⟨by simp [endR, HZ.out], rfl⟩)
    · have hz2 : 0 < l.length := by omega
      go_enter Tryz.func25, Tryz.ntmps25
      go_wp2
      all_goals (go_ret; exact ⟨ret_int (by unfold endR; rw [if_pos rfl, if_neg (by omega)]), rfl⟩)
  · have hb : (e != 0) = true := by simp [he]
    go_enter Tryz.func25, Tryz.ntmps25
    go_wp2
    all_goals (go_ret; exact ⟨by simp [endR, he], rfl⟩)
end Go.Proofs.YtjogcdkebplcpaaGreatDoor.X
