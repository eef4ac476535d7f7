/-
  The calls of a reader with their answers as letters; was all there; who calls, by an AUTH_SYS credential. Their conditions: a reader; texts of a length that a machine has.
-/
import Derived.Test.YtkbjimbnbocfpaaPr
import Derived.Test.YtkbjimbnbocfpaaOpen
namespace Go.Proofs.Ytkbjimbnbocfpaa
open Go.RowKit

theorem Rd.lt {w : World} {p : Nat} {l : List UInt8} {e : Int} (h : Rd w p l e) : p < w.heap.size := by
  obtain ⟨v, h1, _⟩ := h
  exact (Array.getElem?_eq_some_iff.1 h1).1
theorem Rd.below {w w' : World} {p : Nat} {l : List UInt8} {e : Int} (h : Rd w p l e) (hb : Below w.heap.size w w') : Rd w' p l e := by
  have hp := h.lt
  obtain ⟨v, h1, h2⟩ := h
  refine ⟨v, (hb.block p hp).trans h1, ?_⟩
  rcases h2 with h2 | ⟨g, off, cap, cur, fr, e1, e2, e3, e4, e5⟩
  · exact .inl h2
  · exact .inr ⟨g, off, cap, cur, fr, e1, e2, e3, (hb.block g (Array.getElem?_eq_some_iff.1 e4).1).trans e4, e5⟩
theorem Rd.alloc {w : World} {p : Nat} {l : List UInt8} {e : Int} (h : Rd w p l e) (o : Obj) : Rd (w.alloc o) p l e := h.below ((Below.refl _ _).alloc (Nat.le_refl _) o)
/-- A change of blocks of other types leaves a reader alone. -/
theorem Rd.keep {w w' : World} {p : Nat} {l : List UInt8} {e : Int} (h : Rd w p l e) (hk : ∀ (k : Nat) (cs : Array Value) (t : TypeId) (fr : Nat × Nat), w.heap[k]? = some (.cells cs t fr) → (t = 94 ∨ t = 5) → w'.heap[k]? = w.heap[k]?) : Rd w' p l e := by
  obtain ⟨v, h1, h2⟩ := h
  refine ⟨v, (hk _ _ _ _ h1 (.inl rfl)).trans h1, ?_⟩
  rcases h2 with h2 | ⟨g, off, cap, cur, fr, e1, e2, e3, e4, e5⟩
  · exact .inl h2
  · exact .inr ⟨g, off, cap, cur, fr, e1, e2, e3, (hk _ _ _ _ e4 (.inr rfl)).trans e4, e5⟩

theorem ruint_n (p : Nat) (l : List UInt8) (e : Int) (w : World) (h : Rd w p l e) (hl : l.length ≤ 140737488355328) (n : Int) (l' : List UInt8) (e' : Int) (hn : numR 4 l e = (n, l', e')) :
    Calls Try.prog 30 #[.pointer (some ⟨p, 0, none⟩)] w fun r w' => r = .returned (.int .i64 n) ∧ Rd w' p l' e' ∧ Only p w w' := by
  have := ruint_any p l e w h hl
  rw [hn] at this
  exact this
theorem ropaque_n (p : Nat) (l : List UInt8) (e : Int) (most : Int) (w : World) (h : Rd w p l e) (hl : l.length ≤ 140737488355328) (s : ByteArray) (l' : List UInt8) (e' : Int) (hn : opqR most l e = (s, l', e')) :
    Calls Try.prog 51 #[.pointer (some ⟨p, 0, none⟩), .int .i64 most] w fun r w' => r = .returned (.string s) ∧ Rd w' p l' e' ∧ Only p w w' := by
  have := ropaque_any p l e most w h hl
  rw [hn] at this
  exact this
theorem numR_len {size : Nat} {l : List UInt8} {e n : Int} {l' : List UInt8} {e' : Int} (h : numR size l e = (n, l', e')) : l'.length ≤ l.length := by
  have := (numR_le size l e).2; rw [h] at this; exact this
theorem fixR_len (n : Int) (l : List UInt8) (e : Int) : (fixR n l e).2.1.length ≤ l.length := by
  unfold fixR
  split
  · exact Nat.le_refl _
  · split
    · simp
    · split
      · simp
      · simp
theorem opqR_len {most : Int} {l : List UInt8} {e : Int} {s : ByteArray} {l' : List UInt8} {e' : Int} (h : opqR most l e = (s, l', e')) : l'.length ≤ l.length := by
  have h1 : (opqR most l e).2.1.length ≤ l.length := by
    unfold opqR
    by_cases hc : (if most < 0 then 0 else most) < (numR 4 l e).1
    · rw [if_pos hc]; exact Nat.zero_le _
    · rw [if_neg hc]; exact Nat.le_trans (fixR_len _ _ _) (numR_le 4 l e).2
  rw [h] at h1; exact h1

set_option maxHeartbeats 400000 in
theorem well_any (p : Nat) (l : List UInt8) (e : Int) (w : World) (h : Rd w p l e) (b : Bool) (hb : (endR l e == 0 || endR l e == 6) = b) :
    Calls Try.prog 31 #[.pointer (some ⟨p, 0, none⟩)] w fun r w' => r = .returned (.bool b) ∧ w = w' := by
  have HB := Lib.hid hb
  clear hb
  obtain ⟨x, hx⟩ : ∃ x, endR l e = x := ⟨_, rfl⟩
  have HX := Lib.hid hx
  clear hx
  go_enter Try.func31, Try.ntmps31
  go_wp2_with fail
  refine (end_any p l e w h).mono ?_
  rintro r w' ⟨rfl, rfl⟩
  rw [HX.out]
  by_cases h0 : x = 0
  · subst h0
    go_wp2
    go_ret
    refine ⟨congrArg (fun z => Ending.returned (.bool z)) ?_, rfl⟩
    rw [← HB.out, HX.out]; rfl
  · have hz : (x == 0) = false := by simpa using h0
    clear h0
    go_wp2
    go_ret
    refine ⟨congrArg (fun z => Ending.returned (.bool z)) ?_, rfl⟩
    rw [← HB.out, HX.out, hz]; rfl
end Go.Proofs.Ytkbjimbnbocfpaa
