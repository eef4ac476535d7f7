/-
  What readers take of what was put. Conditions: numbers of 64 bits, texts below 2^32 bytes.
-/
import Derived.Test.YtdkmjpafhlamnaaMath
namespace Go.Proofs.Ytdkmjpafhlamnaa
open Go.RowKit

theorem Rd.lt {w : World} {p : Nat} {l : List UInt8} {e : Int} (h : Rd w p l e) : p < w.heap.size := by
  obtain ⟨v, h1, _⟩ := h
  exact (Array.getElem?_eq_some_iff.1 h1).1
/-- New blocks leave a reader alone. -/
theorem Rd.below {w w' : World} {p : Nat} {l : List UInt8} {e : Int} (h : Rd w p l e) (hb : Below w.heap.size w w') : Rd w' p l e := by
  have hp := h.lt
  obtain ⟨v, h1, h2⟩ := h
  refine ⟨v, (hb.block p hp).trans h1, ?_⟩
  rcases h2 with h2 | ⟨g, off, cap, cur, fr, e1, e2, e3, e4, e5⟩
  · exact .inl h2
  · exact .inr ⟨g, off, cap, cur, fr, e1, e2, e3, (hb.block g (Array.getElem?_eq_some_iff.1 e4).1).trans e4, e5⟩
theorem Rd.alloc {w : World} {p : Nat} {l : List UInt8} {e : Int} (h : Rd w p l e) (o : Obj) : Rd (w.alloc o) p l e := h.below ((Below.refl _ _).alloc (Nat.le_refl _) o)
/-- Another reader's work leaves a reader alone. -/
theorem Rd.other {w w' : World} {p q : Nat} {l m : List UInt8} {e d : Int} (h : Rd w q l e) (hp : Rd w p m d) (ho : Only p w w') (hne : q ≠ p) : Rd w' q l e := by
  obtain ⟨u, g1, _⟩ := hp
  obtain ⟨v, h1, h2⟩ := h
  exact ⟨v, (ho.block q hne).trans h1, h2.only g1 ho⟩

section
variable (p : Nat) (rest : List UInt8) (w : World)
theorem rhyper_ok (n : Int) (hn : -9223372036854775808 ≤ n ∧ n ≤ 9223372036854775807) (h : Rd w p (numBytes n 8 ++ rest) 0) (hl : rest.length ≤ 140737488350000) :
    Calls Try.prog 21 #[.pointer (some ⟨p, 0, none⟩)] w fun r w' => r = .returned (.int .i64 n) ∧ Rd w' p rest 0 ∧ Only p w w' := by
  have := rhyper_any p _ 0 w h (by rw [List.length_append, numBytes_length]; omega)
  rw [numR_ok8 n hn] at this
  exact this
theorem rfixed_ok (s : ByteArray) (hs : s.size < 4294967296) (h : Rd w p (fixedOf s ++ rest) 0) (hl : (fixedOf s ++ rest).length ≤ 140737488350000) :
    Calls Try.prog 20 #[.pointer (some ⟨p, 0, none⟩), .int .i64 s.size] w fun r w' => r = .returned (.string s) ∧ Rd w' p rest 0 ∧ Only p w w' := by
  have := rfixed_any p _ 0 s.size w h (by omega) (by omega)
  rw [fixR_ok s] at this
  exact this
end
end Go.Proofs.Ytdkmjpafhlamnaa
