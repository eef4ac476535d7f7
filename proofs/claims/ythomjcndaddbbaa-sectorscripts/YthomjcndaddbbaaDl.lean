/-
  What the calls leave a disk as it may be: the plain facts. No condition.
-/
import Derived.Test.YthomjcndaddbbaaDk
namespace Go.Proofs.Ythomjcndaddbbaa
namespace Dk
variable {d : Dk}
theorem new_ok (n : Nat) : (new n).Ok := ⟨rfl, rfl, by simp [new], Int.le_refl 0, by show (0 : Int) ≤ _; omega⟩
theorem new_len (n : Nat) : (new n).L.length = n := by simp [new]
theorem lose_ok (h : d.Ok) (k : Int) : (d.lose k).Ok := ⟨rfl, rfl, by simp [lose], h.cut0, h.cut1⟩
theorem lose_len (k : Int) : (d.lose k).L.length = d.L.length := loseL_length _ _ _ _
theorem on_ok (h : d.Ok) : d.on.Ok := ⟨h.len, h.seen, h.inQ, Int.le_refl 0, by show (0 : Int) ≤ _; omega⟩
theorem crash_ok (h : d.Ok) (k : Int) : (d.crash k).Ok := on_ok (lose_ok h k)
theorem crash_len (k : Int) : (d.crash k).L.length = d.L.length := loseL_length _ _ _ _
theorem setCut_ok (h : d.Ok) (n k : Int) (hn : n ≤ 9223372036854775807) : (d.setCut n k).Ok := ⟨h.len, h.seen, h.inQ, by show 0 ≤ max n 1; omega, by show max n 1 ≤ _; omega⟩
theorem queued_ok (h : d.Ok) (n : Nat) (s : ByteArray) (hn : n < d.L.length) : (d.queued n s).Ok := by
  refine ⟨?_, ?_, ?_, h.cut0, h.cut1⟩
  · show (d.S.set n (full s)).length = _
    rw [List.length_set]; exact h.len
  · show d.S.set n (full s) = over (d.Q ++ [(n, full s)]) d.L
    rw [over_snoc, h.seen]
  · intro x hx
    rcases List.mem_append.1 hx with hx | hx
    · exact h.inQ x hx
    · rw [List.mem_singleton.1 hx]; exact hn
theorem after_ok (h : d.Ok) : d.after.Ok := by
  unfold after
  split
  · exact h
  · split
    · have h2 : ({ d with cut := 0 } : Dk).Ok := ⟨h.len, h.seen, h.inQ, Int.le_refl 0, by show (0 : Int) ≤ _; omega⟩
      have h3 := lose_ok h2 d.keep
      exact ⟨h3.len, h3.seen, h3.inQ, h3.cut0, h3.cut1⟩
    · rename_i h0 _
      have h0' : d.cut ≠ 0 := by simpa using h0
      have := h.cut0
      have := h.cut1
      exact ⟨h.len, h.seen, h.inQ, by show 0 ≤ d.cut - 1; omega, by show d.cut - 1 ≤ _; omega⟩
theorem after_len : d.after.L.length = d.L.length := by
  unfold after
  split
  · rfl
  · split
    · exact loseL_length _ _ _ _
    · rfl
theorem flushed_ok (h : d.Ok) : d.flushed.Ok := ⟨rfl, rfl, by simp [flushed], h.cut0, h.cut1⟩
theorem flushed_len (h : d.Ok) : d.flushed.L.length = d.L.length := h.len
theorem wrote_ok (h : d.Ok) : d.wrote.Ok := ⟨h.len, h.seen, h.inQ, h.cut0, h.cut1⟩
theorem after_none (h : d.cut = 0) : d.after = d := by simp [after, h]
theorem after_wr : d.after.wr = d.wr := by unfold after; split <;> (try split) <;> rfl
theorem after_fl : d.after.fl = d.fl := by unfold after; split <;> (try split) <;> rfl
end Dk
end Go.Proofs.Ythomjcndaddbbaa
