/-
  What Write, Flush and Read answer and leave, by one function each. No condition.
-/
import Derived.Test.YthomjcndaddbbaaDl
namespace Go.Proofs.Ythomjcndaddbbaa
namespace Dk
/-- Is the sector there, and the text short enough? -/
def bad (d : Dk) (n : Int) : Bool := decide (n < 0 ∨ (d.L.length : Int) ≤ n)
def wcode (d : Dk) (n : Int) (s : ByteArray) : Int := if d.bad n || decide (256 < s.size) then 1 else if d.off || d.fails then 20 else 0
def wnext (d : Dk) (n : Int) (s : ByteArray) : Dk :=
  if d.bad n || decide (256 < s.size) then d else if d.off then d else if d.fails then (d.queued n.toNat s).after else (d.queued n.toNat s).after.wrote
def fcode (d : Dk) : Int := if d.off || d.fails then 20 else 0
def fnext (d : Dk) : Dk := if d.off then d else if d.fails then d.after else d.after.flushed
def rcode (d : Dk) (n : Int) : Int := if d.bad n then 1 else if d.off then 20 else 0
def rtext (d : Dk) (n : Int) : ByteArray := if d.bad n || d.off then ⟨#[]⟩ else d.S.getD n.toNat ⟨#[]⟩

/-- Bounds on what is counted. -/
structure Lim (d : Dk) (m : Nat) : Prop where
  q : d.Q.length ≤ m
  wr0 : 0 ≤ d.wr
  wr1 : d.wr ≤ m
  fl0 : 0 ≤ d.fl
  fl1 : d.fl ≤ m
variable {d : Dk}
theorem Lim.more {m : Nat} (h : d.Lim m) : d.Lim (m + 1) := by
  have h1 := h.q; have h2 := h.wr1; have h3 := h.fl1
  exact ⟨by omega, h.wr0, by omega, h.fl0, by omega⟩
theorem new_lim (n : Nat) : (new n).Lim 0 := ⟨Nat.le_refl 0, Int.le_refl 0, Int.le_refl 0, Int.le_refl 0, Int.le_refl 0⟩
theorem after_keep : d.after.keep = d.keep := by unfold after; split <;> (try split) <;> rfl
theorem after_cut (h : d.after.cut ≠ 0) : d.cut ≠ 0 := by
  intro e; rw [after_none e] at h; exact h e
theorem after_lim {m : Nat} (h : d.Lim m) : d.after.Lim m := by
  refine ⟨?_, by rw [after_wr]; exact h.wr0, by rw [after_wr]; exact h.wr1, by rw [after_fl]; exact h.fl0, by rw [after_fl]; exact h.fl1⟩
  have := h.q
  unfold after
  split
  · exact this
  · split
    · simp [lose]
    · exact this
theorem queued_lim {m : Nat} (h : d.Lim m) (n : Nat) (s : ByteArray) : (d.queued n s).Lim (m + 1) := by
  have h1 := h.q; have h2 := h.wr1; have h3 := h.fl1
  exact ⟨by show (d.Q ++ _).length ≤ _; simp; omega, h.wr0, by show d.wr ≤ _; omega, h.fl0, by show d.fl ≤ _; omega⟩
theorem wnext_ok (h : d.Ok) (n : Int) (s : ByteArray) : (d.wnext n s).Ok ∧ (d.wnext n s).L.length = d.L.length ∧ (d.wnext n s).keep = d.keep ∧ ((d.wnext n s).cut ≠ 0 → d.cut ≠ 0) := by
  unfold wnext
  by_cases hb : (d.bad n || decide (256 < s.size)) = true
  · rw [if_pos hb]; exact ⟨h, rfl, rfl, id⟩
  rw [if_neg hb]
  have hn : n.toNat < d.L.length := by
    simp [bad] at hb; omega
  by_cases ho : d.off = true
  · rw [if_pos ho]; exact ⟨h, rfl, rfl, id⟩
  rw [if_neg ho]
  have hk := queued_ok h n.toNat s hn
  split
  · exact ⟨after_ok hk, after_len, after_keep, fun e => after_cut (d := d.queued n.toNat s) e⟩
  · exact ⟨wrote_ok (after_ok hk), after_len, after_keep, fun e => after_cut (d := d.queued n.toNat s) e⟩
theorem wnext_lim {m : Nat} (h : d.Lim m) (n : Int) (s : ByteArray) : (d.wnext n s).Lim (m + 1) := by
  have hq : (d.queued n.toNat s).after.Lim (m + 1) := after_lim (queued_lim h n.toNat s)
  have hw : (d.queued n.toNat s).after.wr = d.wr := after_wr
  unfold wnext
  split
  · exact h.more
  · split
    · exact h.more
    · split
      · exact hq
      · have h1 := h.wr0; have h2 := h.wr1
        exact ⟨hq.q, by show 0 ≤ (d.queued n.toNat s).after.wr + 1; omega, by show (d.queued n.toNat s).after.wr + 1 ≤ _; omega, hq.fl0, hq.fl1⟩
theorem fnext_ok (h : d.Ok) : d.fnext.Ok ∧ d.fnext.L.length = d.L.length ∧ d.fnext.keep = d.keep ∧ (d.fnext.cut ≠ 0 → d.cut ≠ 0) := by
  unfold fnext
  split
  · exact ⟨h, rfl, rfl, id⟩
  · split
    · exact ⟨after_ok h, after_len, after_keep, after_cut⟩
    · exact ⟨flushed_ok (after_ok h), (flushed_len (after_ok h)).trans after_len, after_keep, after_cut⟩
theorem fnext_lim {m : Nat} (h : d.Lim m) : d.fnext.Lim (m + 1) := by
  have ha := after_lim h
  have hw : d.after.fl = d.fl := after_fl
  unfold fnext
  split
  · exact h.more
  · split
    · exact ha.more
    · have h1 := ha.wr1; have h2 := ha.fl0; have h3 := ha.fl1
      exact ⟨Nat.zero_le _, ha.wr0, by show d.after.wr ≤ _; omega, by show 0 ≤ d.after.fl + 1; omega, by show d.after.fl + 1 ≤ _; omega⟩
theorem crash_lim {m : Nat} (h : d.Lim m) (k : Int) : (d.crash k).Lim (m + 1) := by
  have h2 := h.wr1; have h3 := h.fl1
  exact ⟨Nat.zero_le _, h.wr0, by show d.wr ≤ _; omega, h.fl0, by show d.fl ≤ _; omega⟩
theorem on_lim {m : Nat} (h : d.Lim m) : d.on.Lim m := ⟨h.q, h.wr0, h.wr1, h.fl0, h.fl1⟩
theorem setCut_lim {m : Nat} (h : d.Lim m) (n k : Int) : (d.setCut n k).Lim m := ⟨h.q, h.wr0, h.wr1, h.fl0, h.fl1⟩
end Dk
end Go.Proofs.Ythomjcndaddbbaa
