/-
  A disk as plain data: what lasts, what is seen, the queue, and what each call does to them. No condition.
-/
namespace Go.Proofs.Ythomjcndaddbbaa

/-- A sector's bytes, filled up. -/
def full (s : ByteArray) : ByteArray := ⟨(s.data.toList ++ List.replicate (256 - s.size) 0).toArray⟩

structure Dk where
  L : List ByteArray
  S : List ByteArray
  Q : List (Nat × ByteArray)
  off : Bool
  cut : Int
  keep : Int
  wr : Int
  fl : Int

/-- The bit of keep that tells of the i-th write. -/
def bitOf (keep : Int) (i : Nat) : Bool := decide (keep / (2 : Int) ^ (i % 60) % 2 = 1)

/-- What lasts of the queue, from the i-th on. -/
def loseL (keep : Int) : List (Nat × ByteArray) → Nat → List ByteArray → List ByteArray
  | [], _, l => l
  | x :: r, i, l => loseL keep r (i + 1) (if bitOf keep i then l.set x.1 x.2 else l)

theorem loseL_length (keep : Int) : ∀ (q : List (Nat × ByteArray)) (i : Nat) (l : List ByteArray), (loseL keep q i l).length = l.length
  | [], _, _ => rfl
  | x :: r, i, l => by
    unfold loseL
    rw [loseL_length keep r]
    split <;> simp

theorem loseL_snoc (keep : Int) : ∀ (q : List (Nat × ByteArray)) (x : Nat × ByteArray) (i : Nat) (l : List ByteArray),
    loseL keep (q ++ [x]) i l = if bitOf keep (i + q.length) then (loseL keep q i l).set x.1 x.2 else loseL keep q i l
  | [], x, i, l => by simp [loseL]
  | y :: r, x, i, l => by
    simp only [List.cons_append, loseL]
    rw [loseL_snoc keep r x]
    rw [show i + 1 + r.length = i + (y :: r).length from by simp; omega]

/-- The queue laid over. -/
def over (q : List (Nat × ByteArray)) (l : List ByteArray) : List ByteArray := q.foldl (fun a x => a.set x.1 x.2) l
theorem over_length : ∀ (q : List (Nat × ByteArray)) (l : List ByteArray), (over q l).length = l.length
  | [], _ => rfl
  | x :: r, l => by
    show (over r (l.set x.1 x.2)).length = _
    rw [over_length r]; simp
theorem over_snoc (q : List (Nat × ByteArray)) (x : Nat × ByteArray) (l : List ByteArray) : over (q ++ [x]) l = (over q l).set x.1 x.2 := by
  simp [over]

namespace Dk
def new (n : Nat) : Dk := ⟨List.replicate n (full ⟨#[]⟩), List.replicate n (full ⟨#[]⟩), [], false, 0, 0, 0, 0⟩
def lose (d : Dk) (keep : Int) : Dk := { d with L := loseL keep d.Q 0 d.L, S := loseL keep d.Q 0 d.L, Q := [] }
def on (d : Dk) : Dk := { d with off := false, cut := 0, keep := 0 }
def crash (d : Dk) (keep : Int) : Dk := (d.lose keep).on
def setCut (d : Dk) (n keep : Int) : Dk := { d with cut := max n 1, keep := keep }
/-- Does the power go off now? -/
def fails (d : Dk) : Bool := d.cut == 1
/-- What is behind that. -/
def after (d : Dk) : Dk := if d.cut == 0 then d else if d.cut == 1 then { ({ d with cut := 0 } : Dk).lose d.keep with off := true } else { d with cut := d.cut - 1 }
def queued (d : Dk) (n : Nat) (s : ByteArray) : Dk := { d with Q := d.Q ++ [(n, full s)], S := d.S.set n (full s) }
def flushed (d : Dk) : Dk := { d with L := d.S, Q := [], fl := d.fl + 1 }
def wrote (d : Dk) : Dk := { d with wr := d.wr + 1 }
/-- A disk as it may be. -/
structure Ok (d : Dk) : Prop where
  len : d.S.length = d.L.length
  seen : d.S = over d.Q d.L
  inQ : ∀ x ∈ d.Q, x.1 < d.L.length
  cut0 : 0 ≤ d.cut
  cut1 : d.cut ≤ 9223372036854775807
end Dk
end Go.Proofs.Ythomjcndaddbbaa
