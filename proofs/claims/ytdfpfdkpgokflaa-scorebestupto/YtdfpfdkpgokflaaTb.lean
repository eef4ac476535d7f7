/-
  What cleaning brings, of segments of 100 of which n live, at age 7; and of those of which 30 live, at age n. No condition but n's bounds.
-/
import Derived.Test.YtdfpfdkpgokflaaPk
namespace Go.Proofs.Ytdfpfdkpgokflaa
open Go.RowKit Ieee

def keyO (o : Option Nat) : Int := match o with | some x => ky x | none => 0
def okO (o : Option Nat) : Bool := match o with | some x => !nan x | none => false
theorem less_key {a b : Option Nat} (ha : okO a = true) (hb : okO b = true) : lessO a b = decide (keyO a < keyO b) := by
  cases a with
  | none => cases ha
  | some x =>
    cases b with
    | none => cases hb
    | some y =>
      have ha : nan x = false := by simpa [okO] using ha
      have hb : nan y = false := by simpa [okO] using hb
      show lessB x y = decide (ky x < ky y)
      unfold lessB
      rw [ha, hb]
      simp
def tA (n : Nat) : Bool := okO (benO n 100 7) && decide (keyO (benO (n + 1) 100 7) < keyO (benO n 100 7))
def tB (n : Nat) : Bool := okO (benO 30 100 n) && decide (keyO (benO 30 100 n) < keyO (benO 30 100 (n + 1)))
set_option maxRecDepth 100000 in
theorem all_A : (List.range 101).all tA = true := by decide +kernel
set_option maxRecDepth 100000 in
theorem all_B : (List.range 1000).all tB = true := by decide +kernel
end Go.Proofs.Ytdfpfdkpgokflaa
