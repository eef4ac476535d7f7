/-
  No cell of these rows narrows 'for every input' (looked for: loops, veiled, ifaces, maps, wideKeys, modest, calm, conditions, laid).
  DERIVED. THE GIVEN ROWS OF THIS SEAT. 3 by the template 'for every input the law returns true; each argument reads behind the call as it read before'; 0 by the template 'total and deterministic' (their statements: YtfelndloobnipaaTotals.lean).
  GIVEN WITH THE SEED: the statements are not yours to turn. If you find one false, say at which input.
  Laid BY PROGRAM, IN A SANDBOX (cutbox-rows.mjs): the forced cells as the released guide's own fill.sh prints them over the translation 169ab9be4653fff1… (all of the seat's roots in one cut). By AI agents, Wed Nov 11 2026. No macro, syntax, notation, axiom, sorry.
-/
import Derived.Test.YtfelndloobnipaaChecked
import GoSem.Claim
import GoSem.ClaimJoined
import GoSem.ClaimMapViews
import Derived.JoinedTies
import Derived.KernelRfl
namespace Go.Proofs.Ytfelndloobnipaa
/- THE CELL 'sum', in the pinned program and in every row, IS THE sha256 OF THE DUMP (.gsa) THAT YtfelndloobnipaaProg.lean LOADS. Nothing in Lean hashes anything: it is a label: what it is worth is what the hold of that sum in a sandbox is worth. -/
noncomputable def Try.pinned : Pinned := { name := "ytfelndloobnipaa", sum := "169ab9be4653fff17344da3ea5edfe784ef07e918e7cec309997c9a858500849", checked := Try.checked }
namespace Rows
def none {H : Type} : Left H := { results := [], args := [] }

/-- 'coraclelaw08.TimerSamples': WHATEVER THE INPUT: true; the input reads as it did. -/
def timerSamplesSpec : ChangeSpec := { name := "timerSamples", fn := fun _ => fun
  | [d1, d2] => { results := [.lit (.bool true)], args := [d1, d2] }
  | _ => none }
def timerSamplesRow : OpenClaim := { program := "ytfelndloobnipaa", sum := "169ab9be4653fff17344da3ea5edfe784ef07e918e7cec309997c9a858500849", func := "coracle/coraclelaw08.TimerSamples", spec := "timerSamples", inPlace := ["math.Float64frombits", "math.Float64bits", "math.archCeil", "math.archFloor", "math.archTrunc"], apart := false }
def TimerSamplesSaid : Prop := timerSamplesRow.holds Try.pinned (OpenSpec.ofChange timerSamplesSpec)

/-- ITS FALSE NEIGHBOUR: 'it returns false'. Refute it at one input. -/
def timerSamplesWrong : ChangeSpec := { name := "timerSamples", fn := fun _ => fun
  | [d1, d2] => { results := [.lit (.bool false)], args := [d1, d2] }
  | _ => none }
def TimerSamplesWrongFalsely : Prop := timerSamplesRow.holds Try.pinned (OpenSpec.ofChange timerSamplesWrong)

/-- 'coraclelaw08.TimerGrows': WHATEVER THE INPUT: true; the input reads as it did. -/
def timerGrowsSpec : ChangeSpec := { name := "timerGrows", fn := fun _ => fun
  | [d1, d2] => { results := [.lit (.bool true)], args := [d1, d2] }
  | _ => none }
def timerGrowsRow : OpenClaim := { program := "ytfelndloobnipaa", sum := "169ab9be4653fff17344da3ea5edfe784ef07e918e7cec309997c9a858500849", func := "coracle/coraclelaw08.TimerGrows", spec := "timerGrows", inPlace := ["math.Float64frombits", "math.Float64bits", "math.archCeil", "math.archFloor", "math.archTrunc"], apart := false }
def TimerGrowsSaid : Prop := timerGrowsRow.holds Try.pinned (OpenSpec.ofChange timerGrowsSpec)

/-- ITS FALSE NEIGHBOUR: 'it returns false'. Refute it at one input. -/
def timerGrowsWrong : ChangeSpec := { name := "timerGrows", fn := fun _ => fun
  | [d1, d2] => { results := [.lit (.bool false)], args := [d1, d2] }
  | _ => none }
def TimerGrowsWrongFalsely : Prop := timerGrowsRow.holds Try.pinned (OpenSpec.ofChange timerGrowsWrong)

/-- 'coraclelaw08.TimerDeaf': WHATEVER THE INPUT: true; the input reads as it did. -/
def timerDeafSpec : ChangeSpec := { name := "timerDeaf", fn := fun _ => fun
  | [d1, d2] => { results := [.lit (.bool true)], args := [d1, d2] }
  | _ => none }
def timerDeafRow : OpenClaim := { program := "ytfelndloobnipaa", sum := "169ab9be4653fff17344da3ea5edfe784ef07e918e7cec309997c9a858500849", func := "coracle/coraclelaw08.TimerDeaf", spec := "timerDeaf", inPlace := ["math.Float64frombits", "math.Float64bits", "math.archCeil", "math.archFloor", "math.archTrunc"], apart := false }
def TimerDeafSaid : Prop := timerDeafRow.holds Try.pinned (OpenSpec.ofChange timerDeafSpec)

/-- ITS FALSE NEIGHBOUR: 'it returns false'. Refute it at one input. -/
def timerDeafWrong : ChangeSpec := { name := "timerDeaf", fn := fun _ => fun
  | [d1, d2] => { results := [.lit (.bool false)], args := [d1, d2] }
  | _ => none }
def TimerDeafWrongFalsely : Prop := timerDeafRow.holds Try.pinned (OpenSpec.ofChange timerDeafWrong)

/- THE SECOND FORM. 'bulk': how many values and letters a reading holds, each counted each time it is reached (what is shared counts as often as it is met; a slice's spare places count too). A statement '..UptoSaid' is the law's where the arguments, and the package variables that the reading takes, are together of bulk at most 1048576: NARROWER than '..Said'. Prove '..Said' where nothing that the law and all that it calls make is longer than what came in: it says more and counts as full. Else prove '..UptoSaid'. A law counts once. -/
mutual
def uptoBulk {H : Type} : DataW H → Nat
  | .lit (.string bytes) => bytes.length + 1
  | .lit _ => 1
  | .nil => 1
  | .ptr d => uptoBulk d + 1
  | .slice elems spare => uptoBulkAll elems + uptoBulkAll spare + 1
  | .agg parts => uptoBulkAll parts + 1
  | .iface _ d => uptoBulk d + 1
  | .map entries => uptoBulkEntries entries + 1
  | .held _ => 1
def uptoBulkAll {H : Type} : List (DataW H) → Nat
  | [] => 0
  | d :: r => uptoBulk d + uptoBulkAll r
def uptoBulkEntries {H : Type} : List (Lit × DataW H) → Nat
  | [] => 0
  | x :: r => uptoBulkEntry x + uptoBulkEntries r
def uptoBulkEntry {H : Type} : Lit × DataW H → Nat
  | (.string bytes, d) => bytes.length + uptoBulk d + 1
  | (_, d) => uptoBulk d + 1
 end
def uptoSmall : (H : Type) → List (DataW H) → Bool := fun _ ds => decide (uptoBulkAll ds ≤ 1048576)
def OpenSpec.upto (s : _root_.Go.ChangeSpec) : _root_.Go.OpenSpec := { _root_.Go.OpenSpec.ofChange s with cond := some uptoSmall }

/-- 'coraclelaw08.TimerSamples', WHERE WHAT IT READS IS OF BULK AT MOST 1048576: true; the input reads as it did. -/
def timerSamplesUptoRow : OpenClaim := { program := "ytfelndloobnipaa", sum := "169ab9be4653fff17344da3ea5edfe784ef07e918e7cec309997c9a858500849", func := "coracle/coraclelaw08.TimerSamples", spec := "timerSamples", inPlace := ["math.Float64frombits", "math.Float64bits", "math.archCeil", "math.archFloor", "math.archTrunc"], apart := false, narrowed := true }
def TimerSamplesUptoSaid : Prop := timerSamplesUptoRow.holds Try.pinned (OpenSpec.upto timerSamplesSpec)

/-- 'coraclelaw08.TimerGrows', WHERE WHAT IT READS IS OF BULK AT MOST 1048576: true; the input reads as it did. -/
def timerGrowsUptoRow : OpenClaim := { program := "ytfelndloobnipaa", sum := "169ab9be4653fff17344da3ea5edfe784ef07e918e7cec309997c9a858500849", func := "coracle/coraclelaw08.TimerGrows", spec := "timerGrows", inPlace := ["math.Float64frombits", "math.Float64bits", "math.archCeil", "math.archFloor", "math.archTrunc"], apart := false, narrowed := true }
def TimerGrowsUptoSaid : Prop := timerGrowsUptoRow.holds Try.pinned (OpenSpec.upto timerGrowsSpec)

/-- 'coraclelaw08.TimerDeaf', WHERE WHAT IT READS IS OF BULK AT MOST 1048576: true; the input reads as it did. -/
def timerDeafUptoRow : OpenClaim := { program := "ytfelndloobnipaa", sum := "169ab9be4653fff17344da3ea5edfe784ef07e918e7cec309997c9a858500849", func := "coracle/coraclelaw08.TimerDeaf", spec := "timerDeaf", inPlace := ["math.Float64frombits", "math.Float64bits", "math.archCeil", "math.archFloor", "math.archTrunc"], apart := false, narrowed := true }
def TimerDeafUptoSaid : Prop := timerDeafUptoRow.holds Try.pinned (OpenSpec.upto timerDeafSpec)

end Rows
end Go.Proofs.Ytfelndloobnipaa
