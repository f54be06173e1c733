/-
  No cell of these rows narrows 'for every input' (looked for: loops, veiled, ifaces, maps, wideKeys, modest, calm, conditions, laid).
  DERIVED. THE GIVEN ROWS OF THIS SEAT. 3 by the template 'for every input the law returns true; each argument reads behind the call as it read before'; 0 by the template 'total and deterministic' (their statements: YtjikemhmnkckcabGreatTotals.lean).
  GIVEN WITH THE SEED: the statements are not yours to turn. If you find one false, say at which input.
  Laid BY PROGRAM, IN A SANDBOX (cutbox-rows.mjs): the forced cells as the released guide's own fill.sh prints them over the translation cf4f41cfcc268cef… (all of the seat's roots in one cut). By AI agents, Wed Nov 11 2026. No macro, syntax, notation, axiom, sorry.
-/
import Derived.Test.YtjikemhmnkckcabGreatChecked
import GoSem.Claim
import GoSem.ClaimJoined
import GoSem.ClaimMapViews
import Derived.JoinedTies
import Derived.KernelRfl
namespace Go.Proofs.YtjikemhmnkckcabGreat
/- THE CELL 'sum', in the pinned program and in every row, IS THE sha256 OF THE DUMP (.gsa) THAT YtjikemhmnkckcabGreatProg.lean LOADS. Nothing in Lean hashes anything: it is a label: what it is worth is what the hold of that sum in a sandbox is worth. -/
noncomputable def Tryz.pinned : Pinned := { name := "ytjikemhmnkckcabgreat", sum := "cf4f41cfcc268ceffa5b40ac6ccce6fa1f810ee1c45058fedc8e826ce0a5257a", checked := Tryz.checked }
namespace Rows
def none {H : Type} : Left H := { results := [], args := [] }

/-- 'granulelaw.Runs': WHATEVER THE INPUT: true; the input reads as it did. -/
def runsSpec : ChangeSpec := { name := "runs", fn := fun _ => fun
  | [d1, d2, d3, d4] => { results := [.lit (.bool true)], args := [d1, d2, d3, d4] }
  | _ => none }
def runsRow : OpenClaim := { program := "ytjikemhmnkckcabgreat", sum := "cf4f41cfcc268ceffa5b40ac6ccce6fa1f810ee1c45058fedc8e826ce0a5257a", func := "granule/granulelaw.Runs", spec := "runs", apart := false }
def RunsSaid : Prop := runsRow.holds Tryz.pinned (OpenSpec.ofChange runsSpec)

/-- ITS FALSE NEIGHBOUR: 'it returns false'. Refute it at one input. -/
def runsWrong : ChangeSpec := { name := "runs", fn := fun _ => fun
  | [d1, d2, d3, d4] => { results := [.lit (.bool false)], args := [d1, d2, d3, d4] }
  | _ => none }
def RunsWrongFalsely : Prop := runsRow.holds Tryz.pinned (OpenSpec.ofChange runsWrong)

/-- 'granulekeep.Meant': WHATEVER THE INPUT: true; the input reads as it did. -/
def meantSpec : ChangeSpec := { name := "meant", fn := fun _ => fun
  | [d1, d2, d3, d4] => { results := [.lit (.bool true)], args := [d1, d2, d3, d4] }
  | _ => none }
def meantRow : OpenClaim := { program := "ytjikemhmnkckcabgreat", sum := "cf4f41cfcc268ceffa5b40ac6ccce6fa1f810ee1c45058fedc8e826ce0a5257a", func := "granule/granulekeep.Meant", spec := "meant", apart := false }
def MeantSaid : Prop := meantRow.holds Tryz.pinned (OpenSpec.ofChange meantSpec)

/-- ITS FALSE NEIGHBOUR: 'it returns false'. Refute it at one input. -/
def meantWrong : ChangeSpec := { name := "meant", fn := fun _ => fun
  | [d1, d2, d3, d4] => { results := [.lit (.bool false)], args := [d1, d2, d3, d4] }
  | _ => none }
def MeantWrongFalsely : Prop := meantRow.holds Tryz.pinned (OpenSpec.ofChange meantWrong)

/-- 'granulekeep.Caught': WHATEVER THE INPUT: true; the input reads as it did. -/
def caughtSpec : ChangeSpec := { name := "caught", fn := fun _ => fun
  | [d1, d2, d3, d4] => { results := [.lit (.bool true)], args := [d1, d2, d3, d4] }
  | _ => none }
def caughtRow : OpenClaim := { program := "ytjikemhmnkckcabgreat", sum := "cf4f41cfcc268ceffa5b40ac6ccce6fa1f810ee1c45058fedc8e826ce0a5257a", func := "granule/granulekeep.Caught", spec := "caught", apart := false }
def CaughtSaid : Prop := caughtRow.holds Tryz.pinned (OpenSpec.ofChange caughtSpec)

/-- ITS FALSE NEIGHBOUR: 'it returns false'. Refute it at one input. -/
def caughtWrong : ChangeSpec := { name := "caught", fn := fun _ => fun
  | [d1, d2, d3, d4] => { results := [.lit (.bool false)], args := [d1, d2, d3, d4] }
  | _ => none }
def CaughtWrongFalsely : Prop := caughtRow.holds Tryz.pinned (OpenSpec.ofChange caughtWrong)

/- THE SECOND FORM. 'bulk': how many values and letters a reading holds, each counted each time it is reached (what is shared counts as often as it is met; a slice's spare places count too). A statement '..UptoSaid' is the law's where the arguments, and the package variables that the reading takes, are together of bulk at most 1048576: NARROWER than '..Said'. Prove '..Said' where nothing that the law and all that it calls make is longer than what came in: it says more and counts as full. Else prove '..UptoSaid'. A law counts once. -/
mutual
def uptoBulk {H : Type} : DataW H → Nat
  | .lit (.string bytes) => bytes.length + 1
  | .lit _ => 1
  | .nil => 1
  | .ptr d => uptoBulk d + 1
  | .slice elems spare => uptoBulkAll elems + uptoBulkAll spare + 1
  | .agg parts => uptoBulkAll parts + 1
  | .iface _ d => uptoBulk d + 1
  | .map entries => uptoBulkEntries entries + 1
  | .held _ => 1
def uptoBulkAll {H : Type} : List (DataW H) → Nat
  | [] => 0
  | d :: r => uptoBulk d + uptoBulkAll r
def uptoBulkEntries {H : Type} : List (Lit × DataW H) → Nat
  | [] => 0
  | x :: r => uptoBulkEntry x + uptoBulkEntries r
def uptoBulkEntry {H : Type} : Lit × DataW H → Nat
  | (.string bytes, d) => bytes.length + uptoBulk d + 1
  | (_, d) => uptoBulk d + 1
 end
def uptoSmall : (H : Type) → List (DataW H) → Bool := fun _ ds => decide (uptoBulkAll ds ≤ 1048576)
def OpenSpec.upto (s : _root_.Go.ChangeSpec) : _root_.Go.OpenSpec := { _root_.Go.OpenSpec.ofChange s with cond := some uptoSmall }

/-- 'granulelaw.Runs', WHERE WHAT IT READS IS OF BULK AT MOST 1048576: true; the input reads as it did. -/
def runsUptoRow : OpenClaim := { program := "ytjikemhmnkckcabgreat", sum := "cf4f41cfcc268ceffa5b40ac6ccce6fa1f810ee1c45058fedc8e826ce0a5257a", func := "granule/granulelaw.Runs", spec := "runs", apart := false, narrowed := true }
def RunsUptoSaid : Prop := runsUptoRow.holds Tryz.pinned (OpenSpec.upto runsSpec)

/-- 'granulekeep.Meant', WHERE WHAT IT READS IS OF BULK AT MOST 1048576: true; the input reads as it did. -/
def meantUptoRow : OpenClaim := { program := "ytjikemhmnkckcabgreat", sum := "cf4f41cfcc268ceffa5b40ac6ccce6fa1f810ee1c45058fedc8e826ce0a5257a", func := "granule/granulekeep.Meant", spec := "meant", apart := false, narrowed := true }
def MeantUptoSaid : Prop := meantUptoRow.holds Tryz.pinned (OpenSpec.upto meantSpec)

/-- 'granulekeep.Caught', WHERE WHAT IT READS IS OF BULK AT MOST 1048576: true; the input reads as it did. -/
def caughtUptoRow : OpenClaim := { program := "ytjikemhmnkckcabgreat", sum := "cf4f41cfcc268ceffa5b40ac6ccce6fa1f810ee1c45058fedc8e826ce0a5257a", func := "granule/granulekeep.Caught", spec := "caught", apart := false, narrowed := true }
def CaughtUptoSaid : Prop := caughtUptoRow.holds Tryz.pinned (OpenSpec.upto caughtSpec)

end Rows
end Go.Proofs.YtjikemhmnkckcabGreat
