/-
  No cell of these rows narrows 'for every input' (looked for: loops, veiled, ifaces, maps, wideKeys, modest, calm, conditions, laid).
  DERIVED. THE GIVEN ROWS OF THIS SEAT. 12 by the template 'for every input the law returns true; each argument reads behind the call as it read before'; 0 by the template 'total and deterministic' (their statements: YtjikemhmnkckcaaTotals.lean).
  GIVEN WITH THE SEED: the statements are not yours to turn. If you find one false, say at which input.
  Laid BY PROGRAM, IN A SANDBOX (cutbox-rows.mjs): the forced cells as the released guide's own fill.sh prints them over the translation aa3cf3624f0b63cf… (all of the seat's roots in one cut). By AI agents, Wed Nov 11 2026. No macro, syntax, notation, axiom, sorry.
-/
import Derived.Test.YtjikemhmnkckcaaChecked
import GoSem.Claim
import GoSem.ClaimJoined
import GoSem.ClaimMapViews
import Derived.JoinedTies
import Derived.KernelRfl
namespace Go.Proofs.Ytjikemhmnkckcaa
/- THE CELL 'sum', in the pinned program and in every row, IS THE sha256 OF THE DUMP (.gsa) THAT YtjikemhmnkckcaaProg.lean LOADS. Nothing in Lean hashes anything: it is a label: what it is worth is what the hold of that sum in a sandbox is worth. -/
noncomputable def Try.pinned : Pinned := { name := "ytjikemhmnkckcaa", sum := "aa3cf3624f0b63cf0e120715a9dc7db7646d93f17a9b91e67f1bfac1c353810e", checked := Try.checked }
namespace Rows
def none {H : Type} : Left H := { results := [], args := [] }

/-- 'granulelaw.News': WHATEVER THE INPUT: true; the input reads as it did. -/
def newsSpec : ChangeSpec := { name := "news", fn := fun _ => fun
  | [d1, d2] => { results := [.lit (.bool true)], args := [d1, d2] }
  | _ => none }
def newsRow : OpenClaim := { program := "ytjikemhmnkckcaa", sum := "aa3cf3624f0b63cf0e120715a9dc7db7646d93f17a9b91e67f1bfac1c353810e", func := "granule/granulelaw.News", spec := "news", apart := false }
def NewsSaid : Prop := newsRow.holds Try.pinned (OpenSpec.ofChange newsSpec)

/-- ITS FALSE NEIGHBOUR: 'it returns false'. Refute it at one input. -/
def newsWrong : ChangeSpec := { name := "news", fn := fun _ => fun
  | [d1, d2] => { results := [.lit (.bool false)], args := [d1, d2] }
  | _ => none }
def NewsWrongFalsely : Prop := newsRow.holds Try.pinned (OpenSpec.ofChange newsWrong)

/-- 'granulelaw.Picks': WHATEVER THE INPUT: true; the input reads as it did. -/
def picksSpec : ChangeSpec := { name := "picks", fn := fun _ => fun
  | [d1, d2, d3, d4] => { results := [.lit (.bool true)], args := [d1, d2, d3, d4] }
  | _ => none }
def picksRow : OpenClaim := { program := "ytjikemhmnkckcaa", sum := "aa3cf3624f0b63cf0e120715a9dc7db7646d93f17a9b91e67f1bfac1c353810e", func := "granule/granulelaw.Picks", spec := "picks", apart := false }
def PicksSaid : Prop := picksRow.holds Try.pinned (OpenSpec.ofChange picksSpec)

/-- ITS FALSE NEIGHBOUR: 'it returns false'. Refute it at one input. -/
def picksWrong : ChangeSpec := { name := "picks", fn := fun _ => fun
  | [d1, d2, d3, d4] => { results := [.lit (.bool false)], args := [d1, d2, d3, d4] }
  | _ => none }
def PicksWrongFalsely : Prop := picksRow.holds Try.pinned (OpenSpec.ofChange picksWrong)

/-- 'granulelaw.Mallocs': WHATEVER THE INPUT: true; the input reads as it did. -/
def mallocsSpec : ChangeSpec := { name := "mallocs", fn := fun _ => fun
  | [d1, d2] => { results := [.lit (.bool true)], args := [d1, d2] }
  | _ => none }
def mallocsRow : OpenClaim := { program := "ytjikemhmnkckcaa", sum := "aa3cf3624f0b63cf0e120715a9dc7db7646d93f17a9b91e67f1bfac1c353810e", func := "granule/granulelaw.Mallocs", spec := "mallocs", apart := false }
def MallocsSaid : Prop := mallocsRow.holds Try.pinned (OpenSpec.ofChange mallocsSpec)

/-- ITS FALSE NEIGHBOUR: 'it returns false'. Refute it at one input. -/
def mallocsWrong : ChangeSpec := { name := "mallocs", fn := fun _ => fun
  | [d1, d2] => { results := [.lit (.bool false)], args := [d1, d2] }
  | _ => none }
def MallocsWrongFalsely : Prop := mallocsRow.holds Try.pinned (OpenSpec.ofChange mallocsWrong)

/-- 'granulekeep.Fair': WHATEVER THE INPUT: true; the input reads as it did. -/
def fairSpec : ChangeSpec := { name := "fair", fn := fun _ => fun
  | [d1, d2, d3, d4] => { results := [.lit (.bool true)], args := [d1, d2, d3, d4] }
  | _ => none }
def fairRow : OpenClaim := { program := "ytjikemhmnkckcaa", sum := "aa3cf3624f0b63cf0e120715a9dc7db7646d93f17a9b91e67f1bfac1c353810e", func := "granule/granulekeep.Fair", spec := "fair", apart := false }
def FairSaid : Prop := fairRow.holds Try.pinned (OpenSpec.ofChange fairSpec)

/-- ITS FALSE NEIGHBOUR: 'it returns false'. Refute it at one input. -/
def fairWrong : ChangeSpec := { name := "fair", fn := fun _ => fun
  | [d1, d2, d3, d4] => { results := [.lit (.bool false)], args := [d1, d2, d3, d4] }
  | _ => none }
def FairWrongFalsely : Prop := fairRow.holds Try.pinned (OpenSpec.ofChange fairWrong)

/-- 'granulekeep.Rested': WHATEVER THE INPUT: true; the input reads as it did. -/
def restedSpec : ChangeSpec := { name := "rested", fn := fun _ => fun
  | [d1, d2] => { results := [.lit (.bool true)], args := [d1, d2] }
  | _ => none }
def restedRow : OpenClaim := { program := "ytjikemhmnkckcaa", sum := "aa3cf3624f0b63cf0e120715a9dc7db7646d93f17a9b91e67f1bfac1c353810e", func := "granule/granulekeep.Rested", spec := "rested", apart := false }
def RestedSaid : Prop := restedRow.holds Try.pinned (OpenSpec.ofChange restedSpec)

/-- ITS FALSE NEIGHBOUR: 'it returns false'. Refute it at one input. -/
def restedWrong : ChangeSpec := { name := "rested", fn := fun _ => fun
  | [d1, d2] => { results := [.lit (.bool false)], args := [d1, d2] }
  | _ => none }
def RestedWrongFalsely : Prop := restedRow.holds Try.pinned (OpenSpec.ofChange restedWrong)

/-- 'granulelaw.Touches': WHATEVER THE INPUT: true; the input reads as it did. -/
def touchesSpec : ChangeSpec := { name := "touches", fn := fun _ => fun
  | [d1, d2] => { results := [.lit (.bool true)], args := [d1, d2] }
  | _ => none }
def touchesRow : OpenClaim := { program := "ytjikemhmnkckcaa", sum := "aa3cf3624f0b63cf0e120715a9dc7db7646d93f17a9b91e67f1bfac1c353810e", func := "granule/granulelaw.Touches", spec := "touches", apart := false }
def TouchesSaid : Prop := touchesRow.holds Try.pinned (OpenSpec.ofChange touchesSpec)

/-- ITS FALSE NEIGHBOUR: 'it returns false'. Refute it at one input. -/
def touchesWrong : ChangeSpec := { name := "touches", fn := fun _ => fun
  | [d1, d2] => { results := [.lit (.bool false)], args := [d1, d2] }
  | _ => none }
def TouchesWrongFalsely : Prop := touchesRow.holds Try.pinned (OpenSpec.ofChange touchesWrong)

/-- 'granulekeep.Apart': WHATEVER THE INPUT: true; the input reads as it did. -/
def apartSpec : ChangeSpec := { name := "apart", fn := fun _ => fun
  | [d1, d2] => { results := [.lit (.bool true)], args := [d1, d2] }
  | _ => none }
def apartRow : OpenClaim := { program := "ytjikemhmnkckcaa", sum := "aa3cf3624f0b63cf0e120715a9dc7db7646d93f17a9b91e67f1bfac1c353810e", func := "granule/granulekeep.Apart", spec := "apart", apart := false }
def ApartSaid : Prop := apartRow.holds Try.pinned (OpenSpec.ofChange apartSpec)

/-- ITS FALSE NEIGHBOUR: 'it returns false'. Refute it at one input. -/
def apartWrong : ChangeSpec := { name := "apart", fn := fun _ => fun
  | [d1, d2] => { results := [.lit (.bool false)], args := [d1, d2] }
  | _ => none }
def ApartWrongFalsely : Prop := apartRow.holds Try.pinned (OpenSpec.ofChange apartWrong)

/-- 'granulekeep.Stale': WHATEVER THE INPUT: true; the input reads as it did. -/
def staleSpec : ChangeSpec := { name := "stale", fn := fun _ => fun
  | [d1, d2] => { results := [.lit (.bool true)], args := [d1, d2] }
  | _ => none }
def staleRow : OpenClaim := { program := "ytjikemhmnkckcaa", sum := "aa3cf3624f0b63cf0e120715a9dc7db7646d93f17a9b91e67f1bfac1c353810e", func := "granule/granulekeep.Stale", spec := "stale", apart := false }
def StaleSaid : Prop := staleRow.holds Try.pinned (OpenSpec.ofChange staleSpec)

/-- ITS FALSE NEIGHBOUR: 'it returns false'. Refute it at one input. -/
def staleWrong : ChangeSpec := { name := "stale", fn := fun _ => fun
  | [d1, d2] => { results := [.lit (.bool false)], args := [d1, d2] }
  | _ => none }
def StaleWrongFalsely : Prop := staleRow.holds Try.pinned (OpenSpec.ofChange staleWrong)

/-- 'granulekeep.Chance': WHATEVER THE INPUT: true; the input reads as it did. -/
def chanceSpec : ChangeSpec := { name := "chance", fn := fun _ => fun
  | [d1, d2, d3, d4, d5, d6] => { results := [.lit (.bool true)], args := [d1, d2, d3, d4, d5, d6] }
  | _ => none }
def chanceRow : OpenClaim := { program := "ytjikemhmnkckcaa", sum := "aa3cf3624f0b63cf0e120715a9dc7db7646d93f17a9b91e67f1bfac1c353810e", func := "granule/granulekeep.Chance", spec := "chance", apart := false }
def ChanceSaid : Prop := chanceRow.holds Try.pinned (OpenSpec.ofChange chanceSpec)

/-- ITS FALSE NEIGHBOUR: 'it returns false'. Refute it at one input. -/
def chanceWrong : ChangeSpec := { name := "chance", fn := fun _ => fun
  | [d1, d2, d3, d4, d5, d6] => { results := [.lit (.bool false)], args := [d1, d2, d3, d4, d5, d6] }
  | _ => none }
def ChanceWrongFalsely : Prop := chanceRow.holds Try.pinned (OpenSpec.ofChange chanceWrong)

/-- 'granulelaw.Explains': WHATEVER THE INPUT: true; the input reads as it did. -/
def explainsSpec : ChangeSpec := { name := "explains", fn := fun _ => fun
  | [d1, d2] => { results := [.lit (.bool true)], args := [d1, d2] }
  | _ => none }
def explainsRow : OpenClaim := { program := "ytjikemhmnkckcaa", sum := "aa3cf3624f0b63cf0e120715a9dc7db7646d93f17a9b91e67f1bfac1c353810e", func := "granule/granulelaw.Explains", spec := "explains", apart := false }
def ExplainsSaid : Prop := explainsRow.holds Try.pinned (OpenSpec.ofChange explainsSpec)

/-- ITS FALSE NEIGHBOUR: 'it returns false'. Refute it at one input. -/
def explainsWrong : ChangeSpec := { name := "explains", fn := fun _ => fun
  | [d1, d2] => { results := [.lit (.bool false)], args := [d1, d2] }
  | _ => none }
def ExplainsWrongFalsely : Prop := explainsRow.holds Try.pinned (OpenSpec.ofChange explainsWrong)

/-- 'granulelaw.Heaps': WHATEVER THE INPUT: true; the input reads as it did. -/
def heapsSpec : ChangeSpec := { name := "heaps", fn := fun _ => fun
  | [d1, d2] => { results := [.lit (.bool true)], args := [d1, d2] }
  | _ => none }
def heapsRow : OpenClaim := { program := "ytjikemhmnkckcaa", sum := "aa3cf3624f0b63cf0e120715a9dc7db7646d93f17a9b91e67f1bfac1c353810e", func := "granule/granulelaw.Heaps", spec := "heaps", apart := false }
def HeapsSaid : Prop := heapsRow.holds Try.pinned (OpenSpec.ofChange heapsSpec)

/-- ITS FALSE NEIGHBOUR: 'it returns false'. Refute it at one input. -/
def heapsWrong : ChangeSpec := { name := "heaps", fn := fun _ => fun
  | [d1, d2] => { results := [.lit (.bool false)], args := [d1, d2] }
  | _ => none }
def HeapsWrongFalsely : Prop := heapsRow.holds Try.pinned (OpenSpec.ofChange heapsWrong)

/-- 'granulekeep.Named': WHATEVER THE INPUT: true; the input reads as it did. -/
def namedSpec : ChangeSpec := { name := "named", fn := fun _ => fun
  | [d1, d2] => { results := [.lit (.bool true)], args := [d1, d2] }
  | _ => none }
def namedRow : OpenClaim := { program := "ytjikemhmnkckcaa", sum := "aa3cf3624f0b63cf0e120715a9dc7db7646d93f17a9b91e67f1bfac1c353810e", func := "granule/granulekeep.Named", spec := "named", apart := false }
def NamedSaid : Prop := namedRow.holds Try.pinned (OpenSpec.ofChange namedSpec)

/-- ITS FALSE NEIGHBOUR: 'it returns false'. Refute it at one input. -/
def namedWrong : ChangeSpec := { name := "named", fn := fun _ => fun
  | [d1, d2] => { results := [.lit (.bool false)], args := [d1, d2] }
  | _ => none }
def NamedWrongFalsely : Prop := namedRow.holds Try.pinned (OpenSpec.ofChange namedWrong)

/- THE SECOND FORM. 'bulk': how many values and letters a reading holds, each counted each time it is reached (what is shared counts as often as it is met; a slice's spare places count too). A statement '..UptoSaid' is the law's where the arguments, and the package variables that the reading takes, are together of bulk at most 1048576: NARROWER than '..Said'. Prove '..Said' where nothing that the law and all that it calls make is longer than what came in: it says more and counts as full. Else prove '..UptoSaid'. A law counts once. -/
mutual
def uptoBulk {H : Type} : DataW H → Nat
  | .lit (.string bytes) => bytes.length + 1
  | .lit _ => 1
  | .nil => 1
  | .ptr d => uptoBulk d + 1
  | .slice elems spare => uptoBulkAll elems + uptoBulkAll spare + 1
  | .agg parts => uptoBulkAll parts + 1
  | .iface _ d => uptoBulk d + 1
  | .map entries => uptoBulkEntries entries + 1
  | .held _ => 1
def uptoBulkAll {H : Type} : List (DataW H) → Nat
  | [] => 0
  | d :: r => uptoBulk d + uptoBulkAll r
def uptoBulkEntries {H : Type} : List (Lit × DataW H) → Nat
  | [] => 0
  | x :: r => uptoBulkEntry x + uptoBulkEntries r
def uptoBulkEntry {H : Type} : Lit × DataW H → Nat
  | (.string bytes, d) => bytes.length + uptoBulk d + 1
  | (_, d) => uptoBulk d + 1
 end
def uptoSmall : (H : Type) → List (DataW H) → Bool := fun _ ds => decide (uptoBulkAll ds ≤ 1048576)
def OpenSpec.upto (s : _root_.Go.ChangeSpec) : _root_.Go.OpenSpec := { _root_.Go.OpenSpec.ofChange s with cond := some uptoSmall }

/-- 'granulelaw.News', WHERE WHAT IT READS IS OF BULK AT MOST 1048576: true; the input reads as it did. -/
def newsUptoRow : OpenClaim := { program := "ytjikemhmnkckcaa", sum := "aa3cf3624f0b63cf0e120715a9dc7db7646d93f17a9b91e67f1bfac1c353810e", func := "granule/granulelaw.News", spec := "news", apart := false, narrowed := true }
def NewsUptoSaid : Prop := newsUptoRow.holds Try.pinned (OpenSpec.upto newsSpec)

/-- 'granulelaw.Picks', WHERE WHAT IT READS IS OF BULK AT MOST 1048576: true; the input reads as it did. -/
def picksUptoRow : OpenClaim := { program := "ytjikemhmnkckcaa", sum := "aa3cf3624f0b63cf0e120715a9dc7db7646d93f17a9b91e67f1bfac1c353810e", func := "granule/granulelaw.Picks", spec := "picks", apart := false, narrowed := true }
def PicksUptoSaid : Prop := picksUptoRow.holds Try.pinned (OpenSpec.upto picksSpec)

/-- 'granulelaw.Mallocs', WHERE WHAT IT READS IS OF BULK AT MOST 1048576: true; the input reads as it did. -/
def mallocsUptoRow : OpenClaim := { program := "ytjikemhmnkckcaa", sum := "aa3cf3624f0b63cf0e120715a9dc7db7646d93f17a9b91e67f1bfac1c353810e", func := "granule/granulelaw.Mallocs", spec := "mallocs", apart := false, narrowed := true }
def MallocsUptoSaid : Prop := mallocsUptoRow.holds Try.pinned (OpenSpec.upto mallocsSpec)

/-- 'granulekeep.Fair', WHERE WHAT IT READS IS OF BULK AT MOST 1048576: true; the input reads as it did. -/
def fairUptoRow : OpenClaim := { program := "ytjikemhmnkckcaa", sum := "aa3cf3624f0b63cf0e120715a9dc7db7646d93f17a9b91e67f1bfac1c353810e", func := "granule/granulekeep.Fair", spec := "fair", apart := false, narrowed := true }
def FairUptoSaid : Prop := fairUptoRow.holds Try.pinned (OpenSpec.upto fairSpec)

/-- 'granulekeep.Rested', WHERE WHAT IT READS IS OF BULK AT MOST 1048576: true; the input reads as it did. -/
def restedUptoRow : OpenClaim := { program := "ytjikemhmnkckcaa", sum := "aa3cf3624f0b63cf0e120715a9dc7db7646d93f17a9b91e67f1bfac1c353810e", func := "granule/granulekeep.Rested", spec := "rested", apart := false, narrowed := true }
def RestedUptoSaid : Prop := restedUptoRow.holds Try.pinned (OpenSpec.upto restedSpec)

/-- 'granulelaw.Touches', WHERE WHAT IT READS IS OF BULK AT MOST 1048576: true; the input reads as it did. -/
def touchesUptoRow : OpenClaim := { program := "ytjikemhmnkckcaa", sum := "aa3cf3624f0b63cf0e120715a9dc7db7646d93f17a9b91e67f1bfac1c353810e", func := "granule/granulelaw.Touches", spec := "touches", apart := false, narrowed := true }
def TouchesUptoSaid : Prop := touchesUptoRow.holds Try.pinned (OpenSpec.upto touchesSpec)

/-- 'granulekeep.Apart', WHERE WHAT IT READS IS OF BULK AT MOST 1048576: true; the input reads as it did. -/
def apartUptoRow : OpenClaim := { program := "ytjikemhmnkckcaa", sum := "aa3cf3624f0b63cf0e120715a9dc7db7646d93f17a9b91e67f1bfac1c353810e", func := "granule/granulekeep.Apart", spec := "apart", apart := false, narrowed := true }
def ApartUptoSaid : Prop := apartUptoRow.holds Try.pinned (OpenSpec.upto apartSpec)

/-- 'granulekeep.Stale', WHERE WHAT IT READS IS OF BULK AT MOST 1048576: true; the input reads as it did. -/
def staleUptoRow : OpenClaim := { program := "ytjikemhmnkckcaa", sum := "aa3cf3624f0b63cf0e120715a9dc7db7646d93f17a9b91e67f1bfac1c353810e", func := "granule/granulekeep.Stale", spec := "stale", apart := false, narrowed := true }
def StaleUptoSaid : Prop := staleUptoRow.holds Try.pinned (OpenSpec.upto staleSpec)

/-- 'granulekeep.Chance', WHERE WHAT IT READS IS OF BULK AT MOST 1048576: true; the input reads as it did. -/
def chanceUptoRow : OpenClaim := { program := "ytjikemhmnkckcaa", sum := "aa3cf3624f0b63cf0e120715a9dc7db7646d93f17a9b91e67f1bfac1c353810e", func := "granule/granulekeep.Chance", spec := "chance", apart := false, narrowed := true }
def ChanceUptoSaid : Prop := chanceUptoRow.holds Try.pinned (OpenSpec.upto chanceSpec)

/-- 'granulelaw.Explains', WHERE WHAT IT READS IS OF BULK AT MOST 1048576: true; the input reads as it did. -/
def explainsUptoRow : OpenClaim := { program := "ytjikemhmnkckcaa", sum := "aa3cf3624f0b63cf0e120715a9dc7db7646d93f17a9b91e67f1bfac1c353810e", func := "granule/granulelaw.Explains", spec := "explains", apart := false, narrowed := true }
def ExplainsUptoSaid : Prop := explainsUptoRow.holds Try.pinned (OpenSpec.upto explainsSpec)

/-- 'granulelaw.Heaps', WHERE WHAT IT READS IS OF BULK AT MOST 1048576: true; the input reads as it did. -/
def heapsUptoRow : OpenClaim := { program := "ytjikemhmnkckcaa", sum := "aa3cf3624f0b63cf0e120715a9dc7db7646d93f17a9b91e67f1bfac1c353810e", func := "granule/granulelaw.Heaps", spec := "heaps", apart := false, narrowed := true }
def HeapsUptoSaid : Prop := heapsUptoRow.holds Try.pinned (OpenSpec.upto heapsSpec)

/-- 'granulekeep.Named', WHERE WHAT IT READS IS OF BULK AT MOST 1048576: true; the input reads as it did. -/
def namedUptoRow : OpenClaim := { program := "ytjikemhmnkckcaa", sum := "aa3cf3624f0b63cf0e120715a9dc7db7646d93f17a9b91e67f1bfac1c353810e", func := "granule/granulekeep.Named", spec := "named", apart := false, narrowed := true }
def NamedUptoSaid : Prop := namedUptoRow.holds Try.pinned (OpenSpec.upto namedSpec)

end Rows
end Go.Proofs.Ytjikemhmnkckcaa
