/-
  No cell of these rows narrows 'for every input' (looked for: loops, veiled, ifaces, maps, wideKeys, modest, calm, conditions, laid).
  DERIVED. THE GIVEN ROWS OF THIS SEAT. 3 by the template 'for every input the law returns true; each argument reads behind the call as it read before'; 0 by the template 'total and deterministic' (their statements: YtfgngdfhejeolaaTotals.lean).
  GIVEN WITH THE SEED: the statements are not yours to turn. If you find one false, say at which input.
  Laid BY PROGRAM, IN A SANDBOX (cutbox-rows.mjs): the forced cells as the released guide's own fill.sh prints them over the translation 2732a7d1be4e515e… (all of the seat's roots in one cut). By AI agents, Wed Nov 11 2026. No macro, syntax, notation, axiom, sorry.
-/
import Derived.Test.YtfgngdfhejeolaaChecked
import GoSem.Claim
import GoSem.ClaimJoined
import GoSem.ClaimMapViews
import Derived.JoinedTies
import Derived.KernelRfl
namespace Go.Proofs.Ytfgngdfhejeolaa
/- THE CELL 'sum', in the pinned program and in every row, IS THE sha256 OF THE DUMP (.gsa) THAT YtfgngdfhejeolaaProg.lean LOADS. Nothing in Lean hashes anything: it is a label: what it is worth is what the hold of that sum in a sandbox is worth. -/
noncomputable def Try.pinned : Pinned := { name := "ytfgngdfhejeolaa", sum := "2732a7d1be4e515ea546b3f0acacb429a8a831755deed4cafb1094004cce84e2", checked := Try.checked }
namespace Rows
def none {H : Type} : Left H := { results := [], args := [] }

/-- 'laws.FnExactTrigrams': WHATEVER THE INPUT: true; the input reads as it did. -/
def fnExactTrigramsSpec : ChangeSpec := { name := "fnExactTrigrams", fn := fun _ => fun
  | [d] => { results := [.lit (.bool true)], args := [d] }
  | _ => none }
def fnExactTrigramsRow : OpenClaim := { program := "ytfgngdfhejeolaa", sum := "2732a7d1be4e515ea546b3f0acacb429a8a831755deed4cafb1094004cce84e2", func := "loop.example/s0027/laws.FnExactTrigrams", spec := "fnExactTrigrams", unfollowed := true, recurses := true, apart := false }
def FnExactTrigramsSaid : Prop := fnExactTrigramsRow.holds Try.pinned (OpenSpec.ofChange fnExactTrigramsSpec)

/-- ITS FALSE NEIGHBOUR: 'it returns false'. Refute it at one input. -/
def fnExactTrigramsWrong : ChangeSpec := { name := "fnExactTrigrams", fn := fun _ => fun
  | [d] => { results := [.lit (.bool false)], args := [d] }
  | _ => none }
def FnExactTrigramsWrongFalsely : Prop := fnExactTrigramsRow.holds Try.pinned (OpenSpec.ofChange fnExactTrigramsWrong)

/-- 'laws.FnExactNormQuery': WHATEVER THE INPUT: true; the input reads as it did. -/
def fnExactNormQuerySpec : ChangeSpec := { name := "fnExactNormQuery", fn := fun _ => fun
  | [d] => { results := [.lit (.bool true)], args := [d] }
  | _ => none }
def fnExactNormQueryRow : OpenClaim := { program := "ytfgngdfhejeolaa", sum := "2732a7d1be4e515ea546b3f0acacb429a8a831755deed4cafb1094004cce84e2", func := "loop.example/s0027/laws.FnExactNormQuery", spec := "fnExactNormQuery", unfollowed := true, recurses := true, apart := false }
def FnExactNormQuerySaid : Prop := fnExactNormQueryRow.holds Try.pinned (OpenSpec.ofChange fnExactNormQuerySpec)

/-- ITS FALSE NEIGHBOUR: 'it returns false'. Refute it at one input. -/
def fnExactNormQueryWrong : ChangeSpec := { name := "fnExactNormQuery", fn := fun _ => fun
  | [d] => { results := [.lit (.bool false)], args := [d] }
  | _ => none }
def FnExactNormQueryWrongFalsely : Prop := fnExactNormQueryRow.holds Try.pinned (OpenSpec.ofChange fnExactNormQueryWrong)

/-- 'laws.FnExactEvalQuery': WHATEVER THE INPUT: true; the input reads as it did. -/
def fnExactEvalQuerySpec : ChangeSpec := { name := "fnExactEvalQuery", fn := fun _ => fun
  | [d1, d2] => { results := [.lit (.bool true)], args := [d1, d2] }
  | _ => none }
def fnExactEvalQueryRow : OpenClaim := { program := "ytfgngdfhejeolaa", sum := "2732a7d1be4e515ea546b3f0acacb429a8a831755deed4cafb1094004cce84e2", func := "loop.example/s0027/laws.FnExactEvalQuery", spec := "fnExactEvalQuery", unfollowed := true, recurses := true, apart := false }
def FnExactEvalQuerySaid : Prop := fnExactEvalQueryRow.holds Try.pinned (OpenSpec.ofChange fnExactEvalQuerySpec)

/-- ITS FALSE NEIGHBOUR: 'it returns false'. Refute it at one input. -/
def fnExactEvalQueryWrong : ChangeSpec := { name := "fnExactEvalQuery", fn := fun _ => fun
  | [d1, d2] => { results := [.lit (.bool false)], args := [d1, d2] }
  | _ => none }
def FnExactEvalQueryWrongFalsely : Prop := fnExactEvalQueryRow.holds Try.pinned (OpenSpec.ofChange fnExactEvalQueryWrong)

/- THE SECOND FORM. 'bulk': how many values and letters a reading holds, each counted each time it is reached (what is shared counts as often as it is met; a slice's spare places count too). A statement '..UptoSaid' is the law's where the arguments, and the package variables that the reading takes, are together of bulk at most 1048576: NARROWER than '..Said'. Prove '..Said' where nothing that the law and all that it calls make is longer than what came in: it says more and counts as full. Else prove '..UptoSaid'. A law counts once. -/
mutual
def uptoBulk {H : Type} : DataW H → Nat
  | .lit (.string bytes) => bytes.length + 1
  | .lit _ => 1
  | .nil => 1
  | .ptr d => uptoBulk d + 1
  | .slice elems spare => uptoBulkAll elems + uptoBulkAll spare + 1
  | .agg parts => uptoBulkAll parts + 1
  | .iface _ d => uptoBulk d + 1
  | .map entries => uptoBulkEntries entries + 1
  | .held _ => 1
def uptoBulkAll {H : Type} : List (DataW H) → Nat
  | [] => 0
  | d :: r => uptoBulk d + uptoBulkAll r
def uptoBulkEntries {H : Type} : List (Lit × DataW H) → Nat
  | [] => 0
  | x :: r => uptoBulkEntry x + uptoBulkEntries r
def uptoBulkEntry {H : Type} : Lit × DataW H → Nat
  | (.string bytes, d) => bytes.length + uptoBulk d + 1
  | (_, d) => uptoBulk d + 1
 end
def uptoSmall : (H : Type) → List (DataW H) → Bool := fun _ ds => decide (uptoBulkAll ds ≤ 1048576)
def OpenSpec.upto (s : _root_.Go.ChangeSpec) : _root_.Go.OpenSpec := { _root_.Go.OpenSpec.ofChange s with cond := some uptoSmall }

/-- 'laws.FnExactTrigrams', WHERE WHAT IT READS IS OF BULK AT MOST 1048576: true; the input reads as it did. -/
def fnExactTrigramsUptoRow : OpenClaim := { program := "ytfgngdfhejeolaa", sum := "2732a7d1be4e515ea546b3f0acacb429a8a831755deed4cafb1094004cce84e2", func := "loop.example/s0027/laws.FnExactTrigrams", spec := "fnExactTrigrams", unfollowed := true, recurses := true, apart := false, narrowed := true }
def FnExactTrigramsUptoSaid : Prop := fnExactTrigramsUptoRow.holds Try.pinned (OpenSpec.upto fnExactTrigramsSpec)

/-- 'laws.FnExactNormQuery', WHERE WHAT IT READS IS OF BULK AT MOST 1048576: true; the input reads as it did. -/
def fnExactNormQueryUptoRow : OpenClaim := { program := "ytfgngdfhejeolaa", sum := "2732a7d1be4e515ea546b3f0acacb429a8a831755deed4cafb1094004cce84e2", func := "loop.example/s0027/laws.FnExactNormQuery", spec := "fnExactNormQuery", unfollowed := true, recurses := true, apart := false, narrowed := true }
def FnExactNormQueryUptoSaid : Prop := fnExactNormQueryUptoRow.holds Try.pinned (OpenSpec.upto fnExactNormQuerySpec)

/-- 'laws.FnExactEvalQuery', WHERE WHAT IT READS IS OF BULK AT MOST 1048576: true; the input reads as it did. -/
def fnExactEvalQueryUptoRow : OpenClaim := { program := "ytfgngdfhejeolaa", sum := "2732a7d1be4e515ea546b3f0acacb429a8a831755deed4cafb1094004cce84e2", func := "loop.example/s0027/laws.FnExactEvalQuery", spec := "fnExactEvalQuery", unfollowed := true, recurses := true, apart := false, narrowed := true }
def FnExactEvalQueryUptoSaid : Prop := fnExactEvalQueryUptoRow.holds Try.pinned (OpenSpec.upto fnExactEvalQuerySpec)

end Rows
end Go.Proofs.Ytfgngdfhejeolaa
