/-
  No cell of these rows narrows 'for every input' (looked for: loops, veiled, ifaces, maps, wideKeys, modest, calm, conditions, laid).
  DERIVED. THE GIVEN ROWS OF THIS SEAT. 3 by the template 'for every input the law returns true; each argument reads behind the call as it read before'; 0 by the template 'total and deterministic' (their statements: YtidjmaakhldpgaaTotals.lean).
  GIVEN WITH THE SEED: the statements are not yours to turn. If you find one false, say at which input.
  Laid BY PROGRAM, IN A SANDBOX (cutbox-rows.mjs): the forced cells as the released guide's own fill.sh prints them over the translation b10202b2da17daf6… (all of the seat's roots in one cut). By AI agents, Wed Nov 11 2026. No macro, syntax, notation, axiom, sorry.
-/
import Derived.Test.YtidjmaakhldpgaaChecked
import GoSem.Claim
import GoSem.ClaimJoined
import GoSem.ClaimMapViews
import Derived.JoinedTies
import Derived.KernelRfl
namespace Go.Proofs.Ytidjmaakhldpgaa
/- THE CELL 'sum', in the pinned program and in every row, IS THE sha256 OF THE DUMP (.gsa) THAT YtidjmaakhldpgaaProg.lean LOADS. Nothing in Lean hashes anything: it is a label: what it is worth is what the hold of that sum in a sandbox is worth. -/
noncomputable def Try.pinned : Pinned := { name := "ytidjmaakhldpgaa", sum := "b10202b2da17daf6da220daaa457488bbaa32e3f0941cf05b499cb142d6b698f", checked := Try.checked }
namespace Rows
def none {H : Type} : Left H := { results := [], args := [] }

/-- 'laws.FnExactSplitLines': WHATEVER THE INPUT: true; the input reads as it did. -/
def fnExactSplitLinesSpec : ChangeSpec := { name := "fnExactSplitLines", fn := fun _ => fun
  | [d] => { results := [.lit (.bool true)], args := [d] }
  | _ => none }
def fnExactSplitLinesRow : OpenClaim := { program := "ytidjmaakhldpgaa", sum := "b10202b2da17daf6da220daaa457488bbaa32e3f0941cf05b499cb142d6b698f", func := "loop.example/s0027/laws.FnExactSplitLines", spec := "fnExactSplitLines", inPlace := ["internal/bytealg.IndexByte", "internal/bytealg.Index"], named := ["internal/bytealg.MaxLen"], apart := false }
def FnExactSplitLinesSaid : Prop := fnExactSplitLinesRow.holds Try.pinned (OpenSpec.ofChange fnExactSplitLinesSpec)

/-- ITS FALSE NEIGHBOUR: 'it returns false'. Refute it at one input. -/
def fnExactSplitLinesWrong : ChangeSpec := { name := "fnExactSplitLines", fn := fun _ => fun
  | [d] => { results := [.lit (.bool false)], args := [d] }
  | _ => none }
def FnExactSplitLinesWrongFalsely : Prop := fnExactSplitLinesRow.holds Try.pinned (OpenSpec.ofChange fnExactSplitLinesWrong)

/-- 'laws.FnExactBuildSegment': WHATEVER THE INPUT: true; the input reads as it did. -/
def fnExactBuildSegmentSpec : ChangeSpec := { name := "fnExactBuildSegment", fn := fun _ => fun
  | [d1, d2] => { results := [.lit (.bool true)], args := [d1, d2] }
  | _ => none }
def fnExactBuildSegmentRow : OpenClaim := { program := "ytidjmaakhldpgaa", sum := "b10202b2da17daf6da220daaa457488bbaa32e3f0941cf05b499cb142d6b698f", func := "loop.example/s0027/laws.FnExactBuildSegment", spec := "fnExactBuildSegment", inPlace := ["internal/bytealg.IndexByte"], unfollowed := true, recurses := true, apart := false }
def FnExactBuildSegmentSaid : Prop := fnExactBuildSegmentRow.holds Try.pinned (OpenSpec.ofChange fnExactBuildSegmentSpec)

/-- ITS FALSE NEIGHBOUR: 'it returns false'. Refute it at one input. -/
def fnExactBuildSegmentWrong : ChangeSpec := { name := "fnExactBuildSegment", fn := fun _ => fun
  | [d1, d2] => { results := [.lit (.bool false)], args := [d1, d2] }
  | _ => none }
def FnExactBuildSegmentWrongFalsely : Prop := fnExactBuildSegmentRow.holds Try.pinned (OpenSpec.ofChange fnExactBuildSegmentWrong)

/-- 'laws.FnExactMergeSegments': WHATEVER THE INPUT: true; the input reads as it did. -/
def fnExactMergeSegmentsSpec : ChangeSpec := { name := "fnExactMergeSegments", fn := fun _ => fun
  | [d1, d2] => { results := [.lit (.bool true)], args := [d1, d2] }
  | _ => none }
def fnExactMergeSegmentsRow : OpenClaim := { program := "ytidjmaakhldpgaa", sum := "b10202b2da17daf6da220daaa457488bbaa32e3f0941cf05b499cb142d6b698f", func := "loop.example/s0027/laws.FnExactMergeSegments", spec := "fnExactMergeSegments", inPlace := ["internal/bytealg.IndexByte"], unfollowed := true, recurses := true, apart := false }
def FnExactMergeSegmentsSaid : Prop := fnExactMergeSegmentsRow.holds Try.pinned (OpenSpec.ofChange fnExactMergeSegmentsSpec)

/-- ITS FALSE NEIGHBOUR: 'it returns false'. Refute it at one input. -/
def fnExactMergeSegmentsWrong : ChangeSpec := { name := "fnExactMergeSegments", fn := fun _ => fun
  | [d1, d2] => { results := [.lit (.bool false)], args := [d1, d2] }
  | _ => none }
def FnExactMergeSegmentsWrongFalsely : Prop := fnExactMergeSegmentsRow.holds Try.pinned (OpenSpec.ofChange fnExactMergeSegmentsWrong)

/- THE SECOND FORM. 'bulk': how many values and letters a reading holds, each counted each time it is reached (what is shared counts as often as it is met; a slice's spare places count too). A statement '..UptoSaid' is the law's where the arguments, and the package variables that the reading takes, are together of bulk at most 1048576: NARROWER than '..Said'. Prove '..Said' where nothing that the law and all that it calls make is longer than what came in: it says more and counts as full. Else prove '..UptoSaid'. A law counts once. -/
mutual
def uptoBulk {H : Type} : DataW H → Nat
  | .lit (.string bytes) => bytes.length + 1
  | .lit _ => 1
  | .nil => 1
  | .ptr d => uptoBulk d + 1
  | .slice elems spare => uptoBulkAll elems + uptoBulkAll spare + 1
  | .agg parts => uptoBulkAll parts + 1
  | .iface _ d => uptoBulk d + 1
  | .map entries => uptoBulkEntries entries + 1
  | .held _ => 1
def uptoBulkAll {H : Type} : List (DataW H) → Nat
  | [] => 0
  | d :: r => uptoBulk d + uptoBulkAll r
def uptoBulkEntries {H : Type} : List (Lit × DataW H) → Nat
  | [] => 0
  | x :: r => uptoBulkEntry x + uptoBulkEntries r
def uptoBulkEntry {H : Type} : Lit × DataW H → Nat
  | (.string bytes, d) => bytes.length + uptoBulk d + 1
  | (_, d) => uptoBulk d + 1
 end
def uptoSmall : (H : Type) → List (DataW H) → Bool := fun _ ds => decide (uptoBulkAll ds ≤ 1048576)
def OpenSpec.upto (s : _root_.Go.ChangeSpec) : _root_.Go.OpenSpec := { _root_.Go.OpenSpec.ofChange s with cond := some uptoSmall }

/-- 'laws.FnExactSplitLines', WHERE WHAT IT READS IS OF BULK AT MOST 1048576: true; the input reads as it did. -/
def fnExactSplitLinesUptoRow : OpenClaim := { program := "ytidjmaakhldpgaa", sum := "b10202b2da17daf6da220daaa457488bbaa32e3f0941cf05b499cb142d6b698f", func := "loop.example/s0027/laws.FnExactSplitLines", spec := "fnExactSplitLines", inPlace := ["internal/bytealg.IndexByte", "internal/bytealg.Index"], named := ["internal/bytealg.MaxLen"], apart := false, narrowed := true }
def FnExactSplitLinesUptoSaid : Prop := fnExactSplitLinesUptoRow.holds Try.pinned (OpenSpec.upto fnExactSplitLinesSpec)

/-- 'laws.FnExactBuildSegment', WHERE WHAT IT READS IS OF BULK AT MOST 1048576: true; the input reads as it did. -/
def fnExactBuildSegmentUptoRow : OpenClaim := { program := "ytidjmaakhldpgaa", sum := "b10202b2da17daf6da220daaa457488bbaa32e3f0941cf05b499cb142d6b698f", func := "loop.example/s0027/laws.FnExactBuildSegment", spec := "fnExactBuildSegment", inPlace := ["internal/bytealg.IndexByte"], unfollowed := true, recurses := true, apart := false, narrowed := true }
def FnExactBuildSegmentUptoSaid : Prop := fnExactBuildSegmentUptoRow.holds Try.pinned (OpenSpec.upto fnExactBuildSegmentSpec)

/-- 'laws.FnExactMergeSegments', WHERE WHAT IT READS IS OF BULK AT MOST 1048576: true; the input reads as it did. -/
def fnExactMergeSegmentsUptoRow : OpenClaim := { program := "ytidjmaakhldpgaa", sum := "b10202b2da17daf6da220daaa457488bbaa32e3f0941cf05b499cb142d6b698f", func := "loop.example/s0027/laws.FnExactMergeSegments", spec := "fnExactMergeSegments", inPlace := ["internal/bytealg.IndexByte"], unfollowed := true, recurses := true, apart := false, narrowed := true }
def FnExactMergeSegmentsUptoSaid : Prop := fnExactMergeSegmentsUptoRow.holds Try.pinned (OpenSpec.upto fnExactMergeSegmentsSpec)

end Rows
end Go.Proofs.Ytidjmaakhldpgaa
