/-
  No cell of these rows narrows 'for every input' (looked for: loops, veiled, ifaces, maps, wideKeys, modest, calm, conditions, laid).
  DERIVED. THE GIVEN ROWS OF THIS SEAT. 3 by the template 'for every input the law returns true; each argument reads behind the call as it read before'; 0 by the template 'total and deterministic' (their statements: YtgedhbnmejlmeaaTotals.lean).
  GIVEN WITH THE SEED: the statements are not yours to turn. If you find one false, say at which input.
  Laid BY PROGRAM, IN A SANDBOX (cutbox-rows.mjs): the forced cells as the released guide's own fill.sh prints them over the translation 62a32f54c124df0c… (all of the seat's roots in one cut). By AI agents, Wed Nov 11 2026. No macro, syntax, notation, axiom, sorry.
-/
import Derived.Test.YtgedhbnmejlmeaaChecked
import GoSem.Claim
import GoSem.ClaimJoined
import GoSem.ClaimMapViews
import Derived.JoinedTies
import Derived.KernelRfl
namespace Go.Proofs.Ytgedhbnmejlmeaa
/- THE CELL 'sum', in the pinned program and in every row, IS THE sha256 OF THE DUMP (.gsa) THAT YtgedhbnmejlmeaaProg.lean LOADS. Nothing in Lean hashes anything: it is a label: what it is worth is what the hold of that sum in a sandbox is worth. -/
noncomputable def Try.pinned : Pinned := { name := "ytgedhbnmejlmeaa", sum := "62a32f54c124df0c526614e0ec0b0b4b2b529cd07f428b6c6603890415e9f5fe", checked := Try.checked }
namespace Rows
def none {H : Type} : Left H := { results := [], args := [] }

/-- 'laws.FnExactValidPattern': WHATEVER THE INPUT: true; the input reads as it did. -/
def fnExactValidPatternSpec : ChangeSpec := { name := "fnExactValidPattern", fn := fun _ => fun
  | [d] => { results := [.lit (.bool true)], args := [d] }
  | _ => none }
def fnExactValidPatternRow : OpenClaim := { program := "ytgedhbnmejlmeaa", sum := "62a32f54c124df0c526614e0ec0b0b4b2b529cd07f428b6c6603890415e9f5fe", func := "loop.example/s0027/laws.FnExactValidPattern", spec := "fnExactValidPattern", unfollowed := true, recurses := true, apart := false }
def FnExactValidPatternSaid : Prop := fnExactValidPatternRow.holds Try.pinned (OpenSpec.ofChange fnExactValidPatternSpec)

/-- ITS FALSE NEIGHBOUR: 'it returns false'. Refute it at one input. -/
def fnExactValidPatternWrong : ChangeSpec := { name := "fnExactValidPattern", fn := fun _ => fun
  | [d] => { results := [.lit (.bool false)], args := [d] }
  | _ => none }
def FnExactValidPatternWrongFalsely : Prop := fnExactValidPatternRow.holds Try.pinned (OpenSpec.ofChange fnExactValidPatternWrong)

/-- 'laws.FnExactExpandTree': WHATEVER THE INPUT: true; the input reads as it did. -/
def fnExactExpandTreeSpec : ChangeSpec := { name := "fnExactExpandTree", fn := fun _ => fun
  | [d] => { results := [.lit (.bool true)], args := [d] }
  | _ => none }
def fnExactExpandTreeRow : OpenClaim := { program := "ytgedhbnmejlmeaa", sum := "62a32f54c124df0c526614e0ec0b0b4b2b529cd07f428b6c6603890415e9f5fe", func := "loop.example/s0027/laws.FnExactExpandTree", spec := "fnExactExpandTree", unfollowed := true, recurses := true, apart := false }
def FnExactExpandTreeSaid : Prop := fnExactExpandTreeRow.holds Try.pinned (OpenSpec.ofChange fnExactExpandTreeSpec)

/-- ITS FALSE NEIGHBOUR: 'it returns false'. Refute it at one input. -/
def fnExactExpandTreeWrong : ChangeSpec := { name := "fnExactExpandTree", fn := fun _ => fun
  | [d] => { results := [.lit (.bool false)], args := [d] }
  | _ => none }
def FnExactExpandTreeWrongFalsely : Prop := fnExactExpandTreeRow.holds Try.pinned (OpenSpec.ofChange fnExactExpandTreeWrong)

/-- 'laws.FnExactRunDFA': WHATEVER THE INPUT: true; the input reads as it did. -/
def fnExactRunDFASpec : ChangeSpec := { name := "fnExactRunDFA", fn := fun _ => fun
  | [d1, d2] => { results := [.lit (.bool true)], args := [d1, d2] }
  | _ => none }
def fnExactRunDFARow : OpenClaim := { program := "ytgedhbnmejlmeaa", sum := "62a32f54c124df0c526614e0ec0b0b4b2b529cd07f428b6c6603890415e9f5fe", func := "loop.example/s0027/laws.FnExactRunDFA", spec := "fnExactRunDFA", apart := false }
def FnExactRunDFASaid : Prop := fnExactRunDFARow.holds Try.pinned (OpenSpec.ofChange fnExactRunDFASpec)

/-- ITS FALSE NEIGHBOUR: 'it returns false'. Refute it at one input. -/
def fnExactRunDFAWrong : ChangeSpec := { name := "fnExactRunDFA", fn := fun _ => fun
  | [d1, d2] => { results := [.lit (.bool false)], args := [d1, d2] }
  | _ => none }
def FnExactRunDFAWrongFalsely : Prop := fnExactRunDFARow.holds Try.pinned (OpenSpec.ofChange fnExactRunDFAWrong)

/- THE SECOND FORM. 'bulk': how many values and letters a reading holds, each counted each time it is reached (what is shared counts as often as it is met; a slice's spare places count too). A statement '..UptoSaid' is the law's where the arguments, and the package variables that the reading takes, are together of bulk at most 1048576: NARROWER than '..Said'. Prove '..Said' where nothing that the law and all that it calls make is longer than what came in: it says more and counts as full. Else prove '..UptoSaid'. A law counts once. -/
mutual
def uptoBulk {H : Type} : DataW H → Nat
  | .lit (.string bytes) => bytes.length + 1
  | .lit _ => 1
  | .nil => 1
  | .ptr d => uptoBulk d + 1
  | .slice elems spare => uptoBulkAll elems + uptoBulkAll spare + 1
  | .agg parts => uptoBulkAll parts + 1
  | .iface _ d => uptoBulk d + 1
  | .map entries => uptoBulkEntries entries + 1
  | .held _ => 1
def uptoBulkAll {H : Type} : List (DataW H) → Nat
  | [] => 0
  | d :: r => uptoBulk d + uptoBulkAll r
def uptoBulkEntries {H : Type} : List (Lit × DataW H) → Nat
  | [] => 0
  | x :: r => uptoBulkEntry x + uptoBulkEntries r
def uptoBulkEntry {H : Type} : Lit × DataW H → Nat
  | (.string bytes, d) => bytes.length + uptoBulk d + 1
  | (_, d) => uptoBulk d + 1
 end
def uptoSmall : (H : Type) → List (DataW H) → Bool := fun _ ds => decide (uptoBulkAll ds ≤ 1048576)
def OpenSpec.upto (s : _root_.Go.ChangeSpec) : _root_.Go.OpenSpec := { _root_.Go.OpenSpec.ofChange s with cond := some uptoSmall }

/-- 'laws.FnExactValidPattern', WHERE WHAT IT READS IS OF BULK AT MOST 1048576: true; the input reads as it did. -/
def fnExactValidPatternUptoRow : OpenClaim := { program := "ytgedhbnmejlmeaa", sum := "62a32f54c124df0c526614e0ec0b0b4b2b529cd07f428b6c6603890415e9f5fe", func := "loop.example/s0027/laws.FnExactValidPattern", spec := "fnExactValidPattern", unfollowed := true, recurses := true, apart := false, narrowed := true }
def FnExactValidPatternUptoSaid : Prop := fnExactValidPatternUptoRow.holds Try.pinned (OpenSpec.upto fnExactValidPatternSpec)

/-- 'laws.FnExactExpandTree', WHERE WHAT IT READS IS OF BULK AT MOST 1048576: true; the input reads as it did. -/
def fnExactExpandTreeUptoRow : OpenClaim := { program := "ytgedhbnmejlmeaa", sum := "62a32f54c124df0c526614e0ec0b0b4b2b529cd07f428b6c6603890415e9f5fe", func := "loop.example/s0027/laws.FnExactExpandTree", spec := "fnExactExpandTree", unfollowed := true, recurses := true, apart := false, narrowed := true }
def FnExactExpandTreeUptoSaid : Prop := fnExactExpandTreeUptoRow.holds Try.pinned (OpenSpec.upto fnExactExpandTreeSpec)

/-- 'laws.FnExactRunDFA', WHERE WHAT IT READS IS OF BULK AT MOST 1048576: true; the input reads as it did. -/
def fnExactRunDFAUptoRow : OpenClaim := { program := "ytgedhbnmejlmeaa", sum := "62a32f54c124df0c526614e0ec0b0b4b2b529cd07f428b6c6603890415e9f5fe", func := "loop.example/s0027/laws.FnExactRunDFA", spec := "fnExactRunDFA", apart := false, narrowed := true }
def FnExactRunDFAUptoSaid : Prop := fnExactRunDFAUptoRow.holds Try.pinned (OpenSpec.upto fnExactRunDFASpec)

end Rows
end Go.Proofs.Ytgedhbnmejlmeaa
