import Derived.Test.YthgnefdefjannaaGreatSt9
import Derived.Deep.DeepCutAuto
namespace Go.Proofs.YthgnefdefjannaaGreat
open Go.RowKit

theorem implBuild_fit (base : Int) (v : Value) (xss : List (List Int)) (w : World) (hv : SsAt mB 0 w.heap.size w v xss) (hbb : ∀ x ∈ xss, Bytes x) (hT : tot xss ≤ 1048576) (hL : xss.length ≤ 1048576) (hb0 : -9223372036854775808 ≤ base) (hb1 : base ≤ 9223372036854775807) (hf : Fits base xss) :
    Calls Tryz.prog 60 #[.int .i64 base, v] w fun e w' => (∃ v ks pss, e = .returned (.tuple #[v, .int .i64 0]) ∧ SegR base xss ks pss ∧ (ks.length ≤ 1048576 ∧ tot pss ≤ 1048576) ∧ SegF w.heap.size w'.heap.size w' v base xss ks pss) ∧ Below w.heap.size w w' :=
  (implBuild_any base v xss w hv hbb hT hL hb0 hb1).mono (fun e w' ⟨h1, h2⟩ => ⟨by
    rcases h1 with ⟨-, h⟩ | ⟨h, -⟩
    · exact h
    · exact absurd hf h, h2⟩)

/-- A store that can be read, and whose open lines own their memory. -/
def StoreRd (BX : Nat) (w : World) (ss : List Sv) (oss : List (List Int)) : Prop :=
  ∃ sg oa on oc lr br ps, Row4 w BX 71 sg (.slice oa on oc) (.int .i64 lr) (.int .i64 br) ∧ SgRow (BX + 1) w sg ss ∧ LB (BX + 1) w (.slice oa on oc) ps ∧ ps.map Cl.xs = oss
theorem StoreAt.rd {BX H : Nat} {w : World} {ss : List Sv} {oss : List (List Int)} {lr br : Int} (h : StoreAt BX H w ss oss lr br) : StoreRd BX w ss oss := by
  obtain ⟨sg, op, ps, h1, h2, h3, h4, -, -, h5, -⟩ := h
  obtain ⟨oa, oc, rfl⟩ := own_is h3.own
  exact ⟨sg, oa, _, oc, lr, br, ps, h1, h2, h3.low (by omega), h4⟩

end Go.Proofs.YthgnefdefjannaaGreat
