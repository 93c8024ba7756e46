import Derived.Test.YtjmajdfcfcgegaaMn10
import Derived.Test.YtjmajdfcfcgegaaPk3
import Derived.BigQuiet
namespace Go.Proofs.Ytjmajdfcfcgegaa
open Go.RowKit

set_option maxHeartbeats 2000000 in
set_option maxRecDepth 100000 in
/-- The members of a block are a stretch. -/
theorem membersOf_any (g mb mo bb bo n N c1 c2 : Nat) (k fr mk tt : Nat) (w : World) (hk : k < N) (h1 : fr < tt) (h2 : tt ≤ n) (h3 : n ≤ c1) (hg : g < w.heap.size)
    (f0 : w.cell? ⟨g, 0, none⟩ = some (.slice (some ⟨mb, mo, none⟩) n c1)) (f3 : w.cell? ⟨g, 3, none⟩ = some (.slice (some ⟨bb, bo, none⟩) N c2))
    (b0 : w.cell? ⟨bb, bo + k * 3, none⟩ = some (.int .i64 fr)) (b1 : w.cell? ⟨bb, bo + k * 3 + 1, none⟩ = some (.int .i64 mk)) (b2 : w.cell? ⟨bb, bo + k * 3 + 2, none⟩ = some (.int .i64 tt)) :
    Calls Try.prog 43 #[.pointer (some ⟨g, 0, none⟩), .int .i64 k] w fun e w' => e = .returned (.slice (some ⟨mb, mo + fr, none⟩) (tt - fr) (c1 - fr)) ∧ Below w.heap.size w w' := by
  have hk' : (k : Int) < (N : Int) := by omega
  have q1 : (fr : Int) ≤ (tt : Int) := by omega
  have q2 : (tt : Int) ≤ (c1 : Int) := by omega
  have q3 : ¬ c1 = fr := by omega
  go_enter Try.func43, Try.ntmps43
  go_wp2_with fail
  have u0 : (w.alloc (.cells #[.int .i64 fr, .int .i64 mk, .int .i64 tt] 71)).cell? ⟨g, 0, none⟩ = some (.slice (some ⟨mb, mo, none⟩) n c1) := by rw [(below1 w _).cell (p := ⟨g, 0, none⟩) hg]; exact f0
  go_quiet (fail)
  go_wp2
  go_ret
  exact ⟨rfl, below_drewN (below1 w _) _⟩

end Go.Proofs.Ytjmajdfcfcgegaa
