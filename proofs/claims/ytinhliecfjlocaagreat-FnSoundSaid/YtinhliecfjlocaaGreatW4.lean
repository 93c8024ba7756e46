import Derived.Test.YtinhliecfjlocaaGreatW3
import Derived.Test.YtinhliecfjlocaaGreatPk4
namespace Go.Proofs.YtinhliecfjlocaaGreat
open Go.RowKit
set_option maxHeartbeats 1000000 in
theorem has_w (g : Nat → Nat) (b : Nat) (w : World) (hg : Fit g) (hb : b < 256) :
    Calls Tryz.prog 136 #[ws4 g, .int .i64 b] w fun e w' => e = .returned (.bool (Bt g b)) ∧ Below w.heap.size w w' := by
  unfold ws4
  have hbt : Hid ((bits .and .u64 ((g (b / 64) : Int) / 2 ^ (b % 64)) 1 == 1) = Bt g b) := shr_bit _ _ (hg _)
  have hrow := four_row w 126 g
  have hq : b / 64 < 4 := by omega
  have c0 := hrow.cell hq
  have hq2 : (b : Int) / 64 < 4 := by omega
  have hq3 : 0 ≤ (b : Int) / 64 := by omega
  clear hrow hg
  go_enter Tryz.func136, Tryz.ntmps136
  go_wp2
  go_ret
  exact ⟨ret_bool (unhide hbt), below1 w _⟩
theorem canon_ge {xs : List Int} (h : Canon xs) : ∀ j : Nat, 2 * j < xs.length → 2 * (j : Int) ≤ xs[2 * j]?.getD 0 := by
  intro j
  induction j with
  | zero => intro hlt; have := (h.2.1 0 hlt).1; simpa using this
  | succ j ih =>
    intro hlt
    have h1 := ih (by omega)
    have h2 := (h.2.2 j (by omega)).1
    have h3 := canon_mono h j 0 (by omega)
    rw [show j + 0 + 1 = j + 1 by omega] at h3
    omega
theorem Cut.bd {xs : List Int} {m b : Nat} (hcn : Canon xs) (h : Cut xs m b) (hb : b ≤ 256) : m ≤ 129 := by
  by_cases hm : 0 < m
  · have h1 := h.lo hm
    have h2 := canon_ge hcn (m - 1) (by have := h.le; omega)
    omega
  · omega
end Go.Proofs.YtinhliecfjlocaaGreat
