import Derived.Test.YtjmajdfcfcgegaaMn10
import Derived.Test.YtjmajdfcfcgegaaPk3
namespace Go.Proofs.Ytjmajdfcfcgegaa
open Go.RowKit

set_option maxHeartbeats 2000000 in
set_option maxRecDepth 100000 in
/-- One more into a queue: its row grows, nothing else changes but the queue's own cell. -/
theorem push_any (g o : Nat) (v : Value) (xs : List Int) (x : Int) (w : World) (hg : g < w.heap.size) (hq : v.ownBlock ≠ some g) (hl : xs.length ≤ 1000000) (h0 : w.cell? ⟨g, o, none⟩ = some v) (hz : w.frozen? ⟨g, o, none⟩ = false)
    (hown : w.ownsRow 0 3 1 v xs.length (xs.map mI)) :
    Calls Try.prog 38 #[.pointer (some ⟨g, o, none⟩), .int .i64 x] w fun e w' => e = .returned (.tuple #[]) ∧
      ∃ v' w2, w' = w2.setCell ⟨g, o, none⟩ v' ∧ w2.ownsRow 0 3 1 v' (xs ++ [x]).length ((xs ++ [x]).map mI) ∧ (w.alloc (.cells #[.int .i64 x] 3)).grownBy w2 v.ownBlock ∧ ∀ q, v'.ownBlock = some q → v.ownBlock = some q ∨ w.heap.size ≤ q := by
  obtain ⟨i0, hi, hz0, hz1, hz2⟩ := info_parts Try.zinInt
  have Hown := hide hown
  obtain ⟨oa, oc, rfl⟩ := own_is hown
  clear hown
  go_enter Try.func38, Try.ntmps38
  go_wp2_with (at_builtin; refine wpList_append_own_at _ rfl _ _ 22 rfl 0 3 i0 (.int .i64 0) 1 8 Try.underlying22 hi hz0 hz1 hz2 rfl (by decide) _ _ _ rfl ((unhide Hown).alloc _) ⟨w.heap.size, 0, none⟩ 1 1 [.int .i64 x] rfl rfl ?_ ?_ ?_ ?_ ?_ ?_)
  · exact cell_1 (by simp)
  · intro u hu; simp at hu; subst hu; rfl
  · unfold maxLen; omega
  · omega
  · omega
  intro v' w2 h5 hg5 _ r3
  have H5 := hide h5
  have HG := hide hg5
  have R3 := hide r3
  have hblk : w2.heap[g]? = w.heap[g]? := (hg5.block g (by rw [sz_alloc]; omega) (fun e => hq e.symm)).trans ((below1 w _).block g hg)
  have c1 : w2.cell? ⟨g, o, none⟩ = some (.slice oa xs.length oc) := by rw [World.cell?_of_block (a := ⟨g, o, none⟩) hblk]; exact h0
  have c2 : w2.frozen? ⟨g, o, none⟩ = false := by rw [World.frozen?_of_block (a := ⟨g, o, none⟩) hblk]; exact hz
  obtain ⟨oa', oc', rfl⟩ := own_is h5
  clear h5 hg5 hblk h0 hz r3
  go_wp2
  first | (refine bodyPost_ret (results_none rfl _ _ _) rfl ?_) | (refine bodyPost_end (results_none rfl _ _ _) rfl ?_)
  refine ⟨rfl, _, w2, rfl, ?_, unhide HG, fun q hq => ?_⟩
  · rw [List.length_append, List.map_append]
    exact unhide H5
  · rcases unhide R3 with e | e
    · rw [e] at hq; exact .inl hq
    · rw [e] at hq; cases hq; exact .inr (by omega)

end Go.Proofs.Ytjmajdfcfcgegaa
