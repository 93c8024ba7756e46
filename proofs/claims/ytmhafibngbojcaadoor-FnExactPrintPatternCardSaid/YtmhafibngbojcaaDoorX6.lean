import Derived.Test.YtmhafibngbojcaaDoorX5
namespace Go.Proofs.YtmhafibngbojcaaDoor
open Go.RowKit

theorem own_at_g {base n e : Nat} {w : World} {v : Value} {xs : List Value} (h : w.ownsRow base e 1 v n xs) (hp : 0 < n) : ∃ g cap, v = .slice (some ⟨g, 0, none⟩) n cap ∧ ∀ j : Nat, j < n → w.cell? ⟨g, j, none⟩ = xs[j]? := by
  rcases h.2 with ⟨rfl, hz⟩ | ⟨g, cap, cur, rfl, hbg, hg, hnc, hcm, hcs, htake⟩
  · omega
  · exact ⟨g, cap, rfl, fun j hj => h.cellAt j (by omega)⟩
theorem jn_len (ps : List (List El)) (h : ∀ p ∈ ps, p.length ≤ 3002) : (jn ps).length ≤ ps.length * 3003 := by
  cases ps with
  | nil => simp [jn]
  | cons p r =>
    have key : ∀ (r : List (List El)) (acc : List El), (∀ p ∈ r, p.length ≤ 3002) → (r.foldl (fun acc q => acc ++ q ++ [catE]) acc).length ≤ acc.length + r.length * 3003 := by
      intro r
      induction r with
      | nil => intro acc _; simp
      | cons q r ih =>
        intro acc hq
        have h1 := ih (acc ++ q ++ [catE]) (fun p hp => hq p (by simp [hp]))
        have h2 := hq q (by simp)
        simp only [List.foldl_cons, List.length_cons, List.length_append, List.length_nil] at h1 ⊢
        omega
    have h1 := key r p (fun q hq => h q (by simp [hq]))
    have h2 := h p (by simp)
    simp only [jn, List.length_cons]
    omega
theorem jn_nice (ps : List (List El)) (h : ∀ p ∈ ps, Nice p) : Nice (jn ps) := by
  cases ps with
  | nil => exact Nice.nil
  | cons p r =>
    have key : ∀ (r : List (List El)) (acc : List El), Nice acc → (∀ p ∈ r, Nice p) → Nice (r.foldl (fun acc q => acc ++ q ++ [catE]) acc) := by
      intro r
      induction r with
      | nil => intro acc h _; exact h
      | cons q r ih =>
        intro acc ha hq
        exact ih _ ((ha.app (hq q (by simp))).app (Nice.op 2 0 0 (by simp [In64]) (by simp [In64]) (by simp [In64]))) (fun p hp => hq p (by simp [hp]))
    exact key r p (h p (by simp)) (fun q hq => h q (by simp [hq]))
theorem jn_next {ps : List Pt} {k : Nat} (h : k < ps.length) : jn ((ps.take (k + 1)).map Pt.P) = if k = 0 then (ps[k]).P else jn ((ps.take k).map Pt.P) ++ (ps[k]).P ++ [catE] := by
  rw [List.take_succ_eq_append_getElem h, List.map_append]
  by_cases e : k = 0
  · subst e; simp [jn]
  · rw [if_neg e]
    exact jn_snoc (by intro q; have := congrArg List.length q; rw [List.length_map, List.length_take, List.length_nil] at this; omega) _

end Go.Proofs.YtmhafibngbojcaaDoor
