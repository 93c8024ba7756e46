import Derived.Test.YtinhliecfjlocaaGreatSo4
import Derived.Test.YtinhliecfjlocaaGreatPk19
import Derived.Test.YtinhliecfjlocaaGreatPk11
namespace Go.Proofs.YtinhliecfjlocaaGreat
open Go.RowKit
theorem cnd_of {base : Int} {xss : List (List Int)} {ks : List Int} {pss qss : List (List Int)} (h : SegR base xss ks pss) {i : Nat} (hi : i < xss.length) (hb : wrap64 (base + i) = base + i) (hq : EvalP qss (tr (xss[i]?.getD []))) : Cnd base ks pss qss i := by
  obtain ⟨c, hc, ht⟩ := hq
  refine ⟨c, hc, fun t htm => ?_⟩
  have h1 := ht t htm
  have h2 : t ∈ allT xss := by
    unfold allT
    refine List.mem_flatMap.2 ⟨xss[i]?.getD [], ?_, h1⟩
    rw [List.getElem?_eq_getElem hi, Option.getD_some]
    exact List.getElem_mem hi
  obtain ⟨j, hj, hjt⟩ := mem_get.1 ((h.keys.mem t).2 h2)
  refine ⟨j, hj, by rw [h.len]; exact hj, hjt, ?_⟩
  rw [hb]
  exact ((h.post j hj).2 _).2 ⟨i, hi, rfl, by rw [hjt]; exact h1⟩
theorem norm_len {xss rs : List (List Int)} (h : NormV xss rs) (hd : ∀ cs : List (List Int), LAsc cs → cs.Nodup) {m : Nat} (hm : ∀ x, x ∈ xss → x.length ≤ m) : rs.length ≤ xss.length ∧ ∀ r, r ∈ rs → r.length ≤ m := by
  obtain ⟨cs, h1, h2, rfl⟩ := h.ex
  have key : ∀ x : List Int, ∃ y, Ord x y ∧ y.length ≤ x.length := ord_ex
  refine ⟨Nat.le_trans (List.length_filter_le _ _) ?_, fun r hr => ?_⟩
  · have h3 : cs.length ≤ (xss.map (fun x => Classical.choose (key x))).length := (hd cs h1).length_le_of_subset (fun c hc => by
      obtain ⟨x, hx, ho⟩ := (h2 c).1 hc
      refine List.mem_map.2 ⟨x, hx, ?_⟩
      have h4 := (Classical.choose_spec (key x)).1
      exact asc_uniq h4.asc ho.asc (fun z => (h4.mem z).trans (ho.mem z).symm))
    rwa [List.length_map] at h3
  · obtain ⟨x, hx, ho⟩ := (h2 r).1 (List.mem_filter.1 hr).1
    obtain ⟨y, hy, hl⟩ := ord_ex x
    have e : r = y := asc_uniq ho.asc hy.asc (fun z => (ho.mem z).trans (hy.mem z).symm)
    rw [e]
    exact Nat.le_trans hl (hm x hx)
theorem post_len {base : Int} {xss : List (List Int)} {k : Int} {l : List Int} (h : PostR base xss k l) : l.length ≤ xss.length := by
  have h1 : l.length ≤ ((List.range xss.length).map (fun i : Nat => base + (i : Int))).length := (asc_nodup h.1).length_le_of_subset (fun x hx => by
    obtain ⟨i, hi, rfl, -⟩ := (h.2 x).1 hx
    exact List.mem_map.2 ⟨i, List.mem_range.2 hi, rfl⟩)
  rwa [List.length_map, List.length_range] at h1
theorem cand_last {base : Int} {xss : List (List Int)} {ks : List Int} {pss qss : List (List Int)} (h : SegR base xss ks pss) (hr : Rch xss ks pss qss) {m : Nat} (hm : xss.length = m + 1) (hb : wrap64 (base + m) = base + m) (hq : EvalP qss (tr (xss[m]?.getD []))) : ∃ pre, cndA base xss ks pss qss = pre ++ [base + (m : Int)] := by
  obtain ⟨c, hc, ht⟩ := cnd_of h (by omega) hb hq
  rw [cndA_yes hr, hm, cndL_yes ((smB_iff base ks pss qss qss.length m).2 ⟨c, hc, ht⟩), hb]
  exact ⟨_, rfl⟩
end Go.Proofs.YtinhliecfjlocaaGreat
