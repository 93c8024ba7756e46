import Derived.Test.YtinhliecfjlocaaGreatSo5
import Derived.Test.YtinhliecfjlocaaGreatPk27
import Derived.Test.YtinhliecfjlocaaGreatPk9
import Derived.Test.YtinhliecfjlocaaGreatPk8
namespace Go.Proofs.YtinhliecfjlocaaGreat
open Go.RowKit
theorem tri3_bd {bs : List Int} (h : Bytes bs) (i : Nat) : 0 ≤ tri3 bs i ∧ tri3 bs i ≤ 16777215 := by
  unfold tri3
  have h1 := h i
  have h2 := h (i + 1)
  have h3 := h (i + 2)
  omega
theorem get_bd {xs : List Int} (h : ∀ z, z ∈ xs → In64' z) (i : Nat) : In64' (xs[i]?.getD 0) := by
  by_cases hi : i < xs.length
  · rw [List.getElem?_eq_getElem hi]; exact h _ (List.getElem_mem hi)
  · rw [List.getElem?_eq_none (by omega)]; unfold In64'; simp
theorem gets_bd {xss : List (List Int)} (h : ∀ x, x ∈ xss → ∀ z, z ∈ x → In64' z) (k i : Nat) : In64' ((xss[k]?.getD [])[i]?.getD 0) := by
  by_cases hk : k < xss.length
  · rw [List.getElem?_eq_getElem hk]; exact get_bd (h _ (List.getElem_mem hk)) i
  · rw [show xss[k]? = none from List.getElem?_eq_none (by omega)]; unfold In64'; simp
theorem ord_len {xs ys : List Int} (h : Ord xs ys) : ys.length ≤ xs.length := by
  obtain ⟨zs, hz, hl⟩ := ord_ex xs
  rw [show ys = zs from asc_uniq h.asc hz.asc (fun z => (h.mem z).trans (hz.mem z).symm)]
  exact hl
theorem segR_in {base : Int} {xss : List (List Int)} {ks : List Int} {pss : List (List Int)} (h : SegR base xss ks pss) (hb : ∀ x, x ∈ xss → Bytes x) (h0 : 0 ≤ base) (h1 : base + xss.length ≤ 1000) (hT : tot xss ≤ 20000) :
    (∀ i : Nat, In64' (ks[i]?.getD 0)) ∧ (∀ k i : Nat, In64' ((pss[k]?.getD [])[i]?.getD 0)) ∧ ks.length ≤ 20000 ∧ ∀ i : Nat, i < pss.length → (pss[i]?.getD []).length ≤ 1000 := by
  refine ⟨fun i => get_bd (fun z hz => ?_) i, fun k i => ?_, ?_, fun i hi => ?_⟩
  · obtain ⟨x, hx, hzx⟩ := List.mem_flatMap.1 (show z ∈ xss.flatMap tr from (h.keys.mem z).1 hz)
    obtain ⟨j, -, rfl⟩ := List.mem_map.1 (show z ∈ (List.range (x.length - 2)).map (tri3 x) from hzx)
    have := tri3_bd (hb x hx) j
    unfold In64'; omega
  · by_cases hk : k < pss.length
    · refine get_bd (fun z hz => ?_) i
      obtain ⟨j, hj, rfl, -⟩ := ((h.post k (by rw [← h.len]; exact hk)).2 z).1 hz
      unfold In64'; omega
    · rw [show pss[k]? = none from List.getElem?_eq_none (by omega)]; unfold In64'; simp
  · have := ord_len h.keys
    have := allT_len xss
    omega
  · have := post_len (h.post i (by rw [← h.len]; exact hi))
    omega
theorem qans_in {xs : List El} {rs : List (List Int)} (h : QAns xs rs) : rs.length ≤ 1000 ∧ (∀ i : Nat, i < rs.length → (rs[i]?.getD []).length ≤ 1000) ∧ ∀ k i : Nat, In64' ((rs[k]?.getD [])[i]?.getD 0) := by
  obtain ⟨S, hS, hN⟩ := h
  have hsm := hS.sm
  have hsy := hS.sy
  obtain ⟨n1, n2⟩ := norm_len hN (fun cs hc => hc.nodup) (m := 60) (fun x hx => by
    obtain ⟨s, hs, rfl⟩ := List.mem_map.1 hx
    have h1 := hsm.2 s hs
    have h2 := gtr_len s (s.length - 2)
    omega)
  rw [gS_len] at n1
  have h1 := hsm.1
  refine ⟨by omega, fun i hi => ?_, fun k i => gets_bd (fun x hx z hz => ?_) k i⟩
  · rw [List.getElem?_eq_getElem hi]
    have := n2 _ (List.getElem_mem hi)
    exact Nat.le_trans this (by omega)
  · obtain ⟨cs, c1, c2, rfl⟩ := hN.ex
    obtain ⟨y, hy, ho⟩ := (c2 x).1 (List.mem_filter.1 hx).1
    obtain ⟨s, hs, rfl⟩ := List.mem_map.1 hy
    have := gtr_bd (hsy s hs) _ z ((ho.mem z).1 hz)
    unfold In64'; omega
def LnsOk (bs : List Int) (wc : World) (lsv : Value) (wx : World) : Prop := ∃ xss : List (List Int), ∃ m : Nat, SsAt mB 0 wx.heap.size wx lsv xss ∧ xss.length = m + 1 ∧ m ≤ 1 ∧ xss[m]?.getD [] = bs ∧ (∀ x, x ∈ xss → Bytes x) ∧ Plain xss ∧ tot xss ≤ 200 ∧ Below wc.heap.size wc wx
theorem cod_bytes {bs : List Int} (h : Cod bs) : Bytes bs := fun i => by
  by_cases hi : i < bs.length
  · rw [List.getElem?_eq_getElem hi]; exact h _ (List.getElem_mem hi)
  · rw [List.getElem?_eq_none (by omega)]; simp
theorem lns_one {bs : List Int} {wc : World} {la : Option Addr} {lc : Nat} {T : TypeId} (h : SlAt mB 0 0 wc.heap.size wc (.slice la bs.length lc) bs) (hcap : bs.length ≤ lc ∧ lc ≤ maxLen) (hl : bs.length ≤ 80) (hb : Cod bs) (hn : ∀ j : Nat, j < bs.length → bs[j]?.getD 0 ≠ 10) :
    LnsOk bs wc (.slice (some ⟨wc.heap.size, 0, none⟩) 1 1) (wc.alloc (.cells #[.slice la bs.length lc] T)) := by
  have hB := below1 wc (.cells #[.slice la bs.length lc] T)
  refine ⟨[bs], 0, ⟨_, 1, rfl, ⟨Nat.le_refl _, by unfold maxLen; omega⟩, fun _ => ⟨wc.heap.size, 0, rfl, by rw [sz_alloc]; omega, fun i hi => ?_⟩⟩, rfl, by omega, rfl, fun x hx => ?_, fun i hi j hj => ?_, ?_, hB⟩
  · obtain rfl : i = 0 := by simp at hi; omega
    exact ⟨_, (pushd_alloc wc _).news 0 _ rfl, h.cut hB (Nat.le_refl _), _, _, _, rfl, hcap⟩
  · rw [List.mem_singleton.1 hx]; exact cod_bytes hb
  · obtain rfl : i = 0 := by simp at hi; omega
    exact hn j hj
  · simp only [tot]; omega
theorem lns_two {bs : List Int} {wc : World} {la : Option Addr} {lc q : Nat} {T : TypeId} (hq : bs.length = q + 1) (h : SlAt mB 0 0 wc.heap.size wc (.slice la bs.length lc) bs) (hcap : bs.length ≤ lc ∧ lc ≤ maxLen) (hl : bs.length ≤ 80) (hb : Cod bs) (hn : ∀ j : Nat, j < bs.length → bs[j]?.getD 0 ≠ 10) :
    LnsOk bs wc (.slice (some ⟨wc.heap.size, 0, none⟩) 2 2) (wc.alloc (.cells #[.slice la q lc, .slice la bs.length lc] T)) := by
  have hB := below1 wc (.cells #[.slice la q lc, .slice la bs.length lc] T)
  have hlt : (bs.take q).length = q := by rw [List.length_take]; omega
  have hg : ∀ j : Nat, j < q → (bs.take q)[j]?.getD 0 = bs[j]?.getD 0 := fun j hj => by rw [List.getElem?_take, if_pos hj]
  have hpre : SlAt mB 0 0 wc.heap.size wc (.slice la q lc) (bs.take q) := by
    obtain ⟨a, c, e, h1, h2⟩ := h
    cases e
    refine ⟨la, lc, by rw [hlt], by rw [hlt]; omega, fun hp => ?_⟩
    obtain ⟨b, off, rfl, h3, h4, h5⟩ := h2 (by omega)
    refine ⟨b, off, rfl, h3, h4, fun i hi => ?_⟩
    rw [hlt] at hi
    rw [hg i hi]
    exact h5 i (by omega)
  refine ⟨[bs.take q, bs], 1, ⟨_, 2, rfl, ⟨Nat.le_refl _, by unfold maxLen; omega⟩, fun _ => ⟨wc.heap.size, 0, rfl, by rw [sz_alloc]; omega, fun i hi => ?_⟩⟩, rfl, by omega, rfl, fun x hx => ?_, fun i hi j hj => ?_, ?_, hB⟩
  · rcases i with _ | _ | i
    · exact ⟨_, (pushd_alloc wc _).news 0 _ rfl, hpre.cut hB (Nat.le_refl _), _, _, _, rfl, by omega, hcap.2⟩
    · exact ⟨_, (pushd_alloc wc _).news 1 _ rfl, h.cut hB (Nat.le_refl _), _, _, _, rfl, hcap⟩
    · simp at hi; omega
  · rcases List.mem_cons.1 hx with rfl | hx
    · exact cod_bytes (fun z hz => hb z (List.mem_of_mem_take hz))
    · rw [List.mem_singleton.1 hx]; exact cod_bytes hb
  · rcases i with _ | _ | i
    · have hj' : j < q := by rw [← hlt]; exact hj
      show (bs.take q)[j]?.getD 0 ≠ 10
      rw [hg j hj']
      exact hn j (by omega)
    · exact hn j hj
    · simp at hi; omega
  · simp only [tot]; omega
end Go.Proofs.YtinhliecfjlocaaGreat
