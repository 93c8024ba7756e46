import Derived.Test.YtkajdhliejjohaaP8
import Derived.Test.YtkajdhliejjohaaP2
import Derived.Deep.RegionWith
import Derived.Deep.RegionHeld3
namespace Go.Proofs.Ytkajdhliejjohaa
open Go.RowKit

/-- What both sides answer, as data. -/
def SegIs (base : Int) (xss : List (List Int)) (b : Int) (xs : List (List Int)) (ks : List Int) (pss : List (List Int)) (c : Int) : Prop :=
  (Fits base xss ∧ b = base ∧ xs = xss ∧ SegR base xss ks pss ∧ c = 0) ∨ (¬ Fits base xss ∧ b = 0 ∧ xs = [] ∧ ks = [] ∧ pss = [] ∧ c = 4)
theorem SegIs.uniq {base b b' c c' : Int} {xss xs xs' pss pss' : List (List Int)} {ks ks' : List Int} (h : SegIs base xss b xs ks pss c) (h' : SegIs base xss b' xs' ks' pss' c') : b = b' ∧ xs = xs' ∧ ks = ks' ∧ pss = pss' ∧ c = c' := by
  rcases h with ⟨hf, rfl, rfl, hs, rfl⟩ | ⟨hf, rfl, rfl, rfl, rfl, rfl⟩
  · rcases h' with ⟨_, rfl, rfl, hs', rfl⟩ | ⟨hf', _⟩
    · exact ⟨rfl, rfl, (hs.uniq hs').1, (hs.uniq hs').2, rfl⟩
    · exact absurd hf hf'
  · rcases h' with ⟨hf', _⟩ | ⟨_, rfl, rfl, rfl, rfl, rfl⟩
    · exact absurd hf' hf
    · exact ⟨rfl, rfl, rfl, rfl, rfl⟩
theorem BuildRet.is {e : Ending} {w w' : World} {base : Int} {xss : List (List Int)} (h : BuildRet e w w' base xss) : ∃ v b xs ks pss c, e = .returned (.tuple #[v, .int .i64 c]) ∧ SegIs base xss b xs ks pss c ∧ SegRd w' v b xs ks pss := by
  rcases h with ⟨hf, v, ks, pss, e1, hs, ha⟩ | ⟨hf, e1⟩
  · exact ⟨v, base, xss, ks, pss, 0, e1, Or.inl ⟨hf, rfl, rfl, hs, rfl⟩, ha.rd⟩
  · exact ⟨_, 0, [], [], [], 4, e1, Or.inr ⟨hf, rfl, rfl, rfl, rfl, rfl⟩, SegRd.zero w'⟩
theorem BuildGot.is {e : Ending} {w w' : World} {base : Int} {xss : List (List Int)} (hT : tot xss ≤ 1048576) (h : BuildGot e w w' base xss) : ∃ v b xs ks pss c, e = .returned (.tuple #[v, .int .i64 c]) ∧ SegIs base xss b xs ks pss c ∧ (tot xs ≤ 1048576 ∧ ks.length ≤ 1048576 ∧ tot pss ≤ 1048576) ∧ SegF w.heap.size w'.heap.size w' v b xs ks pss := by
  rcases h with ⟨hf, v, ks, pss, e1, hs, hc, ha⟩ | ⟨hf, e1⟩
  · exact ⟨v, base, xss, ks, pss, 0, e1, Or.inl ⟨hf, rfl, rfl, hs, rfl⟩, ⟨hT, hc.1, hc.2⟩, ha⟩
  · exact ⟨_, 0, [], [], [], 4, e1, Or.inr ⟨hf, rfl, rfl, rfl, rfl, rfl⟩, ⟨by simp [tot], by simp, by simp [tot]⟩, SegF.zero _ _ _⟩
theorem SegRd.val {w : World} {v : Value} {base : Int} {xss pss : List (List Int)} {ks : List Int} (h : SegRd w v base xss ks pss) : ∃ a1 c1 a2 c2 a3 c3, v = .agg #[.int .i64 base, .slice a1 xss.length c1, .slice a2 ks.length c2, .slice a3 pss.length c3] := by
  obtain ⟨lv, kv, pv, rfl, ⟨a1, c1, rfl, -⟩, ⟨a2, c2, rfl, -⟩, ⟨a3, c3, rfl, -⟩⟩ := h
  exact ⟨a1, c1, a2, c2, a3, c3, rfl⟩

end Go.Proofs.Ytkajdhliejjohaa
