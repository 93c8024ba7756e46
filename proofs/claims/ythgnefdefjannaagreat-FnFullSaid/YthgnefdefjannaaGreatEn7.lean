import Derived.Test.YthgnefdefjannaaGreatP11
import Derived.Test.YthgnefdefjannaaGreatP12
import Derived.Deep.RegionHeld3
namespace Go.Proofs.YthgnefdefjannaaGreat
open Go.RowKit

theorem valid_enc {base : Int} {xss pss : List (List Int)} {ks : List Int} (hv : Valid base xss ks pss) (hi : SegIn base xss ks pss) : EncIn base xss ks pss := by
  obtain ⟨⟨a0, a1, a2, a3, a4⟩, hs⟩ := hv
  refine ⟨⟨a0, by omega⟩, hi.bytes, fun k hk => ?_, fun p hp x hx => ?_, hi.t1, hi.l1, hi.l2, hi.t3, by rw [hs.len]; exact Nat.le_refl _⟩
  · have h1 := (hs.keys.mem k).1 hk
    obtain ⟨i, hi1, hi2⟩ := (allT_mem xss k).1 h1
    have := tr_nonneg (hi.bytes _ (by rw [List.getElem?_eq_getElem hi1]; exact List.getElem_mem hi1)) hi2
    exact ⟨this.1, by omega⟩
  · obtain ⟨j, hj, rfl⟩ := List.getElem_of_mem hp
    have h1 := hs.post j (by rw [← hs.len]; exact hj)
    rw [List.getElem?_eq_getElem hj] at h1
    obtain ⟨i, hi1, rfl, -⟩ := (h1.2 x).1 hx
    exact ⟨by omega, by omega⟩

/-- What both sides answer. -/
def EncIs (J : Prop) (base : Int) (xss : List (List Int)) (ks : List Int) (pss : List (List Int)) (bs : List Int) : Prop := (J ∧ bs = encL base xss ks pss) ∨ (¬ J ∧ bs = [])
theorem EncIs.uniq {J : Prop} {base : Int} {xss pss : List (List Int)} {ks bs bs' : List Int} (h : EncIs J base xss ks pss bs) (h' : EncIs J base xss ks pss bs') : bs = bs' := by
  rcases h with ⟨hj, rfl⟩ | ⟨hj, rfl⟩ <;> rcases h' with ⟨hj', rfl⟩ | ⟨hj', rfl⟩
  · rfl
  · exact absurd hj hj'
  · exact absurd hj' hj
  · rfl
theorem encL_len {base : Int} {xss pss : List (List Int)} {ks : List Int} (h : EncIn base xss ks pss) : (encL base xss ks pss).length ≤ 134217732 := by
  have := bodL_len h
  unfold encL
  rw [List.length_append]
  show _ + 4 ≤ _
  omega
def EncRet (e : Ending) (lo : Nat) (w' : World) (J : Prop) (base : Int) (xss : List (List Int)) (ks : List Int) (pss : List (List Int)) : Prop := ∃ v' bs, e = .returned v' ∧ EncIs J base xss ks pss bs ∧ Out lo w' v' bs ∧ bs.length ≤ 134217732
theorem EncRet.no {lo : Nat} {w' : World} {J : Prop} {base : Int} {xss pss : List (List Int)} {ks : List Int} (h : ¬ J) : EncRet (.returned (.slice none 0 0)) lo w' J base xss ks pss := ⟨_, [], rfl, Or.inr ⟨h, rfl⟩, World.ownsRow_nil _ _ _ _, by simp⟩

end Go.Proofs.YthgnefdefjannaaGreat
