import Derived.Test.YtkajdhliejjohaaEn6
import Derived.Test.YtkajdhliejjohaaL5
import Derived.Test.YtkajdhliejjohaaL8
import Derived.Deep.RegionHeld3
namespace Go.Proofs.Ytkajdhliejjohaa
open Go.RowKit

theorem valid_enc {base : Int} {xss pss : List (List Int)} {ks : List Int} (hv : Valid base xss ks pss) (hi : SegIn base xss ks pss) : EncIn base xss ks pss := by
  obtain ⟨⟨a0, a1, a2, a3, a4⟩, hs⟩ := hv
  refine ⟨⟨a0, by omega⟩, hi.bytes, fun k hk => ?_, fun p hp x hx => ?_, hi.t1, hi.l1, hi.l2, hi.t3, by rw [hs.len]; exact Nat.le_refl _⟩
  · have h1 := (hs.keys.mem k).1 hk
    obtain ⟨i, hi1, hi2⟩ := (allT_mem xss k).1 h1
    have := tr_nonneg (hi.bytes _ (by rw [List.getElem?_eq_getElem hi1]; exact List.getElem_mem hi1)) hi2
    exact ⟨this.1, by omega⟩
  · obtain ⟨j, hj, rfl⟩ := List.getElem_of_mem hp
    have h1 := hs.post j (by rw [← hs.len]; exact hj)
    rw [List.getElem?_eq_getElem hj] at h1
    obtain ⟨i, hi1, rfl, -⟩ := (h1.2 x).1 hx
    exact ⟨by omega, by omega⟩

/-- What both sides answer. -/
def EncIs (J : Prop) (base : Int) (xss : List (List Int)) (ks : List Int) (pss : List (List Int)) (bs : List Int) : Prop := (J ∧ bs = encL base xss ks pss) ∨ (¬ J ∧ bs = [])
theorem EncIs.uniq {J : Prop} {base : Int} {xss pss : List (List Int)} {ks bs bs' : List Int} (h : EncIs J base xss ks pss bs) (h' : EncIs J base xss ks pss bs') : bs = bs' := by
  rcases h with ⟨hj, rfl⟩ | ⟨hj, rfl⟩ <;> rcases h' with ⟨hj', rfl⟩ | ⟨hj', rfl⟩
  · rfl
  · exact absurd hj hj'
  · exact absurd hj' hj
  · rfl
theorem encL_len {base : Int} {xss pss : List (List Int)} {ks : List Int} (h : EncIn base xss ks pss) : (encL base xss ks pss).length ≤ 134217732 := by
  have := bodL_len h
  unfold encL
  rw [List.length_append]
  show _ + 4 ≤ _
  omega
def EncRet (e : Ending) (lo : Nat) (w' : World) (J : Prop) (base : Int) (xss : List (List Int)) (ks : List Int) (pss : List (List Int)) : Prop := ∃ v' bs, e = .returned v' ∧ EncIs J base xss ks pss bs ∧ Out lo w' v' bs ∧ bs.length ≤ 134217732
theorem EncRet.no {lo : Nat} {w' : World} {J : Prop} {base : Int} {xss pss : List (List Int)} {ks : List Int} (h : ¬ J) : EncRet (.returned (.slice none 0 0)) lo w' J base xss ks pss := ⟨_, [], rfl, Or.inr ⟨h, rfl⟩, World.ownsRow_nil _ _ _ _, by simp⟩

set_option maxHeartbeats 4000000 in
set_option maxRecDepth 100000 in
theorem implEncode_any (v : Value) (base : Int) (xss pss : List (List Int)) (ks : List Int) (w : World) (hv : SegRd w v base xss ks pss) (hi : SegIn base xss ks pss) :
    Calls Try.prog 8 #[v] w fun e w' => EncRet e w.heap.size w' (Valid base xss ks pss) base xss ks pss ∧ Below w.heap.size w w' := by
  have HV := hide hv
  obtain ⟨a1, c1, a2, c2, a3, c3, rfl, -⟩ := hv.parts
  have HI := hide hi
  have hb0 := below1 w (.cells #[.int .i64 base, .slice a1 xss.length c1, .slice a2 ks.length c2, .slice a3 pss.length c3] 28)
  have RA := Row4.new w 28 (.int .i64 base) (.slice a1 xss.length c1) (.slice a2 ks.length c2) (.slice a3 pss.length c3)
  have hzV : (w.alloc (.cells #[.int .i64 base, .slice a1 xss.length c1, .slice a2 ks.length c2, .slice a3 pss.length c3] 28)).heap.size = w.heap.size + 1 := sz_alloc _ _
  clear hv hi
  go_enter Try.func8, Try.ntmps8
  go_wp2_with fail
  generalize w.alloc (.cells #[.int .i64 base, .slice a1 xss.length c1, .slice a2 ks.length c2, .slice a3 pss.length c3] 28) = V at *
  refine (validSegment_any _ base xss pss ks V ((unhide HV).below hb0 (Nat.le_refl _)) (unhide HI)).mono ?_
  rintro e w1 ⟨hr, hb1⟩
  have hz1 := hb1.size
  have hB1 : Below w.heap.size w w1 := hb0.trans (hb1.mono (by omega))
  obtain ⟨f0, f1, f2, f3, -⟩ := (RA.below hb1 (by omega)).facts
  rcases hr.cases with ⟨rfl, hm⟩ | ⟨rfl, hm⟩
  · have HE := hide (valid_enc hm (unhide HI))
    have Hm := hide hm
    clear hm hr
    go_wp2_with fail
    refine (encoded_any _ base xss pss ks w1 ((unhide HV).below hB1 (Nat.le_refl _)) (unhide HE)).mono ?_
    rintro e w2 ⟨⟨v2, rfl, ho2⟩, hb2⟩
    have HO2 := hide ho2
    obtain ⟨oa2, oc2, rfl⟩ := own_is ho2
    have hBf : Below w.heap.size w w2 := hB1.trans (hb2.mono (by omega))
    clear ho2
    go_wp2
    go_ret
    exact ⟨⟨_, _, rfl, Or.inl ⟨unhide Hm, rfl⟩, own_low (unhide HO2) (by omega), encL_len (unhide HE)⟩, hBf⟩
  · have Hm := hide hm
    clear hm hr
    go_wp2_with fail
    go_ret
    exact ⟨EncRet.no (unhide Hm), hB1⟩

end Go.Proofs.Ytkajdhliejjohaa
