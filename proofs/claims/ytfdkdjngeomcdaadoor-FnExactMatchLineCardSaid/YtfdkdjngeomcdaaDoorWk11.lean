import Derived.Test.YtfdkdjngeomcdaaDoorWk8
import Derived.Test.YtfdkdjngeomcdaaDoorWk10
namespace Go.Proofs.YtfdkdjngeomcdaaDoor
open Go.RowKit

/-- The positions that the program finds at a node. -/
def PosT (U : Value) (L : List El) : Prop := ∃ a ln ss c, AddV U (lvs L) a ln ss ∧ SegO L (lvs L) a ln ss ∧ Bdd a (lvs L) ∧ SegM L c
theorem closPosT : ClosX PosT := by
  refine ⟨?_, ?_, ?_, ?_, ?_⟩
  · exact ⟨⟨true, [], []⟩, [], [], 1, AddV.e, SegO.e, by constructor <;> simp, SegM.leaf (Or.inl rfl)⟩
  · intro xs g hc hw
    exact ⟨⟨false, [0], [0]⟩, [], [xs], 1, AddV.s hw hc, SegO.s xs, by constructor <;> simp [lvs], SegM.leaf (Or.inr rfl)⟩
  · rintro u v L R ⟨a, la, sa, c, u1, u4, u5, u7⟩ ⟨b, lb, sb, d, v1, v4, v5, v7⟩
    have e := lvs_cat L R 2 (by decide)
    have h1 := AddV.cat u1 v1 u5
    have h4 := u4.cat v4
    have h5 : Bdd (itCat a (b.sh (lvs L))) (lvs L + lvs R) := (u5.mono (Nat.le_add_right _ _)).cat (v5.sh (lvs L))
    rw [← e] at h1 h4 h5
    exact ⟨_, _, _, _, h1, h4, h5, SegM.bin u7 v7 (Or.inl rfl)⟩
  · rintro u v L R ⟨a, la, sa, c, u1, u4, u5, u7⟩ ⟨b, lb, sb, d, v1, v4, v5, v7⟩
    have e := lvs_cat L R 3 (by decide)
    have h1 := AddV.alt u1 v1 u5
    have h4 := u4.alt v4
    have h5 : Bdd (itAlt a (b.sh (lvs L))) (lvs L + lvs R) := (u5.mono (Nat.le_add_right _ _)).alt (v5.sh (lvs L))
    rw [← e] at h1 h4 h5
    exact ⟨_, _, _, _, h1, h4, h5, SegM.bin u7 v7 (Or.inr rfl)⟩
  · rintro u L mn mx ⟨a, la, sa, c, u1, u4, u5, u7⟩ o2 o3 o4
    have e : lvs (L ++ [⟨4, [], mn, mx⟩]) = lvs L := by rw [lvs_app]; simp [lvs]
    have h1 := AddV.rep u1 u5 mn mx
    have h4 := u4.rep mn mx
    have h5 : Bdd (itRep a mn) (lvs L) := u5
    rw [← e] at h1 h4 h5
    exact ⟨_, _, _, _, h1, h4, h5, SegM.rep u7 rfl o2 o4⟩
theorem It.sh0 (a : It) : a.sh 0 = a := by unfold It.sh; rw [shift0, shift0]
theorem shL0 (ln : List Lk) : shL 0 ln = ln := by unfold shL; simp
/-- The automaton as it is read. -/
theorem AutAt.rd {O : Nat → Prop} {A N : Nat} {w : World} {S : List (List Int)} {K : List Lk} {b : Bool} {f l : Nat → Nat} (h : AutAt O A w N S K b f l) : ∃ sv gs fv fs, w.cell? ⟨A, 0, none⟩ = some sv ∧ RsB w sv N gs ∧ S.length = N ∧ (∀ i, i < N → WordsOf (S[i]?.getD []) (gs i)) ∧ AutR w A N fv fs b f l ∧ (∀ i, Fit (fs i)) ∧ ∀ i j, Bt (fs i) j = mkd K i j := by
  obtain ⟨⟨sv, fv, gs, hs, hM, h2, h3, h4, h5, -⟩, F2, hF2, hE⟩ := h
  obtain ⟨F, hF, h0, h1⟩ := hM.box
  refine ⟨sv, gs, fv, hs, by rw [hF.cell (by omega), h0], hM.so, h2, fun i hi => (h3 i hi).2, ⟨⟨F2, hF2, ?_, hE⟩, hM.fo⟩, h4, h5⟩
  have q1 := hF.cell (i := 1) (by omega)
  have q2 := hF2.cell (i := 1) (by omega)
  rw [q1] at q2
  rw [← Option.some.inj q2, h1]
/-- Among the strings, in the words of the pending positions. -/
theorem match_end {l r : Bool} {xs L : List El} {bs : List Int} {U : Value} {a : It} {ln : List Lk} {ss : List (List Int)} (hb : ∀ x ∈ bs, 0 ≤ x ∧ x ≤ 255) (hle : bs.length ≤ 20000) (hok : ValidT xs) (hx : SegX xs L) (hg : GlS bs.length (hsL bs) U (whL l r L)) (ho : SegO (whL l r L) (lvs (whL l r L)) a ln ss) :
    MatchA l r xs bs ↔ PEnd (SetP (hsL bs) ss) (fun x y => mkd ln x y = true) a bs.length := by
  obtain ⟨R, h1, h2, h3⟩ := exL_valid (n := bs.length) (hs := hsL bs) hok hx
  obtain ⟨W, h4, h5⟩ := whole_rel h2 (fun i hi => by
    have := hb (bs[i]?.getD 0) (by rw [List.getElem?_eq_getElem hi]; exact List.getElem_mem hi)
    exact ⟨0, by simp, this.1, this.2⟩) l r
  obtain ⟨R', a', ln', ss', h6, h7, h8, -⟩ := hg (h3.wh l r)
  obtain ⟨-, e1, e2, e3⟩ := SegO.one ho h7
  rw [It.sh0, It.sh0] at e1
  rw [shL0, shL0] at e2
  subst e1 e2 e3
  obtain rfl := SegL.one h6 h4
  rw [matchA_iff hok hle h1, ← glu_end h8, h5]
  rfl

end Go.Proofs.YtfdkdjngeomcdaaDoor
