import Derived.Test.YtfdkdjngeomcdaaDoorMe6
namespace Go.Proofs.YtfdkdjngeomcdaaDoor
open Go.RowKit

/-- The pattern is valid, the line is short enough and among its strings. -/
def MatchA (l r : Bool) (xs : List El) (bs : List Int) : Prop := ValidT xs ∧ bs.length ≤ 20000 ∧ ∃ R, SegL bs.length (hsL bs) xs R ∧ MatchP bs.length l r R
theorem matchA_iff {l r : Bool} {xs : List El} {bs : List Int} {R : Rl} (h1 : ValidT xs) (h2 : bs.length ≤ 20000) (h3 : SegL bs.length (hsL bs) xs R) : MatchA l r xs bs ↔ MatchP bs.length l r R :=
  ⟨fun ⟨_, _, _, h4, h5⟩ => SegL.one h4 h3 ▸ h5, fun h => ⟨h1, h2, R, h3, h⟩⟩

set_option maxHeartbeats 4000000 in
set_option maxRecDepth 100000 in
theorem specMatch_any (l r : Bool) (v lv : Value) (xs : List El) (bs : List Int) (w : World) (hv : ElsAt 0 w.heap.size w v xs) (hlv : SlAt mB 0 0 w.heap.size w lv bs) (hb : ∀ x ∈ bs, 0 ≤ x ∧ x ≤ 255) (hl : bs.length ≤ 1048576) :
    Calls Tryd.prog 5 #[.agg #[.bool l, .bool r, v], lv] w fun e w' => RetB e (MatchA l r xs bs) ∧ Below w.heap.size w w' := by
  obtain ⟨a, cp, rfl, -, -⟩ := id hv
  obtain ⟨la, lc, rfl, -, -⟩ := id hlv
  have Hv := hide hv
  have Hlv := hide hlv
  have Hb := hide hb
  have hb0 := below1 w (.cells #[.bool l, .bool r, .slice a xs.length cp] 30)
  have hz0 : (w.alloc (.cells #[.bool l, .bool r, .slice a xs.length cp] 30)).heap.size = w.heap.size + 1 := sz_alloc _ _
  have HC : Hid (∀ W, Below (w.heap.size + 1) (w.alloc (.cells #[.bool l, .bool r, .slice a xs.length cp] 30)) W → W.cell? ⟨w.heap.size, 0, none⟩ = some (.bool l) ∧ W.cell? ⟨w.heap.size, 1, none⟩ = some (.bool r) ∧ W.cell? ⟨w.heap.size, 2, none⟩ = some (.slice a xs.length cp)) := fun W hW =>
    ⟨(hW.cell (p := ⟨w.heap.size, 0, none⟩) (Nat.lt_succ_self _)).trans ((pushd_alloc w _).news 0 _ rfl), (hW.cell (p := ⟨w.heap.size, 1, none⟩) (Nat.lt_succ_self _)).trans ((pushd_alloc w _).news 1 _ rfl), (hW.cell (p := ⟨w.heap.size, 2, none⟩) (Nat.lt_succ_self _)).trans ((pushd_alloc w _).news 2 _ rfl)⟩
  clear hv hlv hb
  go_enter Tryd.func5, Tryd.ntmps5
  go_wp2_with fail
  refine (specValid_any l r _ xs _ ((unhide Hv).below hb0 (Nat.le_refl _))).mono ?_
  rintro e w1 ⟨hret, hb1⟩
  have HB1 : Hid (Below w.heap.size w w1) := hb0.trans (hb1.mono (by omega))
  obtain ⟨k0, k1, k2⟩ := unhide HC w1 (hb1.mono (by omega))
  clear hb1 hb0 HC hz0
  rcases hret.cases with ⟨rfl, hok⟩ | ⟨rfl, hbad⟩
  · by_cases hle : bs.length ≤ 20000
    · obtain ⟨R, hR, hE⟩ := en_valid bs hok
      have HM := hide (matchA_iff (l := l) (r := r) hok hle hR)
      have HL2 := hide (l2match_any l r (.slice a xs.length cp) (.slice la bs.length lc) xs bs R w1 ((unhide Hv).below (unhide HB1) (Nat.le_refl _)) hok.1.2 ((unhide Hlv).below (unhide HB1) (Nat.le_refl _)) ⟨hle, unhide Hb⟩ hR.2 hE)
      have hle' : (bs.length : Int) ≤ 20000 := by omega
      have hle2 : ¬ (20000 : Int) < (bs.length : Int) := by omega
      clear hok hR hE hret
      go_wp2_with fail
      refine (unhide HL2).mono ?_
      rintro e w2 ⟨⟨x, rfl, hx⟩, hb2⟩
      have HX : Hid (RetB (.returned (.bool x)) (MatchA l r xs bs) ∧ Below w.heap.size w w2) := ⟨⟨x, rfl, hx.trans (unhide HM).symm⟩, (unhide HB1).trans (hb2.mono (unhide HB1).size)⟩
      clear hx hb2 HL2 HM
      go_wp2
      go_ret
      exact unhide HX
    · have hgt : (20000 : Int) < (bs.length : Int) := by omega
      have HX : Hid (RetB (.returned (.bool false)) (MatchA l r xs bs) ∧ Below w.heap.size w w1) := ⟨⟨false, rfl, ⟨fun h => (by cases h), fun h => absurd h.2.1 hle⟩⟩, unhide HB1⟩
      clear hok hret
      go_wp2
      go_ret
      exact unhide HX
  · have HX : Hid (RetB (.returned (.bool false)) (MatchA l r xs bs) ∧ Below w.heap.size w w1) := ⟨⟨false, rfl, ⟨fun h => (by cases h), fun h => absurd h.1 hbad⟩⟩, unhide HB1⟩
    clear hbad hret
    go_wp2
    go_ret
    exact unhide HX

end Go.Proofs.YtfdkdjngeomcdaaDoor
