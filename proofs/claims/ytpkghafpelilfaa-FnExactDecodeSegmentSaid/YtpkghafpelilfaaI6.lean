import Derived.Test.YtpkghafpelilfaaI5
import Derived.Test.YtpkghafpelilfaaO4
namespace Go.Proofs.Ytpkghafpelilfaa
open Go.RowKit

/-- One list of bytes of its own more. -/
theorem LB.push {base : Nat} {w V wr : World} {ov lv : Value} {ps : List (Cl Int)} {ls : List Int} (Hll : LB base V ov ps) (hbV : base ≤ V.heap.size) (hbl : Below V.heap.size V wr) (hb : Below base w V) (Hown : wr.ownsRow V.heap.size 5 1 lv ls.length (ls.map mB))
    (w' : World) (v' : Value) (g1 : w'.ownsRow base 28 1 v' (ps.length + 1) (ps.map Cl.v ++ [lv])) (g2 : (wr.alloc (.cells #[lv] 28)).grownBy w' ov.ownBlock) : ∃ p : Cl Int, p.xs = ls ∧ LB base w' v' (ps ++ [p]) ∧ Below base w w' := by
  obtain ⟨pb, hp, hplo⟩ := own_cl Hown
  have hz := hbl.size
  obtain ⟨r1, r2⟩ := (Hll.keep hbl (Nat.le_refl _)).app (by decide) (by omega) hp (fun h => Nat.le_trans hbV (hplo h)) (fun q hq hq0 hp0 e => by
    have h1 := (Hll.ok q hq).lt hq0
    have h2 := hplo hp0
    rw [e] at h1
    exact absurd h1 (Nat.not_lt.2 h2)) (pushd_alloc wr _) g1 g2
  exact ⟨_, rfl, r1, (hb.trans (hbl.mono hbV)).trans r2⟩

theorem take_snoc {α : Type} (xss : List α) (d : α) (k : Nat) (h : k < xss.length) : xss.take (k + 1) = xss.take k ++ [xss[k]?.getD d] := by
  rw [List.take_add_one, List.getElem?_eq_getElem h]
  rfl

set_option maxHeartbeats 2000000 in
set_option maxRecDepth 100000 in
theorem l4copy_any (v : Value) (xss : List (List Int)) (w : World) (hv : SsAt mB 0 w.heap.size w v xss) (hT : tot xss ≤ 1048576) (hL : xss.length ≤ 1048576) :
    Calls Try.prog 57 #[v] w fun e w' => ∃ v', e = .returned v' ∧ (∃ ps, ps.map Cl.xs = xss ∧ LB w.heap.size w' v' ps) ∧ Below w.heap.size w w' := by
  obtain ⟨j0, hj, hy0, hy1, hy2⟩ := info_parts Try.zinByteS
  obtain ⟨a, cap, rfl, hl, hc⟩ := hv
  unfold maxLen at hl
  go_enter Try.func57, Try.ntmps57
  go_wp2_with fail
  go_loopw [3, 4] (fun ov iv wr => ∃ (k : Nat) (ps : List (Cl Int)), k ≤ xss.length ∧ ps.length ≤ k ∧ iv = .int .i64 k ∧ ps.map Cl.xs = xss.take k ∧ LB w.heap.size wr ov ps ∧ Below w.heap.size w wr) (fun _ iv _ => xss.length - (intOf iv).toNat)
  case atStart => exact ⟨0, [], Nat.zero_le _, Nat.le_refl _, rfl, by simp, LL.nil, Below.refl _ _⟩
  case round =>
    obtain ⟨k, ps, hk, hpk, rfl, hln, hll, hb⟩ := hrel
    have hszr := hb.size
    have Hll := hide hll
    have Hln := hide hln
    obtain ⟨oa, oc, rfl⟩ := own_is hll.own
    clear hll hln
    by_cases hlt : k < xss.length
    · have hlt' : (k : Int) < (xss.length : Int) := by omega
      obtain ⟨b, off, rfl, hbn, hcell⟩ := hc (by omega)
      obtain ⟨s, hx0, hs, -⟩ := hcell k hlt
      have hx : wr.cell? ⟨b, off + k, none⟩ = some s := by rw [hb.cell (p := ⟨b, off + k, none⟩) hbn]; exact hx0
      have Hs := hide (hs.below hb (Nat.le_refl _))
      have ht := tot_get xss k
      have Hsn := hide (take_snoc xss [] k hlt)
      obtain ⟨sa, sc, rfl, -, -⟩ := hs
      clear hcell hc hx0
      generalize xss[k]?.getD [] = x at *
      go_wp2_with (first
        | (at_builtin; refine app_bytes rfl _ _ rfl wr.heap.size _ [] rfl (World.ownsRow_nil _ _ _ _) (Nat.le_refl _) _ rfl x (unhide Hs) (by simp; omega) ?_; intro v1 w1 hb1 hg1 ho1 hone; rw [List.nil_append] at ho1; have Hst := hide (LB.push (unhide Hll) hszr hb1 hb ho1); have Hk := hide ((unhide Hll).keep hb1 (Nat.le_refl _)); have hz1 := hb1.size; obtain ⟨la, lc, rfl⟩ := own_is ho1; clear ho1 hg1 Hll hb1)
        | (at_builtin; refine wpList_append_own _ rfl _ _ 22 rfl w.heap.size 28 j0 (.slice none 0 0) 1 24 Try.underlying22 hj hy0 hy1 hy2 rfl (by decide) _ _ _ rfl (World.ownsRow.alloc (w := w1) (unhide Hk).own _) ⟨w1.heap.size, 0, none⟩ 1 1 [.slice la x.length lc] rfl rfl ?_ ?_ ?_ ?_ ?_ ?_))
      · exact cell_1 (by simp)
      · intro u hu; simp at hu; subst hu; rfl
      · unfold maxLen; omega
      · omega
      · rw [sz_alloc]; omega
      intro v3 w3 h5 hg5 _
      have h3 := hide (unhide Hst w3 v3 h5 hg5)
      obtain ⟨g3, cap3, rfl⟩ := ownsRow_succ h5
      clear h5 hg5
      go_wp2
      obtain ⟨p, r1, r2, r3⟩ := unhide h3
      exact ⟨⟨k + 1, ps ++ [p], by omega, by simp; omega, by go_num, by rw [unhide Hsn, ← unhide Hln, ← r1, List.map_append]; rfl, r2, r3⟩, by simp [intOf]; omega⟩
    · have hlt' : ¬ (k : Int) < (xss.length : Int) := by omega
      have hz : Hid (ps.map Cl.xs = xss) := by
        have := unhide Hln
        rwa [List.take_of_length_le (by omega)] at this
      clear hc
      go_wp2
      go_ret
      exact ⟨_, rfl, ⟨ps, unhide hz, unhide Hll⟩, hb⟩

end Go.Proofs.Ytpkghafpelilfaa
