import Derived.Test.YtidjmaakhldpgaaI2
namespace Go.Proofs.Ytidjmaakhldpgaa
open Go.RowKit

def lenV (v : Value) : Nat := match v with | .slice _ n _ => n | _ => 0

theorem Bytes.drop {bs : List Int} (h : Bytes bs) (k : Nat) : Bytes (bs.drop k) := fun i => by
  rw [drop_get]
  exact h (k + i)

set_option maxHeartbeats 4000000 in
set_option maxRecDepth 100000 in
theorem implSplit_any (v : Value) (bs : List Int) (w : World) (hv : SlAt mB 0 0 w.heap.size w v bs) (hcap : CapOk v) (hbb : Bytes bs) (hl : bs.length ≤ 1048576) :
    Calls Try.prog 8 #[v] w fun e w' => SplR e w w' bs := by
  obtain ⟨j0, hj, hy0, hy1, hy2⟩ := info_parts Try.zinByteS
  have Hv := hide hv
  have Hcap := hide hcap
  have HB := hide hbb
  obtain ⟨a, cap, rfl, -, -⟩ := hv
  clear hcap hbb
  go_enter Try.func8, Try.ntmps8
  go_wp2_with fail
  go_loopw [0, 3] (fun tv ov wr => ∃ (ys : List Int) (ps : List (Cl Int)), ys.length + ps.length ≤ bs.length ∧ Bytes ys ∧ SlAt mB 0 0 w.heap.size w tv ys ∧ CapOk tv ∧ ps.map Cl.xs ++ lns ys = lns bs ∧ LB w.heap.size wr ov ps ∧ Below w.heap.size w wr) (fun tv _ _ => lenV tv)
  case atStart => exact ⟨bs, [], by simp, unhide HB, unhide Hv, unhide Hcap, by simp, LL.nil, Below.refl _ _⟩
  case round =>
    obtain ⟨ys, ps, hyl, hbb, htv, htc, hln, hll, hb⟩ := hrel
    have hszr := hb.size
    have Hll := hide hll
    have Hln := hide hln
    have Htv := hide htv
    have Htc := hide htc
    have Hbb := hide hbb
    obtain ⟨oa, oc, rfl⟩ := own_is hll.own
    obtain ⟨ta, tc, rfl, -, -⟩ := htv
    clear hll hln htc hbb
    by_cases hp : 0 < ys.length
    · have hp' : (0 : Int) < (ys.length : Int) := by omega
      have hb1 := below1 wr (.cells #[.int .u8 10] 5)
      have hx : (wr.alloc (.cells #[.int .u8 10] 5)).cell? ⟨wr.heap.size, 0, none⟩ = some (.int .u8 10) := by simp
      go_wp2_with fail
      refine (cut_any _ ys _ _ _ w.heap.size _ (by exact (unhide Htv).same (Same.of_below ((hb.trans (hb1.mono hszr))) (Nat.le_refl _))) (unhide Htc) (unhide Hbb) (by omega) hx).mono ?_
      rintro e w1 ⟨⟨va, vb, r, rfl, ⟨hva, hvac⟩, hvb, hvbc⟩, q, hw1⟩
      have hB1 : Below wr.heap.size wr w1 := by rw [hw1]; exact below_drewN hb1 q
      have hBw : Below w.heap.size w w1 := hb.trans (hB1.mono hszr)
      have hVa : Hid (SlAt mB 0 0 w1.heap.size w1 va (hd ys)) := by
        rw [hw1]
        exact hva.mono (Nat.le_refl _) (by show w.heap.size ≤ (wr.alloc _).heap.size; rw [sz_alloc]; omega)
      have hVb : Hid (SlAt mB 0 0 w.heap.size w vb (ys.drop ((hd ys).length + 1))) := hvb.same (fun b o h1 h2 => ((hb.trans (hb1.mono hszr)).cell (p := ⟨b, o, none⟩) h2).symm)
      have Hvbc := hide hvbc
      have hz1 := hB1.size
      have Hll1 := hide ((unhide Hll).keep hB1 (Nat.le_refl _))
      have Hln1 := hide (unhide Hln)
      rw [lns_cons (xs := ys) (List.length_pos_iff.1 hp)] at Hln1
      have hhl := hd_len ys
      have hdl : (ys.drop ((hd ys).length + 1)).length + 1 ≤ ys.length := by simp; omega
      have Hb2 := hide ((unhide Hbb).drop ((hd ys).length + 1))
      obtain ⟨aa, ca, rfl, -, -⟩ := id (unhide hVa)
      obtain ⟨ab, cb, rfl, -, -⟩ := id (unhide hVb)
      clear hva hvac hvb hvbc hw1 hx hb1 Hln Hll Htv Htc Hbb hb
      generalize ys.drop ((hd ys).length + 1) = zs at *
      generalize hd ys = ln at *
      go_wp2_with fail
      refine (bclone_any _ ln _ (unhide hVa) (by omega)).mono ?_
      rintro e w2 ⟨⟨v2, rfl, hown⟩, hb2⟩
      have Hown := hide hown
      have hz2 := hb2.size
      obtain ⟨la, lc, rfl⟩ := own_is hown
      have Hst : Hid (∀ (w' : World) (v' : Value), w'.ownsRow w.heap.size 22 1 v' (ps.length + 1) (ps.map Cl.v ++ [.slice la ln.length lc]) → (w2.alloc (.cells #[.slice la ln.length lc] 22)).grownBy w' (Value.slice oa ps.length oc).ownBlock →
          ∃ p : Cl Int, p.xs = ln ∧ LB w.heap.size w' v' (ps ++ [p]) ∧ Below w.heap.size w w') := fun w' v' g1 g2 => by
        obtain ⟨pb, hp, hplo⟩ := own_cl (unhide Hown)
        have hll' := (unhide Hll1).keep hb2 (Nat.le_refl _)
        obtain ⟨r1, r2⟩ := hll'.app (by decide) (by omega) hp (fun h => Nat.le_trans (by omega) (hplo h)) (fun q hq hq0 hp0 e => by
          have h1 := ((unhide Hll1).ok q hq).lt hq0
          have h2 := hplo hp0
          rw [e] at h1
          exact absurd h1 (Nat.not_lt.2 h2)) (pushd_alloc w2 _) g1 g2
        exact ⟨_, rfl, r1, (hBw.trans (hb2.mono (by omega))).trans r2⟩
      clear hown
      go_wp2_with (at_builtin; refine wpList_append_own _ rfl _ _ 23 rfl w.heap.size 22 j0 (.slice none 0 0) 1 24 Try.underlying23 hj hy0 hy1 hy2 rfl (by decide) _ _ _ rfl (World.ownsRow.alloc (w := w2) ((unhide Hll1).keep hb2 (Nat.le_refl _)).own _) ⟨w2.heap.size, 0, none⟩ 1 1 [.slice la ln.length lc] rfl rfl ?_ ?_ ?_ ?_ ?_ ?_)
      · exact cell_1 (by simp)
      · intro u hu; simp at hu; subst hu; rfl
      · unfold maxLen; omega
      · omega
      · rw [sz_alloc]; omega
      intro v3 w3 h5 hg5 _
      have h3 := hide (unhide Hst w3 v3 h5 hg5)
      obtain ⟨g3, cap3, rfl⟩ := ownsRow_succ h5
      clear h5 hg5
      go_wp2
      obtain ⟨p, r1, r2, r3⟩ := unhide h3
      exact ⟨⟨zs, ps ++ [p], by simp; omega, unhide Hb2, unhide hVb, unhide Hvbc, by rw [← unhide Hln1, List.map_append, List.append_assoc, ← r1]; rfl, r2, r3⟩, by simp only [lenV]; omega⟩
    · have hp' : ¬ (0 : Int) < (ys.length : Int) := by omega
      have hz : Hid (ps.map Cl.xs = lns bs) := by
        have := unhide Hln
        rwa [List.eq_nil_of_length_eq_zero (by omega : ys.length = 0), lns_nil, List.append_nil] at this
      go_wp2
      go_ret
      exact ⟨_, ps, rfl, unhide hz, unhide Hll, hb⟩

end Go.Proofs.Ytidjmaakhldpgaa
