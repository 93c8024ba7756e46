import Derived.Test.YtfjnhmgmcldidaaO1
import Derived.Test.YtfjnhmgmcldidaaX0
namespace Go.Proofs.Ytfjnhmgmcldidaa
open Go.RowKit

theorem SlAt.take {α : Type} {mk : α → Value} {d : α} {lo n b off k cap : Nat} {w : World} {xs : List α} (hk : k ≤ xs.length) (hl : xs.length ≤ maxLen) (hb : lo ≤ b) (hbn : b < n) (hc : ∀ i : Nat, i < xs.length → w.cell? ⟨b, off + i, none⟩ = some (mk (xs[i]?.getD d))) :
    SlAt mk d lo n w (.slice (some ⟨b, off, none⟩) k cap) (xs.take k) := by
  have e : (xs.take k).length = k := by simp; omega
  refine ⟨_, cap, by rw [e], by omega, fun _ => ⟨b, off, rfl, hb, hbn, fun i hi => ?_⟩⟩
  rw [e] at hi
  rw [hc i (by omega), List.getElem?_take, if_pos hi]
theorem SlAt.drop {α : Type} {mk : α → Value} {d : α} {lo n b off k m cap : Nat} {w : World} {xs : List α} (hk : k + m = xs.length) (hl : xs.length ≤ maxLen) (hb : lo ≤ b) (hbn : b < n) (hc : ∀ i : Nat, i < xs.length → w.cell? ⟨b, off + i, none⟩ = some (mk (xs[i]?.getD d))) :
    SlAt mk d lo n w (.slice (some ⟨b, off + k, none⟩) m cap) (xs.drop k) := by
  have e : (xs.drop k).length = m := by simp; omega
  refine ⟨_, cap, by rw [e], by omega, fun _ => ⟨b, off + k, rfl, hb, hbn, fun i hi => ?_⟩⟩
  rw [e] at hi
  rw [Nat.add_assoc, hc (k + i) (by omega), List.getElem?_drop]

/-- What putting a list into order answers. -/
def OrdRet (e : Ending) (w w' : World) (xs : List Int) : Prop :=
  ∃ v ys, e = .returned v ∧ Ord xs ys ∧ ys.length ≤ xs.length ∧ SlW mI 0 w.heap.size w'.heap.size w' v ys

/-- The same, in a row of its own. -/
def OrdOwn (e : Ending) (w w' : World) (xs : List Int) : Prop :=
  ∃ v ys, e = .returned v ∧ Ord xs ys ∧ ys.length ≤ xs.length ∧ w'.ownsRow w.heap.size 3 1 v ys.length (ys.map mI)

/-- One number more. -/
theorem ord_step {os : List Int} {u : Int} {w2 wr w3 : World} {tv v' : Value} {o : Obj} {q : Nat} (hown : wr.ownsRow w2.heap.size 3 1 tv os.length (os.map mI)) (hb : Below w2.heap.size w2 wr)
    (h1 : w3.ownsRow w2.heap.size 3 1 v' (os.length + 1) (os.map mI ++ [.int .i64 u])) (hg : ((wr.drewN q).alloc o).grownBy w3 tv.ownBlock) :
    w3.ownsRow w2.heap.size 3 1 v' (os ++ [u]).length ((os ++ [u]).map mI) ∧ Below w2.heap.size w2 w3 := by
  refine ⟨by rw [List.length_append, List.map_append]; exact h1, ((below_drewN hb q).alloc hb.size o).grown hg (by rw [sz_alloc]; exact Nat.le_succ_of_le hb.size) (fun k hk => (hown.lt k hk).1)⟩

set_option maxHeartbeats 10000000 in
set_option maxRecDepth 100000 in
theorem l3order_own (N : Nat) : ∀ (v : Value) (xs : List Int) (w : World), xs.length ≤ N → xs.length ≤ 1048576 → SlAt mI 0 0 w.heap.size w v xs → CapOk v →
    Calls Try.prog 36 #[v] w fun e w' => OrdOwn e w w' xs ∧ Below w.heap.size w w' := by
  induction N with
  | zero =>
    intro v xs w hN hl hv hcap
    have Hv := hide hv
    obtain ⟨a, cap, rfl, hml, hc⟩ := hv
    have h2 : xs.length < 2 := by omega
    have h2' : (xs.length : Int) < 2 := by omega
    clear hc
    go_enter Try.func36, Try.ntmps36
    go_wp2_with (at_builtin; refine app_ints_own rfl _ _ rfl rfl _ rfl xs (unhide Hv) hl ?_; intro v1 w1 hb1 hs1 ho1)
    go_ret
    exact ⟨⟨_, xs, rfl, Ord.small h2, Nat.le_refl _, hs1⟩, hb1⟩
  | succ N ih =>
    intro v xs w hN hl hv hcap
    obtain ⟨i0, hi, hz0, hz1, hz2⟩ := info_parts Try.zinInt
    have Hv := hide hv
    obtain ⟨a, cap, rfl, hml, hc⟩ := hv
    obtain ⟨hcp, hcm⟩ := hcap.le
    by_cases h2 : xs.length < 2
    · have h2' : (xs.length : Int) < 2 := by omega
      clear hc
      go_enter Try.func36, Try.ntmps36
      go_wp2_with (at_builtin; refine app_ints_own rfl _ _ rfl rfl _ rfl xs (unhide Hv) hl ?_; intro v1 w1 hb1 hs1 ho1)
      go_ret
      exact ⟨⟨_, xs, rfl, Ord.small h2, Nat.le_refl _, hs1⟩, hb1⟩
    · have h2' : ¬ (xs.length : Int) < 2 := by omega
      obtain ⟨b, off, rfl, -, hbn, hcell⟩ := hc (by omega)
      have hA : SlAt mI 0 0 w.heap.size w (.slice (some ⟨b, off, none⟩) (xs.length / 2) cap) (xs.take (xs.length / 2)) := SlAt.take (by omega) hml (Nat.zero_le _) hbn hcell
      have hB : SlAt mI 0 0 w.heap.size w (.slice (some ⟨b, off + xs.length / 2, none⟩) (xs.length - xs.length / 2) (cap - xs.length / 2)) (xs.drop (xs.length / 2)) := SlAt.drop (by omega) hml (Nat.zero_le _) hbn hcell
      have HA := hide hA
      have HB := hide hB
      clear hA hB hc hcell
      go_enter Try.func36, Try.ntmps36
      go_wp2_with fail
      refine (ih _ _ _ (by simp; omega) (by simp; omega) (unhide HA) (CapOk.mk (by omega) hcm)).mono ?_
      rintro e w1 ⟨⟨v1, x, rfl, ox, lx, sx0⟩, hb1⟩
      have sx := own_slw (lo := w.heap.size) sx0 (Nat.le_refl _) (by simp at lx; unfold maxLen; omega)
      clear sx0
      have hz1' := hb1.size
      obtain ⟨a1, c1, rfl, ml1, -⟩ := id sx
      have Sx := hide sx
      have HB1 := hide ((unhide HB).below hb1 (Nat.le_refl _))
      clear sx
      go_wp2_with fail
      refine (ih _ _ _ (by simp; omega) (by simp; omega) (unhide HB1) (CapOk.mk (by omega) (by omega))).mono ?_
      rintro e w2 ⟨⟨v2, y, rfl, oy, ly, sy0⟩, hb2⟩
      have sy := own_slw (lo := w1.heap.size) sy0 (Nat.le_refl _) (by simp at ly; unfold maxLen; omega)
      clear sy0
      have hz2' := hb2.size
      obtain ⟨a2, c2, rfl, ml2, -⟩ := id sy
      have Sy := hide sy
      clear sy
      have bx := fun wr (hb : Below w2.heap.size w2 wr) => (SlW.at (((unhide Sx).same (SameB.of_below hb2 (Nat.le_refl _))).same (SameB.of_below (lo := w.heap.size) (n := w1.heap.size) hb hz2')))
      have by' := fun wr (hb : Below w2.heap.size w2 wr) => (SlW.at ((unhide Sy).same (SameB.of_below (lo := w1.heap.size) (n := w2.heap.size) hb (Nat.le_refl _))))
      have Bx := hide bx
      have By := hide by'
      simp only [List.length_take, List.length_drop] at lx ly
      clear bx by' HA HB HB1 Hv
      unfold maxLen at ml1 ml2
      go_wp2_with fail
      go_loopw [6, 7, 8] (fun ov iv jv wr => ∃ (i j : Nat) (os : List Int), i ≤ x.length ∧ j ≤ y.length ∧ iv = .int .i64 i ∧ jv = .int .i64 j ∧ MInv x y os i j ∧ os.length ≤ i + j ∧ wr.ownsRow w2.heap.size 3 1 ov os.length (os.map mI) ∧ Below w2.heap.size w2 wr) (fun _ iv jv _ => x.length + y.length - ((intOf iv).toNat + (intOf jv).toNat))
      case atStart => exact ⟨0, 0, [], Nat.zero_le _, Nat.zero_le _, rfl, rfl, MInv.start x y, Nat.le_refl _, World.ownsRow_nil _ _ _ _, Below.refl _ _⟩
      case round =>
        obtain ⟨i, j, os, hix, hjy, rfl, rfl, hm, hol, hown, hb⟩ := hrel
        have hszr := hb.size
        have Hown := hide hown
        obtain ⟨oa, oc, rfl⟩ := own_is hown
        clear hown
        by_cases gj : j < y.length
        · have gj' : (j : Int) < (y.length : Int) := by omega
          have gjd : decide ((y.length : Int) ≤ (j : Int)) = false := decide_eq_false (by omega)
          have gje : decide (y.length ≤ j) = false := decide_eq_false (by omega)
          obtain ⟨_, _, e2, -, hcy⟩ := unhide By wr hb
          cases e2
          obtain ⟨b2, o2, rfl, -, hbn2, hcelly⟩ := hcy (by omega)
          have hy : wr.cell? ⟨b2, o2 + j, none⟩ = some (.int .i64 (y[j]?.getD 0)) := hcelly j gj
          clear hcelly hcy
          by_cases gi : i < x.length
          · have gi' : (i : Int) < (x.length : Int) := by omega
            obtain ⟨_, _, e1, -, hcx⟩ := unhide Bx wr hb
            cases e1
            obtain ⟨b1, o1, rfl, -, hbn1, hcellx⟩ := hcx (by omega)
            have hx : wr.cell? ⟨b1, o1 + i, none⟩ = some (.int .i64 (x[i]?.getD 0)) := hcellx i gi
            clear hcellx hcx
            by_cases hxy : x[i]?.getD 0 ≤ y[j]?.getD 0
            · have hle : j < y.length → x[i]?.getD 0 ≤ y[j]?.getD 0 := fun _ => hxy
              generalize hY : y[j]?.getD 0 = yv at *
              generalize hU : x[i]?.getD 0 = u at *
              have Hm := hide hm
              have HU := hide hU
              have HLE := hide (show j < y.length → x[i]?.getD 0 ≤ y[j]?.getD 0 from fun _ => by rw [hU, hY]; exact hxy)
              clear hm hU hle hY
              by_cases hos : os = []
              · subst hos
                have Hn := hide (MInv.next (unhide Hm) ox.asc oy.asc gi (by simp) (unhide HLE))
                rw [unhide HU] at Hn
                go_wp2_with fail
                go_quiet (fail)
                go_wp2_with (at_builtin; refine wpList_append_own _ rfl _ _ 23 rfl w2.heap.size 3 i0 (.int .i64 0) 1 8 Try.underlying23 hi hz0 hz1 hz2 rfl (by decide) _ _ _ rfl (World.ownsRow.alloc (w := wr.drewN nq) (unhide Hown) _) ⟨wr.heap.size, 0, none⟩ 1 1 [.int .i64 u] rfl rfl ?_ ?_ ?_ ?_ ?_ ?_)
                · refine cell_1 ?_
                  rw [World.cell?_alloc_at _ _ wr.heap.size _ (show wr.heap.size = (wr.drewN nq).heap.size from rfl)]
                  rfl
                · intro u' hu; simp at hu; subst hu; rfl
                · unfold maxLen; simp
                · simp
                · rw [sz_alloc]; show _ ≤ wr.heap.size + 1; omega
                intro v' w3 h5 hg5 _
                have hst := hide (ord_step (unhide Hown) hb h5 hg5)
                clear h5 hg5
                go_wp2
                go_roundw
                case rel => exact ⟨i + 1, j, _, by omega, by omega, by go_num, rfl, unhide Hn, by simp; omega, (unhide hst).1, (unhide hst).2⟩
                case measure => simp [intOf]; omega
              · have hp : 0 < os.length := List.length_pos_iff.2 hos
                have hp' : ((os.length : Int) == 0) = false := by simp; omega
                obtain ⟨g, oc', e, hcl⟩ := own_at (unhide Hown) hp
                cases e
                have hl0 : wr.cell? ⟨g, os.length - 1, none⟩ = some (.int .i64 (os[os.length - 1]?.getD 0)) := by
                  rw [hcl _ (by omega), List.getElem?_map, getD_of_lt (show os.length - 1 < os.length by omega)]
                  rfl
                clear hcl
                by_cases hne : os[os.length - 1]?.getD 0 = u
                · have Hn := hide (MInv.skip (unhide Hm) gi (by rw [unhide HU, ← hne]; exact mem_get.2 ⟨os.length - 1, by omega, rfl⟩))
                  rw [hne] at hl0
                  clear hne
                  have hidx : ((os.length : Int) - 1).toNat = os.length - 1 := by omega
                  go_wp2_with fail
                  go_quiet (fail)
                  go_wp2
                  go_roundw
                  case rel => exact ⟨i + 1, j, os, by omega, by omega, by go_num, rfl, unhide Hn, by omega, unhide Hown, below_drewN hb _⟩
                  case measure => simp [intOf]; omega
                · have Hn := hide (MInv.next (unhide Hm) ox.asc oy.asc gi (MInv.last (unhide Hm) (fun z hz => (unhide Hm).lx z hz i (Nat.le_refl _) gi) (by rw [unhide HU]; exact hne)) (unhide HLE))
                  rw [unhide HU] at Hn
                  generalize os[os.length - 1]?.getD 0 = lv at *
                  have hne' : (lv != u) = true := by simp [hne]
                  have hidx : ((os.length : Int) - 1).toNat = os.length - 1 := by omega
                  go_wp2_with fail
                  go_quiet (fail)
                  go_wp2_with (at_builtin; refine wpList_append_own _ rfl _ _ 23 rfl w2.heap.size 3 i0 (.int .i64 0) 1 8 Try.underlying23 hi hz0 hz1 hz2 rfl (by decide) _ _ _ rfl (World.ownsRow.alloc (w := wr.drewN nq) (unhide Hown) _) ⟨wr.heap.size, 0, none⟩ 1 1 [.int .i64 u] rfl rfl ?_ ?_ ?_ ?_ ?_ ?_)
                  · refine cell_1 ?_
                    rw [World.cell?_alloc_at _ _ wr.heap.size _ (show wr.heap.size = (wr.drewN nq).heap.size from rfl)]
                    rfl
                  · intro u' hu; simp at hu; subst hu; rfl
                  · unfold maxLen; omega
                  · omega
                  · rw [sz_alloc]; show _ ≤ wr.heap.size + 1; omega
                  intro v' w3 h5 hg5 _
                  have hst := hide (ord_step (unhide Hown) hb h5 hg5)
                  clear h5 hg5
                  go_wp2
                  go_roundw
                  case rel => exact ⟨i + 1, j, _, by omega, by omega, by go_num, rfl, unhide Hn, by simp; omega, (unhide hst).1, (unhide hst).2⟩
                  case measure => simp [intOf]; omega
            · have hle : i < x.length → y[j]?.getD 0 ≤ x[i]?.getD 0 := fun _ => by omega
              generalize hY : x[i]?.getD 0 = xv at *
              generalize hU : y[j]?.getD 0 = u at *
              have hxd : decide (xv ≤ u) = false := decide_eq_false hxy
              have Hm := hide hm
              have HU := hide hU
              have HLE := hide (show i < x.length → y[j]?.getD 0 ≤ x[i]?.getD 0 from fun _ => by rw [hU, hY]; omega)
              clear hm hU hle hY
              by_cases hos : os = []
              · subst hos
                have Hn := hide (MInv.swap (MInv.next (unhide Hm).swap oy.asc ox.asc gj (by simp) (unhide HLE)))
                rw [unhide HU] at Hn
                go_wp2_with fail
                go_quiet (fail)
                go_wp2_with (at_builtin; refine wpList_append_own _ rfl _ _ 23 rfl w2.heap.size 3 i0 (.int .i64 0) 1 8 Try.underlying23 hi hz0 hz1 hz2 rfl (by decide) _ _ _ rfl (World.ownsRow.alloc (w := wr.drewN nq) (unhide Hown) _) ⟨wr.heap.size, 0, none⟩ 1 1 [.int .i64 u] rfl rfl ?_ ?_ ?_ ?_ ?_ ?_)
                · refine cell_1 ?_
                  rw [World.cell?_alloc_at _ _ wr.heap.size _ (show wr.heap.size = (wr.drewN nq).heap.size from rfl)]
                  rfl
                · intro u' hu; simp at hu; subst hu; rfl
                · unfold maxLen; simp
                · simp
                · rw [sz_alloc]; show _ ≤ wr.heap.size + 1; omega
                intro v' w3 h5 hg5 _
                have hst := hide (ord_step (unhide Hown) hb h5 hg5)
                clear h5 hg5
                go_wp2
                go_roundw
                case rel => exact ⟨i, j + 1, _, by omega, by omega, rfl, by go_num, unhide Hn, by simp; omega, (unhide hst).1, (unhide hst).2⟩
                case measure => simp [intOf]; omega
              · have hp : 0 < os.length := List.length_pos_iff.2 hos
                have hp' : ((os.length : Int) == 0) = false := by simp; omega
                obtain ⟨g, oc', e, hcl⟩ := own_at (unhide Hown) hp
                cases e
                have hl0 : wr.cell? ⟨g, os.length - 1, none⟩ = some (.int .i64 (os[os.length - 1]?.getD 0)) := by
                  rw [hcl _ (by omega), List.getElem?_map, getD_of_lt (show os.length - 1 < os.length by omega)]
                  rfl
                clear hcl
                by_cases hne : os[os.length - 1]?.getD 0 = u
                · have Hn := hide (MInv.swap (MInv.skip (unhide Hm).swap gj (by rw [unhide HU, ← hne]; exact mem_get.2 ⟨os.length - 1, by omega, rfl⟩)))
                  rw [hne] at hl0
                  clear hne
                  have hidx : ((os.length : Int) - 1).toNat = os.length - 1 := by omega
                  go_wp2_with fail
                  go_quiet (fail)
                  go_wp2
                  go_roundw
                  case rel => exact ⟨i, j + 1, os, by omega, by omega, rfl, by go_num, unhide Hn, by omega, unhide Hown, below_drewN hb _⟩
                  case measure => simp [intOf]; omega
                · have Hn := hide (MInv.swap (MInv.next (unhide Hm).swap oy.asc ox.asc gj (MInv.last (unhide Hm).swap (fun z hz => (unhide Hm).swap.lx z hz j (Nat.le_refl _) gj) (by rw [unhide HU]; exact hne)) (unhide HLE)))
                  rw [unhide HU] at Hn
                  generalize os[os.length - 1]?.getD 0 = lv at *
                  have hne' : (lv != u) = true := by simp [hne]
                  have hidx : ((os.length : Int) - 1).toNat = os.length - 1 := by omega
                  go_wp2_with fail
                  go_quiet (fail)
                  go_wp2_with (at_builtin; refine wpList_append_own _ rfl _ _ 23 rfl w2.heap.size 3 i0 (.int .i64 0) 1 8 Try.underlying23 hi hz0 hz1 hz2 rfl (by decide) _ _ _ rfl (World.ownsRow.alloc (w := wr.drewN nq) (unhide Hown) _) ⟨wr.heap.size, 0, none⟩ 1 1 [.int .i64 u] rfl rfl ?_ ?_ ?_ ?_ ?_ ?_)
                  · refine cell_1 ?_
                    rw [World.cell?_alloc_at _ _ wr.heap.size _ (show wr.heap.size = (wr.drewN nq).heap.size from rfl)]
                    rfl
                  · intro u' hu; simp at hu; subst hu; rfl
                  · unfold maxLen; omega
                  · omega
                  · rw [sz_alloc]; show _ ≤ wr.heap.size + 1; omega
                  intro v' w3 h5 hg5 _
                  have hst := hide (ord_step (unhide Hown) hb h5 hg5)
                  clear h5 hg5
                  go_wp2
                  go_roundw
                  case rel => exact ⟨i, j + 1, _, by omega, by omega, rfl, by go_num, unhide Hn, by simp; omega, (unhide hst).1, (unhide hst).2⟩
                  case measure => simp [intOf]; omega
          · obtain rfl : i = x.length := by omega
            have hle : x.length < x.length → y[j]?.getD 0 ≤ x[x.length]?.getD 0 := fun h => absurd h gi
            generalize hU : y[j]?.getD 0 = u at *
            have Hm := hide hm
            have HU := hide hU
            have HLE := hide (show x.length < x.length → y[j]?.getD 0 ≤ x[x.length]?.getD 0 from fun h => absurd h gi)
            clear hm hU hle
            by_cases hos : os = []
            · subst hos
              have Hn := hide (MInv.swap (MInv.next (unhide Hm).swap oy.asc ox.asc gj (by simp) (unhide HLE)))
              rw [unhide HU] at Hn
              go_wp2_with fail
              go_quiet (fail)
              go_wp2_with (at_builtin; refine wpList_append_own _ rfl _ _ 23 rfl w2.heap.size 3 i0 (.int .i64 0) 1 8 Try.underlying23 hi hz0 hz1 hz2 rfl (by decide) _ _ _ rfl (World.ownsRow.alloc (w := wr.drewN nq) (unhide Hown) _) ⟨wr.heap.size, 0, none⟩ 1 1 [.int .i64 u] rfl rfl ?_ ?_ ?_ ?_ ?_ ?_)
              · refine cell_1 ?_
                rw [World.cell?_alloc_at _ _ wr.heap.size _ (show wr.heap.size = (wr.drewN nq).heap.size from rfl)]
                rfl
              · intro u' hu; simp at hu; subst hu; rfl
              · unfold maxLen; simp
              · simp
              · rw [sz_alloc]; show _ ≤ wr.heap.size + 1; omega
              intro v' w3 h5 hg5 _
              have hst := hide (ord_step (unhide Hown) hb h5 hg5)
              clear h5 hg5
              go_wp2
              go_roundw
              case rel => exact ⟨x.length, j + 1, _, by omega, by omega, rfl, by go_num, unhide Hn, by simp; omega, (unhide hst).1, (unhide hst).2⟩
              case measure => simp [intOf]; omega
            · have hp : 0 < os.length := List.length_pos_iff.2 hos
              have hp' : ((os.length : Int) == 0) = false := by simp; omega
              obtain ⟨g, oc', e, hcl⟩ := own_at (unhide Hown) hp
              cases e
              have hl0 : wr.cell? ⟨g, os.length - 1, none⟩ = some (.int .i64 (os[os.length - 1]?.getD 0)) := by
                rw [hcl _ (by omega), List.getElem?_map, getD_of_lt (show os.length - 1 < os.length by omega)]
                rfl
              clear hcl
              by_cases hne : os[os.length - 1]?.getD 0 = u
              · have Hn := hide (MInv.swap (MInv.skip (unhide Hm).swap gj (by rw [unhide HU, ← hne]; exact mem_get.2 ⟨os.length - 1, by omega, rfl⟩)))
                rw [hne] at hl0
                clear hne
                have hidx : ((os.length : Int) - 1).toNat = os.length - 1 := by omega
                go_wp2_with fail
                go_quiet (fail)
                go_wp2
                go_roundw
                case rel => exact ⟨x.length, j + 1, os, by omega, by omega, rfl, by go_num, unhide Hn, by omega, unhide Hown, below_drewN hb _⟩
                case measure => simp [intOf]; omega
              · have Hn := hide (MInv.swap (MInv.next (unhide Hm).swap oy.asc ox.asc gj (MInv.last (unhide Hm).swap (fun z hz => (unhide Hm).swap.lx z hz j (Nat.le_refl _) gj) (by rw [unhide HU]; exact hne)) (unhide HLE)))
                rw [unhide HU] at Hn
                generalize os[os.length - 1]?.getD 0 = lv at *
                have hne' : (lv != u) = true := by simp [hne]
                have hidx : ((os.length : Int) - 1).toNat = os.length - 1 := by omega
                go_wp2_with fail
                go_quiet (fail)
                go_wp2_with (at_builtin; refine wpList_append_own _ rfl _ _ 23 rfl w2.heap.size 3 i0 (.int .i64 0) 1 8 Try.underlying23 hi hz0 hz1 hz2 rfl (by decide) _ _ _ rfl (World.ownsRow.alloc (w := wr.drewN nq) (unhide Hown) _) ⟨wr.heap.size, 0, none⟩ 1 1 [.int .i64 u] rfl rfl ?_ ?_ ?_ ?_ ?_ ?_)
                · refine cell_1 ?_
                  rw [World.cell?_alloc_at _ _ wr.heap.size _ (show wr.heap.size = (wr.drewN nq).heap.size from rfl)]
                  rfl
                · intro u' hu; simp at hu; subst hu; rfl
                · unfold maxLen; omega
                · omega
                · rw [sz_alloc]; show _ ≤ wr.heap.size + 1; omega
                intro v' w3 h5 hg5 _
                have hst := hide (ord_step (unhide Hown) hb h5 hg5)
                clear h5 hg5
                go_wp2
                go_roundw
                case rel => exact ⟨x.length, j + 1, _, by omega, by omega, rfl, by go_num, unhide Hn, by simp; omega, (unhide hst).1, (unhide hst).2⟩
                case measure => simp [intOf]; omega
        · obtain rfl : j = y.length := by omega
          by_cases gi : i < x.length
          · have gi' : (i : Int) < (x.length : Int) := by omega
            obtain ⟨_, _, e1, -, hcx⟩ := unhide Bx wr hb
            cases e1
            obtain ⟨b1, o1, rfl, -, hbn1, hcellx⟩ := hcx (by omega)
            have hx : wr.cell? ⟨b1, o1 + i, none⟩ = some (.int .i64 (x[i]?.getD 0)) := hcellx i gi
            clear hcellx hcx
            have hle : y.length < y.length → x[i]?.getD 0 ≤ y[y.length]?.getD 0 := fun h => absurd h gj
            generalize hU : x[i]?.getD 0 = u at *
            have Hm := hide hm
            have HU := hide hU
            have HLE := hide (show y.length < y.length → x[i]?.getD 0 ≤ y[y.length]?.getD 0 from fun h => absurd h gj)
            clear hm hU hle
            by_cases hos : os = []
            · subst hos
              have Hn := hide (MInv.next (unhide Hm) ox.asc oy.asc gi (by simp) (unhide HLE))
              rw [unhide HU] at Hn
              go_wp2_with fail
              go_quiet (fail)
              go_wp2_with (at_builtin; refine wpList_append_own _ rfl _ _ 23 rfl w2.heap.size 3 i0 (.int .i64 0) 1 8 Try.underlying23 hi hz0 hz1 hz2 rfl (by decide) _ _ _ rfl (World.ownsRow.alloc (w := wr.drewN nq) (unhide Hown) _) ⟨wr.heap.size, 0, none⟩ 1 1 [.int .i64 u] rfl rfl ?_ ?_ ?_ ?_ ?_ ?_)
              · refine cell_1 ?_
                rw [World.cell?_alloc_at _ _ wr.heap.size _ (show wr.heap.size = (wr.drewN nq).heap.size from rfl)]
                rfl
              · intro u' hu; simp at hu; subst hu; rfl
              · unfold maxLen; simp
              · simp
              · rw [sz_alloc]; show _ ≤ wr.heap.size + 1; omega
              intro v' w3 h5 hg5 _
              have hst := hide (ord_step (unhide Hown) hb h5 hg5)
              clear h5 hg5
              go_wp2
              go_roundw
              case rel => exact ⟨i + 1, y.length, _, by omega, by omega, by go_num, rfl, unhide Hn, by simp; omega, (unhide hst).1, (unhide hst).2⟩
              case measure => simp [intOf]; omega
            · have hp : 0 < os.length := List.length_pos_iff.2 hos
              have hp' : ((os.length : Int) == 0) = false := by simp; omega
              obtain ⟨g, oc', e, hcl⟩ := own_at (unhide Hown) hp
              cases e
              have hl0 : wr.cell? ⟨g, os.length - 1, none⟩ = some (.int .i64 (os[os.length - 1]?.getD 0)) := by
                rw [hcl _ (by omega), List.getElem?_map, getD_of_lt (show os.length - 1 < os.length by omega)]
                rfl
              clear hcl
              by_cases hne : os[os.length - 1]?.getD 0 = u
              · have Hn := hide (MInv.skip (unhide Hm) gi (by rw [unhide HU, ← hne]; exact mem_get.2 ⟨os.length - 1, by omega, rfl⟩))
                rw [hne] at hl0
                clear hne
                have hidx : ((os.length : Int) - 1).toNat = os.length - 1 := by omega
                go_wp2_with fail
                go_quiet (fail)
                go_wp2
                go_roundw
                case rel => exact ⟨i + 1, y.length, os, by omega, by omega, by go_num, rfl, unhide Hn, by omega, unhide Hown, below_drewN hb _⟩
                case measure => simp [intOf]; omega
              · have Hn := hide (MInv.next (unhide Hm) ox.asc oy.asc gi (MInv.last (unhide Hm) (fun z hz => (unhide Hm).lx z hz i (Nat.le_refl _) gi) (by rw [unhide HU]; exact hne)) (unhide HLE))
                rw [unhide HU] at Hn
                generalize os[os.length - 1]?.getD 0 = lv at *
                have hne' : (lv != u) = true := by simp [hne]
                have hidx : ((os.length : Int) - 1).toNat = os.length - 1 := by omega
                go_wp2_with fail
                go_quiet (fail)
                go_wp2_with (at_builtin; refine wpList_append_own _ rfl _ _ 23 rfl w2.heap.size 3 i0 (.int .i64 0) 1 8 Try.underlying23 hi hz0 hz1 hz2 rfl (by decide) _ _ _ rfl (World.ownsRow.alloc (w := wr.drewN nq) (unhide Hown) _) ⟨wr.heap.size, 0, none⟩ 1 1 [.int .i64 u] rfl rfl ?_ ?_ ?_ ?_ ?_ ?_)
                · refine cell_1 ?_
                  rw [World.cell?_alloc_at _ _ wr.heap.size _ (show wr.heap.size = (wr.drewN nq).heap.size from rfl)]
                  rfl
                · intro u' hu; simp at hu; subst hu; rfl
                · unfold maxLen; omega
                · omega
                · rw [sz_alloc]; show _ ≤ wr.heap.size + 1; omega
                intro v' w3 h5 hg5 _
                have hst := hide (ord_step (unhide Hown) hb h5 hg5)
                clear h5 hg5
                go_wp2
                go_roundw
                case rel => exact ⟨i + 1, y.length, _, by omega, by omega, by go_num, rfl, unhide Hn, by simp; omega, (unhide hst).1, (unhide hst).2⟩
                case measure => simp [intOf]; omega
          · obtain rfl : i = x.length := by omega
            have Hm := hide hm
            clear hm
            go_wp2
            go_ret
            refine ⟨⟨_, os, rfl, (unhide Hm).done (fun z => ?_), by omega, own_low (unhide Hown) (by omega)⟩, ?_⟩
            · rw [ox.mem z, oy.mem z, ← List.mem_append, List.take_append_drop]
            · exact hb1.trans ((hb2.trans (hb.mono hb2.size)).mono hb1.size)

theorem l3order_any (N : Nat) (v : Value) (xs : List Int) (w : World) (hN : xs.length ≤ N) (hl : xs.length ≤ 1048576) (hv : SlAt mI 0 0 w.heap.size w v xs) (hc : CapOk v) :
    Calls Try.prog 36 #[v] w fun e w' => OrdRet e w w' xs ∧ Below w.heap.size w w' :=
  (l3order_own N v xs w hN hl hv hc).mono (fun _ _ ⟨⟨v1, ys, h1, h2, h3, h4⟩, hb⟩ => ⟨⟨v1, ys, h1, h2, h3, own_slw h4 (Nat.le_refl _) (by unfold maxLen; omega)⟩, hb⟩)

end Go.Proofs.Ytfjnhmgmcldidaa
