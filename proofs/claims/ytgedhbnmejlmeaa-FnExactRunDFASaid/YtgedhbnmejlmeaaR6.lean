import Derived.Test.YtgedhbnmejlmeaaR5
namespace Go.Proofs.Ytgedhbnmejlmeaa
open Go.RowKit

set_option maxHeartbeats 2000000 in
set_option maxRecDepth 100000 in
theorem validTable_any (cl nx ac : Value) (xs ys : List Int) (zs : List Bool) (nc : Int) (w : World) (h1 : SlAt mI 0 0 w.heap.size w cl xs) (h2 : SlAt mI 0 0 w.heap.size w nx ys) (h3 : SlAt mT false 0 w.heap.size w ac zs) :
    Calls Try.prog 42 #[.agg #[cl, .int .i64 nc, nx, ac]] w fun e w' => RetB e (TabOk xs ys zs nc) ∧ Below w.heap.size w w' := by
  obtain ⟨a1, c1, rfl, l1, hc1⟩ := id h1
  obtain ⟨a2, c2, rfl, l2, hc2⟩ := id h2
  obtain ⟨a3, c3, rfl, l3, -⟩ := h3
  unfold maxLen at l1 l2 l3
  have H1 := hide (h1.below (below1 w (.cells #[.slice a1 xs.length c1, .int .i64 nc, .slice a2 ys.length c2, .slice a3 zs.length c3] 47)) (Nat.le_refl _))
  clear h1
  by_cases n1 : zs.length < 1
  · have n1' : (zs.length : Int) < 1 := by omega
    go_enter Try.func42, Try.ntmps42
    go_wp2_with fail
    go_ret
    exact ⟨RetB.no (fun h => by have := h.st; omega), below1 w _⟩
  · have n1' : ¬ (zs.length : Int) < 1 := by omega
    by_cases n2 : 1024 < zs.length
    · have n2' : 1024 < (zs.length : Int) := by omega
      go_enter Try.func42, Try.ntmps42
      go_wp2_with fail
      go_ret
      exact ⟨RetB.no (fun h => by have := h.st; omega), below1 w _⟩
    · have n2' : ¬ 1024 < (zs.length : Int) := by omega
      go_enter Try.func42, Try.ntmps42
      go_wp2_with fail
      refine (classes_any _ xs nc _ (unhide H1)).mono ?_
      rintro e w1 ⟨hret, rfl⟩
      rcases hret.cases with ⟨rfl, hok⟩ | ⟨rfl, hbad⟩
      · have hn := hok.hn
        have Hok := hide hok
        clear hok hret
        have p1 : 0 ≤ (zs.length : Int) * nc := Int.mul_nonneg (by omega) (by omega)
        have p2 : (zs.length : Int) * nc ≤ 1024 * 256 := Int.mul_le_mul (by omega) (by omega) (by omega) (by omega)
        have p3 : wrap64 ((zs.length : Int) * nc) = (zs.length : Int) * nc := w64 p1 (by omega)
        by_cases g2 : (ys.length : Int) = (zs.length : Int) * nc
        · have g2' : ((ys.length : Int) != (zs.length : Int) * nc) = false := by simp [g2]
          have G2 := hide g2
          clear g2
          go_wp2
          go_loop [34] (fun i => ∃ k : Nat, k ≤ ys.length ∧ i = .int .i64 k ∧ ∀ j : Nat, j < k → 0 ≤ ys[j]?.getD 0 ∧ ys[j]?.getD 0 < zs.length) (fun i => ys.length - (intOf i).toNat)
          case atStart => exact ⟨0, Nat.zero_le _, rfl, fun j hj => absurd hj (Nat.not_lt_zero _)⟩
          case round =>
            obtain ⟨k, hk, rfl, hin⟩ := hrel
            have Hin := hide hin
            clear hin
            by_cases hlt : k < ys.length
            · obtain ⟨q, off, rfl, -, hqn, hcell⟩ := hc2 (by omega)
              have hx : w.cell? ⟨q, off + k, none⟩ = some (.int .i64 (ys[k]?.getD 0)) := hcell k (by omega)
              have hlt' : (k : Int) < (ys.length : Int) := by omega
              clear hcell hc2 hc1
              generalize hX : ys[k]?.getD 0 = x at *
              have HX := hide hX
              clear hX
              by_cases f1 : x < 0
              · go_wp2
                go_ret
                exact ⟨RetB.no (fun h => by have := h.to k hlt; rw [unhide HX] at this; omega), below1 w _⟩
              · by_cases f2 : (zs.length : Int) ≤ x
                · go_wp2
                  go_ret
                  exact ⟨RetB.no (fun h => by have := h.to k hlt; rw [unhide HX] at this; omega), below1 w _⟩
                · go_wp2
                  go_round
                  case rel => exact ⟨k + 1, by omega, by go_num, fun j hj => by
                    by_cases e : j = k
                    · subst e; rw [unhide HX]; omega
                    · exact unhide Hin j (by omega)⟩
                  case measure => simp [intOf]; omega
            · obtain rfl : k = ys.length := by omega
              go_wp2
              go_ret
              exact ⟨RetB.yes (tab_of.2 ⟨⟨by omega, by omega⟩, unhide Hok, unhide G2, unhide Hin⟩), below1 w _⟩
        · have g2' : ((ys.length : Int) != (zs.length : Int) * nc) = true := by simp [g2]
          go_wp2
          go_ret
          exact ⟨RetB.no (fun h => g2 h.nx), below1 w _⟩
      · have Hbad := hide hbad
        clear hbad hret
        go_wp2
        go_ret
        exact ⟨RetB.no (fun h => unhide Hbad (tab_of.1 h).2.1), below1 w _⟩

set_option maxHeartbeats 2000000 in
set_option maxRecDepth 100000 in
theorem after_any (cb co nb no n1 c1 n2 c2 n3 c3 : Nat) (a3 : Option Addr) (nc s bb c s' : Int) (w : World) (hcb : cb < w.heap.size) (hnb : nb < w.heap.size) (hx3 : w.cell? ⟨cb, co + bb.toNat, none⟩ = some (.int .i64 c)) (hx4 : w.cell? ⟨nb, no + (s * nc + c).toNat, none⟩ = some (.int .i64 s'))
    (hb0 : 0 ≤ bb) (hb1 : bb < (n1 : Int)) (hi0 : 0 ≤ s * nc + c) (hi1 : s * nc + c < (n2 : Int)) (y1 : wrap64 (s * nc) = s * nc) (y2 : wrap64 (s * nc + c) = s * nc + c) :
    Calls Try.prog 43 #[.agg #[.slice (some ⟨cb, co, none⟩) n1 c1, .int .i64 nc, .slice (some ⟨nb, no, none⟩) n2 c2, .slice a3 n3 c3], .int .i64 s, .int .u8 bb] w fun e w' => e = .returned (.int .i64 s') ∧ Below w.heap.size w w' := by
  have hA := below1 w (.cells #[.slice (some ⟨cb, co, none⟩) n1 c1, .int .i64 nc, .slice (some ⟨nb, no, none⟩) n2 c2, .slice a3 n3 c3] 47)
  have X3 := (hA.cell (p := ⟨cb, co + bb.toNat, none⟩) hcb).trans hx3
  have X4 := (hA.cell (p := ⟨nb, no + (s * nc + c).toNat, none⟩) hnb).trans hx4
  obtain ⟨q0, q1, q2, q3, -⟩ := (Row4.new w 47 (.slice (some ⟨cb, co, none⟩) n1 c1) (.int .i64 nc) (.slice (some ⟨nb, no, none⟩) n2 c2) (.slice a3 n3 c3)).facts
  clear hx3 hx4
  go_enter Try.func43, Try.ntmps43
  go_wp2_with fail
  generalize w.alloc (.cells #[.slice (some ⟨cb, co, none⟩) n1 c1, .int .i64 nc, .slice (some ⟨nb, no, none⟩) n2 c2, .slice a3 n3 c3] 47) = V at *
  go_quiet (fail)
  go_wp2
  go_ret
  exact ⟨rfl, below_drewN hA _⟩

set_option maxHeartbeats 2000000 in
set_option maxRecDepth 100000 in
theorem implRun_any (cl nx ac ln : Value) (xs ys bs : List Int) (zs : List Bool) (nc : Int) (w : World) (h1 : SlAt mI 0 0 w.heap.size w cl xs) (h2 : SlAt mI 0 0 w.heap.size w nx ys) (h3 : SlAt mT false 0 w.heap.size w ac zs) (h4 : SlAt mB 0 0 w.heap.size w ln bs)
    (hbb : ∀ i : Nat, 0 ≤ bs[i]?.getD 0 ∧ bs[i]?.getD 0 ≤ 255) (hl4 : bs.length ≤ 1048576) :
    Calls Try.prog 22 #[.agg #[cl, .int .i64 nc, nx, ac], ln] w fun e w' => RunRet e w w' xs ys bs zs nc ∧ Below w.heap.size w w' := by
  obtain ⟨a1, c1, rfl, l1, hc1⟩ := id h1
  obtain ⟨a2, c2, rfl, l2, hc2⟩ := id h2
  obtain ⟨a3, c3, rfl, l3, hc3⟩ := id h3
  obtain ⟨a4, c4, rfl, l4, hc4⟩ := h4
  obtain ⟨i0, hi, hz0, hz1, hz2⟩ := info_parts Try.zinInt
  have H1 := hide (h1.below (below1 w (.cells #[.slice a1 xs.length c1, .int .i64 nc, .slice a2 ys.length c2, .slice a3 zs.length c3] 47)) (Nat.le_refl _))
  have H2 := hide (h2.below (below1 w (.cells #[.slice a1 xs.length c1, .int .i64 nc, .slice a2 ys.length c2, .slice a3 zs.length c3] 47)) (Nat.le_refl _))
  have H3 := hide (h3.below (below1 w (.cells #[.slice a1 xs.length c1, .int .i64 nc, .slice a2 ys.length c2, .slice a3 zs.length c3] 47)) (Nat.le_refl _))
  have Hbb := hide hbb
  clear h1 h2 h3 hbb
  go_enter Try.func22, Try.ntmps22
  go_wp2_with fail
  refine (validTable_any _ _ _ xs ys zs nc _ (unhide H1) (unhide H2) (unhide H3)).mono ?_
  rintro e w1 ⟨hret, hb1⟩
  have hzz := hb1.size
  rw [sz_alloc] at hzz
  have hB1 : Below w.heap.size w w1 := (below1 w _).trans (hb1.mono (by rw [sz_alloc]; omega))
  have RA := hide ((Row4.new w 47 (.slice a1 xs.length c1) (.int .i64 nc) (.slice a2 ys.length c2) (.slice a3 zs.length c3)).below hb1 (by rw [sz_alloc]; omega))
  clear hb1
  rcases hret.cases with ⟨rfl, hok⟩ | ⟨rfl, hbad⟩
  · have Hok := hide hok
    clear hok
    have y1 : wrap64 ((bs.length : Int) + 1) = (bs.length : Int) + 1 := by unfold wrap64; omega
    go_wp2_with (refine wpList_make_own _ rfl _ _ 39 rfl w1.heap.size 3 i0 (.int .i64 0) 1 Try.underlying39 hi hz0 hz1 .i64 .i64 ((bs.length : Int) + 1) (bs.length + 1) rfl rfl (by omega) ?_ ?_ ?_ ?_)
    · rw [hz2]; omega
    · unfold maxLen; omega
    · omega
    intro w2 hown2 hg2
    have hb2 : Below w1.heap.size w1 w2 := (Below.refl _ _).grown hg2 (Nat.le_refl _) (fun k hk => by cases hk)
    have hz2' := hb2.size
    have Hown2 := hide hown2
    clear hown2 hg2
    go_wp2_with (at_builtin; refine wpList_append_own _ rfl _ _ 39 rfl w1.heap.size 3 i0 (.int .i64 0) 1 8 Try.underlying39 hi hz0 hz1 hz2 rfl (by decide) _ _ _ rfl ((unhide Hown2).alloc _) ⟨w2.heap.size, 0, none⟩ 1 1 [.int .i64 0] rfl rfl ?_ ?_ ?_ ?_ ?_ ?_)
    · exact cell_1 (by simp)
    · intro u hu; simp at hu; subst hu; rfl
    · unfold maxLen; omega
    · omega
    · rw [sz_alloc]; omega
    intro v' w3 h5 hg5 _
    have hst := hide (run_step (xs := xs) (ys := ys) (bs := bs) (nc := nc) (n := 0) (q := 0) (unhide Hown2) hb2 (by simpa [trace, stt] using h5) hg5)
    have hz3 := (unhide hst).2.size
    clear h5 hg5 y1
    go_wp2
    go_loopw [6, 7, 23] (fun st tv i wr => ∃ n : Nat, n ≤ bs.length ∧ i = .int .i64 n ∧ st = .int .i64 (stt xs ys bs nc n) ∧ wr.ownsRow w1.heap.size 3 1 tv (n + 1) ((trace xs ys bs nc (n + 1)).map mI) ∧ Below w1.heap.size w1 wr) (fun _ _ i _ => bs.length - (intOf i).toNat)
    case atStart => exact ⟨0, Nat.zero_le _, rfl, rfl, (unhide hst).1, (unhide hst).2⟩
    case round =>
      clear hst hz3 Hown2
      obtain ⟨m, hn, rfl, rfl, hown, hb⟩ := hrel
      have hszr := hb.size
      have Hown := hide hown
      have hBw : Below w.heap.size w wr := hB1.trans (hb.mono hB1.size)
      have hs0 := stt_bd (unhide Hok) (unhide Hbb) m
      have hst1 := (unhide Hok).st
      obtain ⟨q0, q1, q2, q3, -⟩ := Row4.facts ((unhide RA).below hb (by omega))
      clear hown
      by_cases hlt : m < bs.length
      · have hlt' : (m : Int) < (bs.length : Int) := by omega
        obtain ⟨lb, lo, rfl, -, hlb, hlc⟩ := hc4 (by omega)
        have hx2 : wr.cell? ⟨lb, lo + m, none⟩ = some (.int .u8 (bs[m]?.getD 0)) := by rw [hBw.cell (p := ⟨lb, lo + m, none⟩) hlb]; exact hlc m (by omega)
        have hb0 := unhide Hbb m
        have hcc := (unhide Hok).cls (b := (bs[m]?.getD 0).toNat) (by omega)
        have hn2 := (unhide Hok).hn
        have hid := idx_bd hs0.1 hs0.2 hcc.1 hcc.2 hn2.2 (by omega)
        have hnxl := (unhide Hok).nx
        have hcl := (unhide Hok).cl
        obtain ⟨cb, co, rfl, -, hcb, hccell⟩ := hc1 (by omega)
        have hx3 : wr.cell? ⟨cb, co + (bs[m]?.getD 0).toNat, none⟩ = some (.int .i64 (xs[(bs[m]?.getD 0).toNat]?.getD 0)) := by rw [hBw.cell (p := ⟨cb, co + (bs[m]?.getD 0).toNat, none⟩) hcb]; exact hccell _ (by omega)
        obtain ⟨nb, no, rfl, -, hnb, hncell⟩ := hc2 (by omega)
        have hx4 : wr.cell? ⟨nb, no + (stt xs ys bs nc m * nc + xs[(bs[m]?.getD 0).toNat]?.getD 0).toNat, none⟩ = some (.int .i64 (stt xs ys bs nc (m + 1))) := by rw [hBw.cell (p := ⟨nb, no + (stt xs ys bs nc m * nc + xs[(bs[m]?.getD 0).toNat]?.getD 0).toNat, none⟩) hnb]; exact hncell _ (by omega)
        have hnxI : stt xs ys bs nc m * nc + xs[(bs[m]?.getD 0).toNat]?.getD 0 < (ys.length : Int) := by omega
        have hblI : bs[m]?.getD 0 < (xs.length : Int) := by omega
        clear hlc hccell hncell hnxl hcl hc1 hc2 hc3 hc4
        generalize hS' : stt xs ys bs nc (m + 1) = s' at *
        have HS' := hide hS'
        clear hS'
        generalize xs[(bs[m]?.getD 0).toNat]?.getD 0 = c at *
        generalize bs[m]?.getD 0 = bb at *
        generalize stt xs ys bs nc m = s at *
        have y1 : wrap64 (s * nc) = s * nc := w64 (by omega) (by omega)
        have y2 : wrap64 (s * nc + c) = s * nc + c := w64 (by omega) (by omega)
        have y3 : wrap64 bb = bb := w64 (by omega) (by omega)
        have y4 : 0 ≤ s * nc + c := by omega
        have Y := hide (And.intro y1 (And.intro y2 (And.intro y3 y4)))
        have X3 := hide hx3
        have X4 := hide hx4
        clear y1 y2 y3 hx3 hx4
        go_wp2_with fail
        refine (after_any cb co nb no _ _ _ _ _ _ _ nc s bb c s' wr (by omega) (by omega) (unhide X3) (unhide X4) hb0.1 hblI (unhide Y).2.2.2 hnxI (unhide Y).1 (unhide Y).2.1).mono ?_
        rintro e w5 ⟨rfl, hb5⟩
        have Hown5 := hide (own_keep (unhide Hown) hb5 (Nat.le_refl _))
        have hbw5 : Below w1.heap.size w1 w5 := hb.trans (hb5.mono hszr)
        have hz5 := hb5.size
        clear q0 q1 q2 q3 hx2 hb5
        go_wp2_with (at_builtin; refine wpList_append_own _ rfl _ _ 39 rfl w1.heap.size 3 i0 (.int .i64 0) 1 8 Try.underlying39 hi hz0 hz1 hz2 rfl (by decide) _ _ _ rfl (World.ownsRow.alloc (w := w5) (unhide Hown5) _) ⟨w5.heap.size, 0, none⟩ 1 1 [.int .i64 s'] rfl rfl ?_ ?_ ?_ ?_ ?_ ?_)
        · exact cell_1 (by simp)
        · intro u hu; simp at hu; subst hu; rfl
        · unfold maxLen; omega
        · omega
        · rw [sz_alloc]; omega
        intro v' w2 h5 hg5 _
        have hst := hide (run_step (n := m + 1) (q := 0) (unhide Hown5) hbw5 (by rw [unhide HS']; exact h5) hg5)
        clear h5 hg5
        go_wp2
        go_roundw
        case rel => exact ⟨m + 1, by omega, by go_num, by rw [unhide HS'], (unhide hst).1, (unhide hst).2⟩
        case measure => simp [intOf]; omega
      · obtain rfl : m = bs.length := by omega
        obtain ⟨zb, zo, rfl, -, hzb, hzcell⟩ := hc3 (by omega)
        have hx2 : wr.cell? ⟨zb, zo + (stt xs ys bs nc bs.length).toNat, none⟩ = some (.bool (zs[(stt xs ys bs nc bs.length).toNat]?.getD false)) := by rw [hBw.cell (p := ⟨zb, zo + (stt xs ys bs nc bs.length).toNat, none⟩) hzb]; exact hzcell _ (by omega)
        have hfin := hide (own_slw (lo := w.heap.size) (unhide Hown) (by omega) (by unfold maxLen; omega))
        clear hzcell hc1 hc2 hc3 hc4
        generalize hS : stt xs ys bs nc bs.length = s at *
        have HS := hide hS
        clear hS
        generalize hZ : zs[s.toNat]?.getD false = z at *
        have HZ := hide hZ
        clear hZ
        go_wp2
        go_ret2
        exact ⟨Or.inr ⟨unhide Hok, _, by rw [unhide HS, unhide HZ]; rfl, unhide hfin⟩, hBw⟩
  · have Hbad := hide hbad
    clear hbad
    go_wp2
    go_ret2
    exact ⟨Or.inl ⟨unhide Hbad, rfl⟩, hB1⟩

theorem implRuns : RunsTable 22 := by
  intro cl nx ac ln xs ys bs zs nc w h1 h2 h3 h4 hbb hl _ _ _ _ _ _
  refine (implRun_any cl nx ac ln xs ys bs zs nc w h1 h2 h3 h4 hbb hl).mono ?_
  rintro e w' ⟨h | h, hb⟩
  · obtain ⟨h5, rfl⟩ := h
    exact ⟨false, [], _, Or.inr ⟨h5, rfl, rfl⟩, rfl, ⟨none, 0, rfl, by simp, by simp⟩, hb⟩
  · obtain ⟨h5, v, rfl, h6⟩ := h
    exact ⟨_, _, v, Or.inl ⟨h5, rfl, rfl⟩, rfl, h6, hb⟩

end Go.Proofs.Ytgedhbnmejlmeaa
