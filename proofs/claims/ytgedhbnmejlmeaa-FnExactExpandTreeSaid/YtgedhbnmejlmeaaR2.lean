import Derived.Test.YtgedhbnmejlmeaaR1
import Derived.Test.YtgedhbnmejlmeaaX0
namespace Go.Proofs.Ytgedhbnmejlmeaa
open Go.RowKit

/-- The state behind n bytes. -/
def stt (xs ys bs : List Int) (nc : Int) : Nat → Int
  | 0 => 0
  | n + 1 => ys[(stt xs ys bs nc n * nc + xs[(bs[n]?.getD 0).toNat]?.getD 0).toNat]?.getD 0
def trace (xs ys bs : List Int) (nc : Int) (n : Nat) : List Int := (List.range n).map (stt xs ys bs nc)
theorem trace_len (xs ys bs : List Int) (nc : Int) (n : Nat) : (trace xs ys bs nc n).length = n := by simp [trace]
theorem trace_get (xs ys bs : List Int) (nc : Int) (n i : Nat) (h : i < n) : (trace xs ys bs nc n)[i]?.getD 0 = stt xs ys bs nc i := by simp [trace, h]
theorem trace_succ (xs ys bs : List Int) (nc : Int) (n : Nat) : trace xs ys bs nc (n + 1) = trace xs ys bs nc n ++ [stt xs ys bs nc n] := by simp [trace, List.range_succ]

theorem idx_bd {s c nc S : Int} (s0 : 0 ≤ s) (s1 : s < S) (c0 : 0 ≤ c) (c1 : c < nc) (hn : nc ≤ 256) (hS : S ≤ 1024) : 0 ≤ s * nc ∧ s * nc ≤ 262144 ∧ s * nc + c < S * nc := by
  have h1 : 0 ≤ s * nc := Int.mul_nonneg s0 (by omega)
  have h2 : s * nc + nc ≤ S * nc := by
    have : (s + 1) * nc ≤ S * nc := Int.mul_le_mul_of_nonneg_right (by omega) (by omega)
    rw [Int.add_mul, Int.one_mul] at this
    exact this
  have h3 : s * nc ≤ 1024 * 256 := Int.mul_le_mul (by omega) (by omega) (by omega) (by omega)
  omega

theorem stt_bd {xs ys bs : List Int} {zs : List Bool} {nc : Int} (h : TabOk xs ys zs nc) (hb : ∀ i : Nat, 0 ≤ bs[i]?.getD 0 ∧ bs[i]?.getD 0 ≤ 255) : ∀ n : Nat, 0 ≤ stt xs ys bs nc n ∧ stt xs ys bs nc n < zs.length := by
  intro n
  induction n with
  | zero => have := h.st; simp [stt]; omega
  | succ n ih =>
    have hc := h.cls (b := (bs[n]?.getD 0).toNat) (by have := hb n; omega)
    have hi := idx_bd ih.1 ih.2 hc.1 hc.2 h.hn.2 (by have := h.st; omega)
    have hx := h.nx
    simp only [stt]
    exact h.to _ (by omega)

/-- What the run of a table answers. -/
def RunRet (e : Ending) (w w' : World) (xs ys bs : List Int) (zs : List Bool) (nc : Int) : Prop :=
  (¬ TabOk xs ys zs nc ∧ e = .returned (.tuple #[.bool false, .slice none 0 0])) ∨
  (TabOk xs ys zs nc ∧ ∃ v, e = .returned (.tuple #[.bool (zs[(stt xs ys bs nc bs.length).toNat]?.getD false), v]) ∧ SlW mI 0 w.heap.size w'.heap.size w' v (trace xs ys bs nc (bs.length + 1)))

/-- One state more. -/
theorem run_step {xs ys bs : List Int} {nc : Int} {n : Nat} {w1 wr w2 : World} {tv v' : Value} {o : Obj} {q : Nat} (hown : wr.ownsRow w1.heap.size 3 1 tv n ((trace xs ys bs nc n).map mI)) (hb : Below w1.heap.size w1 wr)
    (h1 : w2.ownsRow w1.heap.size 3 1 v' (n + 1) ((trace xs ys bs nc n).map mI ++ [.int .i64 (stt xs ys bs nc n)])) (hg : ((wr.drewN q).alloc o).grownBy w2 tv.ownBlock) :
    w2.ownsRow w1.heap.size 3 1 v' (n + 1) ((trace xs ys bs nc (n + 1)).map mI) ∧ Below w1.heap.size w1 w2 := by
  refine ⟨by rw [trace_succ, List.map_append]; exact h1, ((below_drewN hb q).alloc hb.size o).grown hg (by rw [sz_alloc]; exact Nat.le_succ_of_le hb.size) (fun k hk => (hown.lt k hk).1)⟩

set_option maxHeartbeats 2000000 in
set_option maxRecDepth 100000 in
theorem specRun_any (cl nx ac ln : Value) (xs ys bs : List Int) (zs : List Bool) (nc : Int) (w : World) (h1 : SlAt mI 0 0 w.heap.size w cl xs) (h2 : SlAt mI 0 0 w.heap.size w nx ys) (h3 : SlAt mT false 0 w.heap.size w ac zs) (h4 : SlAt mB 0 0 w.heap.size w ln bs)
    (hbb : ∀ i : Nat, 0 ≤ bs[i]?.getD 0 ∧ bs[i]?.getD 0 ≤ 255) (hl4 : bs.length ≤ 1048576) :
    Calls Try.prog 19 #[.agg #[cl, .int .i64 nc, nx, ac], ln] w fun e w' => RunRet e w w' xs ys bs zs nc ∧ Below w.heap.size w w' := by
  obtain ⟨a1, c1, rfl, l1, hc1⟩ := id h1
  obtain ⟨a2, c2, rfl, l2, hc2⟩ := id h2
  obtain ⟨a3, c3, rfl, l3, hc3⟩ := id h3
  obtain ⟨a4, c4, rfl, l4, hc4⟩ := h4
  obtain ⟨i0, hi, hz0, hz1, hz2⟩ := info_parts Try.zinInt
  have H1 := hide (h1.below (below1 w (.cells #[.slice a1 xs.length c1, .int .i64 nc, .slice a2 ys.length c2, .slice a3 zs.length c3] 47)) (Nat.le_refl _))
  have H2 := hide (h2.below (below1 w (.cells #[.slice a1 xs.length c1, .int .i64 nc, .slice a2 ys.length c2, .slice a3 zs.length c3] 47)) (Nat.le_refl _))
  have H3 := hide (h3.below (below1 w (.cells #[.slice a1 xs.length c1, .int .i64 nc, .slice a2 ys.length c2, .slice a3 zs.length c3] 47)) (Nat.le_refl _))
  have Hbb := hide hbb
  clear h1 h2 h3 hbb
  go_enter Try.func19, Try.ntmps19
  go_wp2_with fail
  refine (tableOK_any _ _ _ xs ys zs nc _ (unhide H1) (unhide H2) (unhide H3)).mono ?_
  rintro e w1 ⟨hret, hb1⟩
  have hzz := hb1.size
  rw [sz_alloc] at hzz
  have hB1 : Below w.heap.size w w1 := (below1 w _).trans (hb1.mono (by rw [sz_alloc]; omega))
  have RA := hide ((Row4.new w 47 (.slice a1 xs.length c1) (.int .i64 nc) (.slice a2 ys.length c2) (.slice a3 zs.length c3)).below hb1 (by rw [sz_alloc]; omega))
  clear hb1
  rcases hret.cases with ⟨rfl, hok⟩ | ⟨rfl, hbad⟩
  · have Hok := hide hok
    clear hok
    go_wp2
    go_loopw [6, 7] (fun tv i wr => ∃ n : Nat, n ≤ bs.length + 1 ∧ i = .int .i64 n ∧ wr.ownsRow w1.heap.size 3 1 tv n ((trace xs ys bs nc n).map mI) ∧ Below w1.heap.size w1 wr) (fun _ i _ => bs.length + 1 - (intOf i).toNat)
    case atStart => exact ⟨0, Nat.zero_le _, rfl, World.ownsRow_nil _ _ _ _, Below.refl _ _⟩
    case round =>
      obtain ⟨n, hn, rfl, hown, hb⟩ := hrel
      have hszr := hb.size
      have Hown := hide hown
      by_cases hlt : n < bs.length + 1
      · have hlt' : (n : Int) ≤ (bs.length : Int) := by omega
        cases n with
        | zero =>
          clear hown
          go_wp2_with (at_builtin; refine wpList_append_own _ rfl _ _ 39 rfl w1.heap.size 3 i0 (.int .i64 0) 1 8 Try.underlying39 hi hz0 hz1 hz2 rfl (by decide) _ _ _ rfl ((unhide Hown).alloc _) ⟨wr.heap.size, 0, none⟩ 1 1 [.int .i64 0] rfl rfl ?_ ?_ ?_ ?_ ?_ ?_)
          · exact cell_1 (by simp)
          · intro u hu; simp at hu; subst hu; rfl
          · unfold maxLen; omega
          · omega
          · rw [sz_alloc]; omega
          intro v' w2 h5 hg5 _
          have hst := hide (run_step (q := 0) (unhide Hown) hb (by simpa [trace, stt] using h5) hg5)
          clear h5 hg5
          go_wp2
          go_roundw
          case rel => exact ⟨1, by omega, rfl, (unhide hst).1, (unhide hst).2⟩
          case measure => simp [intOf]
        | succ m =>
          have hBw : Below w.heap.size w wr := hB1.trans (hb.mono hB1.size)
          obtain ⟨g, cap, rfl, hgc⟩ := own_at hown (by omega)
          have hx1 : wr.cell? ⟨g, m, none⟩ = some (.int .i64 (stt xs ys bs nc m)) := by rw [hgc m (by omega), List.getElem?_map]; simp [trace, mI]
          obtain ⟨lb, lo, rfl, -, hlb, hlc⟩ := hc4 (by omega)
          have hx2 : wr.cell? ⟨lb, lo + m, none⟩ = some (.int .u8 (bs[m]?.getD 0)) := by rw [hBw.cell (p := ⟨lb, lo + m, none⟩) hlb]; exact hlc m (by omega)
          have hb0 := unhide Hbb m
          have hs0 := stt_bd (unhide Hok) (unhide Hbb) m
          have hcc := (unhide Hok).cls (b := (bs[m]?.getD 0).toNat) (by omega)
          have hst1 := (unhide Hok).st
          have hn2 := (unhide Hok).hn
          have hid := idx_bd hs0.1 hs0.2 hcc.1 hcc.2 hn2.2 (by omega)
          have hnxl := (unhide Hok).nx
          have hcl := (unhide Hok).cl
          obtain ⟨cb, co, rfl, -, hcb, hccell⟩ := hc1 (by omega)
          have hx3 : wr.cell? ⟨cb, co + (bs[m]?.getD 0).toNat, none⟩ = some (.int .i64 (xs[(bs[m]?.getD 0).toNat]?.getD 0)) := by rw [hBw.cell (p := ⟨cb, co + (bs[m]?.getD 0).toNat, none⟩) hcb]; exact hccell _ (by omega)
          obtain ⟨nb, no, rfl, -, hnb, hncell⟩ := hc2 (by omega)
          have hx4 : wr.cell? ⟨nb, no + (stt xs ys bs nc m * nc + xs[(bs[m]?.getD 0).toNat]?.getD 0).toNat, none⟩ = some (.int .i64 (stt xs ys bs nc (m + 1))) := by rw [hBw.cell (p := ⟨nb, no + (stt xs ys bs nc m * nc + xs[(bs[m]?.getD 0).toNat]?.getD 0).toNat, none⟩) hnb]; exact hncell _ (by omega)
          obtain ⟨q0, q1, q2, q3, -⟩ := Row4.facts ((unhide RA).below hb (by omega))
          have Hst1 := hide (show stt xs ys bs nc (m + 1) = stt xs ys bs nc (m + 1) from rfl)
          have hclI : (256 : Int) = (xs.length : Int) := by omega
          have hnxI : stt xs ys bs nc m * nc + xs[(bs[m]?.getD 0).toNat]?.getD 0 < (ys.length : Int) := by omega
          have hblI : bs[m]?.getD 0 < (xs.length : Int) := by omega
          clear hown hgc hlc hccell hncell hnxl hcl hclI
          generalize hS' : stt xs ys bs nc (m + 1) = s' at *
          have HS' := hide hS'
          clear hS' Hst1
          generalize xs[(bs[m]?.getD 0).toNat]?.getD 0 = c at *
          generalize bs[m]?.getD 0 = bb at *
          generalize stt xs ys bs nc m = s at *
          have y1 : wrap64 (s * nc) = s * nc := w64 (by omega) (by omega)
          have y2 : wrap64 (s * nc + c) = s * nc + c := w64 (by omega) (by omega)
          have y3 : wrap64 bb = bb := w64 (by omega) (by omega)
          have y4 : 0 ≤ s * nc + c := by omega
          go_wp2
          go_quiet (fail)
          clear q0 q1 q2 q3 hx1 hx2 hx3 hx4 y1 y2 y3 y4
          go_wp2_with (at_builtin; refine wpList_append_own _ rfl _ _ 39 rfl w1.heap.size 3 i0 (.int .i64 0) 1 8 Try.underlying39 hi hz0 hz1 hz2 rfl (by decide) _ _ _ rfl (World.ownsRow.alloc (w := wr.drewN nq) (unhide Hown) _) ⟨wr.heap.size, 0, none⟩ 1 1 [.int .i64 s'] rfl rfl ?_ ?_ ?_ ?_ ?_ ?_)
          · refine cell_1 ?_
            rw [World.cell?_alloc_at _ _ wr.heap.size _ (show wr.heap.size = (wr.drewN nq).heap.size from rfl)]
            rfl
          · intro u hu; simp at hu; subst hu; rfl
          · unfold maxLen; omega
          · omega
          · rw [sz_alloc]; show _ ≤ wr.heap.size + 1; omega
          intro v' w2 h5 hg5 _
          have hst := hide (run_step (n := m + 1) (unhide Hown) hb (by rw [unhide HS']; exact h5) hg5)
          clear h5 hg5
          go_wp2
          go_roundw
          case rel => exact ⟨m + 1 + 1, by omega, by go_num, (unhide hst).1, (unhide hst).2⟩
          case measure => simp [intOf]; omega
      · obtain rfl : n = bs.length + 1 := by omega
        have hBw : Below w.heap.size w wr := hB1.trans (hb.mono hB1.size)
        obtain ⟨g, cap, rfl, hgc⟩ := own_at hown (by omega)
        have hx1 : wr.cell? ⟨g, bs.length, none⟩ = some (.int .i64 (stt xs ys bs nc bs.length)) := by rw [hgc bs.length (by omega), List.getElem?_map]; simp [trace, mI]
        have hs0 := stt_bd (unhide Hok) (unhide Hbb) bs.length
        have hst1 := (unhide Hok).st
        obtain ⟨zb, zo, rfl, -, hzb, hzcell⟩ := hc3 (by omega)
        have hx2 : wr.cell? ⟨zb, zo + (stt xs ys bs nc bs.length).toNat, none⟩ = some (.bool (zs[(stt xs ys bs nc bs.length).toNat]?.getD false)) := by rw [hBw.cell (p := ⟨zb, zo + (stt xs ys bs nc bs.length).toNat, none⟩) hzb]; exact hzcell _ (by omega)
        obtain ⟨q0, q1, q2, q3, -⟩ := Row4.facts ((unhide RA).below hb (by omega))
        have hfin := hide (own_slw (lo := w.heap.size) (unhide Hown) (by omega) (by unfold maxLen; omega))
        clear hown hgc hzcell
        generalize hS : stt xs ys bs nc bs.length = s at *
        have HS := hide hS
        clear hS
        generalize hZ : zs[s.toNat]?.getD false = z at *
        have HZ := hide hZ
        clear hZ
        go_wp2
        go_quiet (fail)
        go_wp2
        go_ret2
        exact ⟨Or.inr ⟨unhide Hok, _, by rw [unhide HS, unhide HZ]; rfl, unhide hfin⟩, below_drewN hBw _⟩
  · have Hbad := hide hbad
    clear hbad
    go_wp2
    go_ret2
    exact ⟨Or.inl ⟨unhide Hbad, rfl⟩, hB1⟩

end Go.Proofs.Ytgedhbnmejlmeaa
