import Derived.Test.YtjmajdfcfcgegaaMu2
namespace Go.Proofs.Ytjmajdfcfcgegaa
open Go.RowKit

theorem own_cells {base e n : Nat} {w : World} {v : Value} {xs : List Value} (h : w.ownsRow base e 1 v n xs) (hp : 0 < n) : ∃ g cap, v = .slice (some ⟨g, 0, none⟩) n cap ∧ base ≤ g ∧ g < w.heap.size ∧ n ≤ cap ∧ ∀ j, j < n → w.cell? ⟨g, j, none⟩ = xs[j]? := by
  obtain ⟨g, cap, m, F, rfl, hlt, hr, hm, hx, -⟩ := own_row h hp
  refine ⟨g, cap, rfl, (h.lt g rfl).1, hlt, (own_cap h).le.1, fun j hj => ?_⟩
  rw [hr.cell (by omega), hx j (by omega)]
/-- A table's ways in a row of their own. -/
theorem nx_own {base : Nat} {w : World} {v : Value} {A : Tb} {ys : List Nat} (h : w.ownsRow base 3 1 v (A.n * A.k) (ys.map mN)) (hp : 0 < A.n * A.k) (hw : A.Wf) (hx : ∀ q c, q < A.n → c < A.k → ys[q * A.k + c]? = some (A.nx q c)) :
    ∃ g cap, v = .slice (some ⟨g, 0, none⟩) (A.n * A.k) cap ∧ base ≤ g ∧ g < w.heap.size ∧ A.n * A.k ≤ cap ∧ NxAt w g 0 A.n A.k A.nx := by
  obtain ⟨g, cap, e, hb, hg, hc, hcell⟩ := own_cells h hp
  refine ⟨g, cap, e, hb, hg, hc, fun q c hq hc2 => ⟨hw.nxt q c hq hc2, ?_⟩⟩
  rw [Nat.zero_add, hcell _ (idx_lt hq hc2), List.getElem?_map, hx q c hq hc2]
  rfl
theorem ac_own {base n : Nat} {w : World} {v : Value} {ac : Nat → Bool} {zs : List Bool} (h : w.ownsRow base 4 1 v n (zs.map mT)) (hp : 0 < n) (hz : ∀ q, q < n → zs[q]? = some (ac q)) :
    ∃ g cap, v = .slice (some ⟨g, 0, none⟩) n cap ∧ base ≤ g ∧ g < w.heap.size ∧ ∀ q, q < n → w.cell? ⟨g, 0 + q, none⟩ = some (.bool (ac q)) := by
  obtain ⟨g, cap, e, hb, hg, hc, hcell⟩ := own_cells h hp
  refine ⟨g, cap, e, hb, hg, fun q hq => ?_⟩
  rw [Nat.zero_add, hcell q hq, List.getElem?_map, hz q hq]
  rfl

set_option maxHeartbeats 4000000 in
set_option maxRecDepth 100000 in
/-- The smallest table. -/
theorem smallest_any (A : Tb) (xb xo xc b off cN ab ao ca : Nat) (w : World) (hw : A.Wf) (hup : ∀ b, b < 256 → ∀ c, c < A.cl b → ∃ b', b' < b ∧ A.cl b' = c) (hf : A.Full) (hn : A.n ≤ 1024) (hk : 1 ≤ A.k ∧ A.k ≤ 256) (hcN : A.n * A.k ≤ cN) (hb : b < w.heap.size) (hx : NxAt w b off A.n A.k A.nx)
    (hxb : xb < w.heap.size) (hcl : ∀ q, q < 256 → w.cell? ⟨xb, xo + q, none⟩ = some (.int .i64 (A.cl q : Nat))) (hab : ab < w.heap.size) (hac : ∀ q, q < A.n → w.cell? ⟨ab, ao + q, none⟩ = some (.bool (A.ac q))) :
    Calls Try.prog 18 #[.agg #[.slice (some ⟨xb, xo, none⟩) 256 xc, .int .i64 (A.k : Nat), .slice (some ⟨b, off, none⟩) (A.n * A.k) cN, .slice (some ⟨ab, ao, none⟩) A.n ca]] w fun e w' => ∃ (xv nv av : Value) (k : Nat), e = .returned (.agg #[xv, .int .i64 (k : Nat), nv, av]) ∧ Below w.heap.size w w' ∧
      ∃ (o ys : List Nat) (m : Nat) (num F mg G : Nat → Nat), ProgT A o ys m num F k mg G ∧ m ≤ 1024 ∧ k ≤ 256 ∧ w'.ownsRow w.heap.size 3 1 xv 256 ((clL (ProgT.out A o ys m num F k mg G)).map mI) ∧ w'.ownsRow w.heap.size 3 1 nv (m * k) ((nxL (ProgT.out A o ys m num F k mg G)).map mI) ∧ w'.ownsRow w.heap.size 4 1 av m ((acL (ProgT.out A o ys m num F k mg G)).map mT) ∧
        (∀ r, xv.ownBlock = some r → nv.ownBlock ≠ some r ∧ av.ownBlock ≠ some r) ∧ ∀ r, nv.ownBlock = some r → av.ownBlock ≠ some r := by
  obtain ⟨W2, hW2⟩ : ∃ W2, W2 = (w.alloc (.cells #[.slice (some ⟨xb, xo, none⟩) 256 xc, .int .i64 (A.k : Nat), .slice (some ⟨b, off, none⟩) (A.n * A.k) cN, .slice (some ⟨ab, ao, none⟩) A.n ca] 27)).alloc (.cells #[.slice none 0 0, .int .i64 0, .slice none 0 0, .slice none 0 0] 27) := ⟨_, rfl⟩
  have hB2 : Below w.heap.size w W2 := by rw [hW2]; exact below2 w _ _
  have hsz2 : W2.heap.size = w.heap.size + 2 := by rw [hW2, sz_alloc, sz_alloc]
  have hD2 : Row4 W2 w.heap.size 27 (.slice (some ⟨xb, xo, none⟩) 256 xc) (.int .i64 (A.k : Nat)) (.slice (some ⟨b, off, none⟩) (A.n * A.k) cN) (.slice (some ⟨ab, ao, none⟩) A.n ca) := by rw [hW2]; exact (Row4.new w _ _ _ _ _).alloc _
  have hE2 : Row4 W2 (w.heap.size + 1) 27 (.slice none 0 0) (.int .i64 0) (.slice none 0 0) (.slice none 0 0) := by
    have := Row4.new (w.alloc (.cells #[.slice (some ⟨xb, xo, none⟩) 256 xc, .int .i64 (A.k : Nat), .slice (some ⟨b, off, none⟩) (A.n * A.k) cN, .slice (some ⟨ab, ao, none⟩) A.n ca] 27)) 27 (.slice none 0 0) (.int .i64 0) (.slice none 0 0) (.slice none 0 0)
    rw [sz_alloc] at this
    rw [hW2]
    exact this
  have HRE := hide (reached_any A (.slice (some ⟨xb, xo, none⟩) 256 xc) b off cN ab ao ca W2 hw hn hk hcN (by omega) (fun q c hq hc => ⟨(hx q c hq hc).1, by rw [hB2.cell (p := ⟨b, off + (q * A.k + c), none⟩) hb]; exact (hx q c hq hc).2⟩) (by omega) (fun q hq => by rw [hB2.cell (p := ⟨ab, ao + q, none⟩) hab]; exact hac q hq) ⟨_, _, _, rfl⟩)
  obtain ⟨L, hL⟩ : ∃ L, L = A.n * A.k := ⟨_, rfl⟩
  rw [← hL] at hcN hD2 hW2 ⊢
  rw [← hL] at HRE
  obtain ⟨f0, f1, f2, f3, -⟩ := hD2.facts
  have HCL := hide hcl
  have HUP := hide hup
  have HW2 := hide hW2
  have HB2 := hide hB2
  have HE2 := hide hE2
  clear hL hx hac hW2 hB2 hD2 hE2 hcl hup
  go_enter Try.func18, Try.ntmps18
  go_wp2_with fail
  rw [← unhide HW2]
  refine (unhide HRE).mono ?_
  rintro e w3 ⟨nv3, av3, rfl, hB3, o, ys, hBf, hyl, hol, hon3, hoa3, -⟩
  have hpre := bfs_pre (ac := A.ac) hBf hyl hw.cls (unhide HUP) hf
  obtain ⟨A1, hA1⟩ : ∃ A1, A1 = bfsT A.k A.cl A.ac o ys := ⟨_, rfl⟩
  rw [← hA1] at hpre
  have e1n : A1.n = o.length := by rw [hA1]; rfl
  have e1k : A1.k = A.k := by rw [hA1]; rfl
  have hop := hBf.pos
  obtain ⟨g3, c3, rfl, hg3b, hg3, hc3, hNx3⟩ := nx_own (A := A1) (ys := ys) (by rw [e1n, e1k, ← hyl]; exact hon3) (by rw [e1n, e1k]; exact Nat.mul_pos hop (by omega)) hpre.wf (fun q c hq hc => by
    rw [e1n] at hq
    rw [e1k] at hc ⊢
    rw [hA1]
    show ys[q * A.k + c]? = some (ys[q * A.k + c]?.getD 0)
    rw [List.getElem?_eq_getElem (by rw [hyl]; exact idx_lt hq hc)]
    rfl)
  obtain ⟨a3, ca3, rfl, ha3b, ha3, hAc3⟩ := ac_own (ac := A1.ac) hoa3 hop (fun q hq => by
    rw [hA1]
    show (o.map A.ac)[q]? = some ((o[q]?.map A.ac).getD false)
    rw [List.getElem?_map, List.getElem?_eq_getElem hq]
    rfl)
  have HMS := hide (mergeStates_any A1 (.slice (some ⟨xb, xo, none⟩) 256 xc) g3 0 c3 a3 0 ca3 w3 hpre.wf hpre.clAll (by omega) (by omega) hc3 hg3 hNx3 ha3 (by rw [e1n]; exact hAc3) ⟨_, _, _, rfl⟩)
  rw [e1k, e1n] at HMS
  rw [e1k, e1n]
  have HB3 := hide hB3
  have HBF := hide hBf
  have HYL := hide hyl
  have HPRE := hide hpre
  have HA1 := hide hA1
  have HEN := hide e1n
  have HEK := hide e1k
  have hz3 := hB3.size
  clear HRE HW2 hB3 hBf hyl hpre hA1 e1n e1k f0 f1 f2 f3 hon3 hoa3 hNx3 hAc3
  go_wp2_with fail
  refine (unhide HMS).mono ?_
  rintro e w4 ⟨nv4, av4, rfl, hB4, m, num, F, hN1, hTel, hmn, hon4, hoa4, -⟩
  have hz4 := hB4.size
  have eA1 := unhide HA1
  subst eA1
  have hpre := unhide HPRE
  have hpre2 := mrgS_pre hpre hN1 hTel
  have hm0 : 0 < m := (hN1.zero hpre.wf.pos).2.2
  obtain ⟨g4, c4, rfl, hg4b, hg4, hc4, hNx4⟩ := nx_own (A := mrgS (bfsT A.k A.cl A.ac o ys) m num F) (ys := msY (bfsT A.k A.cl A.ac o ys) num F (m * A.k)) hon4 (Nat.mul_pos hm0 (by show 0 < A.k; omega)) hpre2.wf (fun q c hq hc => by
    have hlt : q * A.k + c < m * A.k := idx_lt hq hc
    show (msY (bfsT A.k A.cl A.ac o ys) num F (m * A.k))[q * A.k + c]? = _
    unfold msY
    rw [List.getElem?_map, List.getElem?_range hlt]
    show some (num ((bfsT A.k A.cl A.ac o ys).nx (F ((q * A.k + c) / A.k)) ((q * A.k + c) % A.k))) = _
    have hc' : c < A.k := hc
    rw [(row_at hc').1, (row_at hc').2]
    rfl)
  obtain ⟨a4, ca4, rfl, ha4b, ha4, -⟩ := ac_own (ac := (mrgS (bfsT A.k A.cl A.ac o ys) m num F).ac) hoa4 hm0 (fun q hq => by
    unfold msZ
    rw [List.getElem?_map, List.getElem?_range hq]
    rfl)
  have hBw4 : Below w.heap.size w w4 := (unhide HB2).trans (((unhide HB3).mono (by omega)).trans (hB4.mono (by omega)))
  have HMC := hide (mergeClasses_any (mrgS (bfsT A.k A.cl A.ac o ys) m num F) xb xo xc g4 0 c4 a4 0 ca4 w4 hpre2.wf (by show m ≤ 1024; omega) hk hc4 hg4 hNx4 (by omega) (fun q hq => by rw [hBw4.cell (p := ⟨xb, xo + q, none⟩) hxb]; exact unhide HCL q hq))
  have HB4 := hide hB4
  have HBW := hide hBw4
  have HN1 := hide hN1
  have HTL := hide hTel
  have HOA := hide hoa4
  clear HMS hB4 hBw4 hN1 hTel hon4 hoa4 hNx4 hpre hpre2
  go_wp2_with fail
  refine (unhide HMC).mono ?_
  rintro e w5 ⟨xv, nv5, k2, rfl, hB5, mg, G, hMg, hk2, hox5, hon5, hna5⟩
  have hz5 := hB5.size
  have hE5 : Row4 w5 (w.heap.size + 1) 27 (.slice none 0 0) (.int .i64 0) (.slice none 0 0) (.slice none 0 0) := World.rowIs.of_block (unhide HE2) ((hB5.block _ (by omega)).trans (((unhide HB4).block _ (by omega)).trans ((unhide HB3).block _ (by omega))))
  obtain ⟨x0, x1, x2, x3, z0, z1, z2, z3⟩ := hE5.facts
  obtain ⟨oa, oc, e1⟩ := own_is hox5
  obtain ⟨na, nc, e2⟩ := own_is hon5
  subst e1
  subst e2
  obtain ⟨yl, hyl2⟩ : ∃ yl, yl = (mrgS (bfsT A.k A.cl A.ac o ys) m num F).n * k2 := ⟨_, rfl⟩
  rw [← hyl2] at hon5 hna5 ⊢
  have hR4 := (((hE5.put0 (u := .slice oa 256 oc)).put1 (u := .int .i64 (k2 : Nat))).put2 (u := .slice na yl nc)).put3' (u := .slice (some ⟨a4, 0, none⟩) m ca4)
  have hob : Obk (w.heap.size + 1) w5 ((((w5.setCell ⟨w.heap.size + 1, 0, none⟩ (.slice oa 256 oc)).setCell ⟨w.heap.size + 1, 1, none⟩ (.int .i64 (k2 : Nat))).setCell ⟨w.heap.size + 1, 2, none⟩ (.slice na yl nc)).setCell ⟨w.heap.size + 1, 3, none⟩ (.slice (some ⟨a4, 0, none⟩) m ca4)) := (((obk_put _ _).trans (obk_put _ _)).trans (obk_put _ _)).trans (obk_put _ _)
  have HR4 := hide hR4
  have HOB := hide hob
  have HON := hide hon5
  have HOX := hide hox5
  have HNA := hide hna5
  have HMG := hide hMg
  have HB5 := hide hB5
  have HY2 := hide hyl2
  clear HMC hB5 hMg hox5 hon5 hna5 hE5 hR4 hob hyl2
  go_wp2
  refine bodyPost_ret (dfa_ret (unhide HR4) rfl _ rfl) rfl ?_
  have hob := unhide HOB
  have hb5 := (unhide HBW).trans ((unhide HB5).mono (by omega))
  have hoa5 := own_blk (unhide HOA) (fun r hr => (unhide HB5).block r (own_lt (unhide HOA) r hr))
  refine ⟨_, _, _, k2, rfl, ⟨hob.os.trans hb5.os, hob.tape.trans hb5.tape, hob.output.trans hb5.output, Nat.le_trans hb5.size (Nat.le_of_eq hob.size.symm), fun k hk => (hob.block k (by omega)).trans (hb5.block k hk)⟩, o, ys, m, num, F, mg, G, ⟨hw, unhide HUP, hf, unhide HBF, unhide HYL, unhide HN1, unhide HTL, (unhide HMG).num, (unhide HMG).sm⟩, ?_, ?_, ?_, ?_, ?_, fun r hr => ⟨unhide HNA r hr, fun e => ?_⟩, fun r hr e => ?_⟩
  · have : m ≤ o.length := hmn
    omega
  · have : k2 ≤ A.k := hk2
    omega
  · have e9 : (clL (ProgT.out A o ys m num F k2 mg G)).map mI = (mcX (mrgS (bfsT A.k A.cl A.ac o ys) m num F) mg 256).map mN := by
      unfold clL mcX
      rw [List.map_map, List.map_map]
      rfl
    rw [e9]
    exact own_low (own_blk (unhide HOX) (fun r hr => hob.block r (by have := ((unhide HOX).lt r hr).1; omega))) (by omega)
  · have e9 : (nxL (ProgT.out A o ys m num F k2 mg G)).map mI = (mcY (mrgS (bfsT A.k A.cl A.ac o ys) m num F) G k2 (m * k2)).map mN := by
      unfold nxL mcY
      rw [List.map_map, List.map_map]
      rfl
    rw [e9]
    have e10 : yl = m * k2 := unhide HY2
    rw [← e10]
    have h9 := own_low (own_blk (unhide HON) (fun r hr => hob.block r (by have := ((unhide HON).lt r hr).1; omega))) (b' := w.heap.size) (by omega)
    exact h9
  · have e9 : (acL (ProgT.out A o ys m num F k2 mg G)).map mT = (msZ (bfsT A.k A.cl A.ac o ys) F m).map mT := rfl
    rw [e9]
    exact own_low (own_blk hoa5 (fun r hr => hob.block r (by have := (hoa5.lt r hr).1; omega))) (by omega)
  · have h1 := ((unhide HOX).lt r hr).1
    have h2 := Option.some.inj e
    have h3 : a4 = r := h2
    omega
  · have h1 := ((unhide HON).lt r hr).1
    have h3 : a4 = r := Option.some.inj e
    omega

end Go.Proofs.Ytjmajdfcfcgegaa
