import Derived.Test.YtjmajdfcfcgegaaMr1
import Derived.Test.YtjmajdfcfcgegaaMq5
namespace Go.Proofs.Ytjmajdfcfcgegaa
open Go.RowKit

/-- The numbers below n, a row. -/
def idL (n : Nat) : List Int := (List.range n).map Int.ofNat
theorem idL_len (n : Nat) : (idL n).length = n := by simp [idL]
theorem idL_next (n : Nat) : (idL (n + 1)).map mI = (idL n).map mI ++ [.int .i64 (n : Nat)] := by simp [idL, List.range_succ, mI]
theorem own_rowN {w : World} {v : Value} {n : Nat} (h : w.ownsRow 0 3 1 v n ((idL n).map mI)) (hp : 0 < n) : ∃ b c, v = .slice (some ⟨b, 0, none⟩) n c ∧ n ≤ c ∧ RowN w b n (fun i => i) := by
  obtain ⟨g, cap, m, F, rfl, hlt, hr, hm, hx, -⟩ := own_row h hp
  have hc := (own_cap h).le
  refine ⟨g, cap, rfl, hc.1, m, F, hr, by omega, fun j hj => ?_⟩
  have h1 := hx j (by omega)
  rw [List.getElem?_map, idL, List.getElem?_map, List.getElem?_range hj] at h1
  simp at h1
  exact h1.symm

theorem cell_new (w : World) (v : Value) (t : TypeId) : (w.alloc (.cells #[v] t)).cell? ⟨w.heap.size, 0, none⟩ = some v := by simp

/-- The partition in the making. -/
structure PtNew (w0 w : World) (n i : Nat) (mv pv : Value) : Prop where
  bl : Below w0.heap.size w0 w
  sz : w0.heap.size + 2 ≤ w.heap.size
  blk : w.heap[w0.heap.size]? = some (.cells #[.int .i64 0, .int .i64 0, .int .i64 (n : Nat)] 71 (0, 0))
  box : w.rowIs (w0.heap.size + 1) 68 6 (fun j => [mv, pv, .slice none 0 0, .slice (some ⟨w0.heap.size, 0, none⟩) 1 1, .slice none 0 0, .int .i64 0].getD j undef)
  rm : w.ownsRow (w0.heap.size + 2) 3 1 mv i ((idL i).map mI)
  rp : w.ownsRow (w0.heap.size + 2) 3 1 pv i ((idL i).map mI)
  ne : ∀ q, mv.ownBlock = some q → pv.ownBlock ≠ some q

theorem PtNew.pushM {w0 w w2 : World} {n i : Nat} {mv pv v' : Value} {o : Obj} (h : PtNew w0 w n i mv pv) (r1 : w2.ownsRow (w0.heap.size + 2) 3 1 v' (i + 1) ((idL i).map mI ++ [.int .i64 (i : Nat)])) (r2 : (w.alloc o).grownBy w2 mv.ownBlock) (r3 : v'.ownBlock = mv.ownBlock ∨ v'.ownBlock = some (w.heap.size + 1)) :
    w2.cell? ⟨w0.heap.size + 1, 0, none⟩ = some mv ∧ w2.frozen? ⟨w0.heap.size + 1, 0, none⟩ = false ∧
    Below w0.heap.size w0 (w2.setCell ⟨w0.heap.size + 1, 0, none⟩ v') ∧ w0.heap.size + 2 ≤ (w2.setCell ⟨w0.heap.size + 1, 0, none⟩ v').heap.size ∧ (w2.setCell ⟨w0.heap.size + 1, 0, none⟩ v').heap[w0.heap.size]? = some (.cells #[.int .i64 0, .int .i64 0, .int .i64 (n : Nat)] 71 (0, 0)) ∧
    (w2.setCell ⟨w0.heap.size + 1, 0, none⟩ v').rowIs (w0.heap.size + 1) 68 6 (fun j => [v', pv, .slice none 0 0, .slice (some ⟨w0.heap.size, 0, none⟩) 1 1, .slice none 0 0, .int .i64 0].getD j undef) ∧
    (w2.setCell ⟨w0.heap.size + 1, 0, none⟩ v').ownsRow (w0.heap.size + 2) 3 1 v' (i + 1) ((idL (i + 1)).map mI) ∧ (w2.setCell ⟨w0.heap.size + 1, 0, none⟩ v').ownsRow (w0.heap.size + 2) 3 1 pv i ((idL i).map mI) ∧ ∀ q, v'.ownBlock = some q → pv.ownBlock ≠ some q := by
  have hz := h.sz
  have hz2 := r2.size
  rw [sz_alloc] at hz2
  have k2 : ∀ k, k < w.heap.size → mv.ownBlock ≠ some k → w2.heap[k]? = w.heap[k]? := fun k hk hne => (r2.block k (by rw [sz_alloc]; omega) (fun e => hne e.symm)).trans ((below1 w o).block k hk)
  have lo : ∀ k, mv.ownBlock = some k → w0.heap.size + 2 ≤ k := fun k hk => (h.rm.lt k hk).1
  have b2 : w2.heap[w0.heap.size + 1]? = w.heap[w0.heap.size + 1]? := k2 _ (by omega) (fun e => by have := lo _ e; omega)
  have hF := h.box.of_block b2
  have ks : ∀ k, k ≠ w0.heap.size + 1 → (w2.setCell ⟨w0.heap.size + 1, 0, none⟩ v').heap[k]? = w2.heap[k]? := fun k hk => Below.heap_setCell _ _ _ _ (by show k ≠ w0.heap.size + 1; exact hk)
  have lv : ∀ q, v'.ownBlock = some q → w0.heap.size + 2 ≤ q := fun q hq => (r1.lt q hq).1
  refine ⟨by rw [hF.cell (by omega)]; rfl, hF.frozen 0, ⟨?_, ?_, ?_, ?_, fun k hk => ?_⟩, by rw [sz_put]; omega, ?_, ?_, ?_, ?_, fun q hq hp => ?_⟩
  · exact r2.os.trans h.bl.os
  · exact r2.tape.trans h.bl.tape
  · exact r2.output.trans h.bl.output
  · rw [sz_put]; omega
  · rw [ks k (by omega), k2 k (by omega) (fun e => by have := lo _ e; omega)]; exact h.bl.block k hk
  · rw [ks _ (by omega), k2 _ (by omega) (fun e => by have := lo _ e; omega)]; exact h.blk
  · refine (hF.set 0 v').congr (fun j hj => ?_)
    match j, hj with
    | 0, _ => rfl
    | 1, _ => rfl
    | 2, _ => rfl
    | 3, _ => rfl
    | 4, _ => rfl
    | 5, _ => rfl
  · rw [idL_next]; exact own_blk r1 (fun q hq => ks q (by have := lv q hq; omega))
  · refine own_blk h.rp (fun q hq => ?_)
    have := h.rp.lt q hq
    rw [ks q (by omega)]
    exact k2 q (by omega) (fun e => h.ne q e hq)
  · have := (h.rp.lt q hp).2
    rcases r3 with e | e
    · rw [e] at hq; exact h.ne q hq hp
    · rw [e] at hq; cases hq; omega
theorem PtNew.pushP {w0 w w2 : World} {n i : Nat} {mv pv v' : Value} {o : Obj} (hbl : Below w0.heap.size w0 w) (hz : w0.heap.size + 2 ≤ w.heap.size) (hblk : w.heap[w0.heap.size]? = some (.cells #[.int .i64 0, .int .i64 0, .int .i64 (n : Nat)] 71 (0, 0)))
    (hbox : w.rowIs (w0.heap.size + 1) 68 6 (fun j => [mv, pv, .slice none 0 0, .slice (some ⟨w0.heap.size, 0, none⟩) 1 1, .slice none 0 0, .int .i64 0].getD j undef))
    (hrm : w.ownsRow (w0.heap.size + 2) 3 1 mv (i + 1) ((idL (i + 1)).map mI)) (hrp : w.ownsRow (w0.heap.size + 2) 3 1 pv i ((idL i).map mI)) (hne : ∀ q, mv.ownBlock = some q → pv.ownBlock ≠ some q)
    (r1 : w2.ownsRow (w0.heap.size + 2) 3 1 v' (i + 1) ((idL i).map mI ++ [.int .i64 (i : Nat)])) (r2 : (w.alloc o).grownBy w2 pv.ownBlock) (r3 : v'.ownBlock = pv.ownBlock ∨ v'.ownBlock = some (w.heap.size + 1)) :
    w2.cell? ⟨w0.heap.size + 1, 1, none⟩ = some pv ∧ w2.frozen? ⟨w0.heap.size + 1, 1, none⟩ = false ∧ PtNew w0 (w2.setCell ⟨w0.heap.size + 1, 1, none⟩ v') n (i + 1) mv v' := by
  have hz2 := r2.size
  rw [sz_alloc] at hz2
  have k2 : ∀ k, k < w.heap.size → pv.ownBlock ≠ some k → w2.heap[k]? = w.heap[k]? := fun k hk hne => (r2.block k (by rw [sz_alloc]; omega) (fun e => hne e.symm)).trans ((below1 w o).block k hk)
  have lo : ∀ k, pv.ownBlock = some k → w0.heap.size + 2 ≤ k := fun k hk => (hrp.lt k hk).1
  have b2 : w2.heap[w0.heap.size + 1]? = w.heap[w0.heap.size + 1]? := k2 _ (by omega) (fun e => by have := lo _ e; omega)
  have hF := hbox.of_block b2
  have ks : ∀ k, k ≠ w0.heap.size + 1 → (w2.setCell ⟨w0.heap.size + 1, 1, none⟩ v').heap[k]? = w2.heap[k]? := fun k hk => Below.heap_setCell _ _ _ _ (by show k ≠ w0.heap.size + 1; exact hk)
  have lv : ∀ q, v'.ownBlock = some q → w0.heap.size + 2 ≤ q := fun q hq => (r1.lt q hq).1
  refine ⟨by rw [hF.cell (by omega)]; rfl, hF.frozen 1, ⟨⟨?_, ?_, ?_, ?_, fun k hk => ?_⟩, by rw [sz_put]; omega, ?_, ?_, ?_, ?_, fun q hq hp => ?_⟩⟩
  · exact r2.os.trans hbl.os
  · exact r2.tape.trans hbl.tape
  · exact r2.output.trans hbl.output
  · rw [sz_put]; omega
  · rw [ks k (by omega), k2 k (by omega) (fun e => by have := lo _ e; omega)]; exact hbl.block k hk
  · rw [ks _ (by omega), k2 _ (by omega) (fun e => by have := lo _ e; omega)]; exact hblk
  · refine (hF.set 1 v').congr (fun j hj => ?_)
    match j, hj with
    | 0, _ => rfl
    | 1, _ => rfl
    | 2, _ => rfl
    | 3, _ => rfl
    | 4, _ => rfl
    | 5, _ => rfl
  · refine own_blk hrm (fun q hq => ?_)
    have := hrm.lt q hq
    rw [ks q (by omega)]
    exact k2 q (by omega) (fun e => hne q hq e)
  · rw [idL_next]; exact own_blk r1 (fun q hq => ks q (by have := lv q hq; omega))
  · have := (hrm.lt q hq).2
    rcases r3 with e | e
    · rw [e] at hp; exact hne q hq hp
    · rw [e] at hp; cases hp; omega

set_option maxHeartbeats 4000000 in
set_option maxRecDepth 100000 in
/-- A partition of one block. -/
theorem newPartition_any (n : Nat) (w : World) (h1 : 1 ≤ n) (h2 : n ≤ 1024) :
    Calls Try.prog 40 #[.int .i64 (n : Nat)] w fun e w' => ∃ g, e = .returned (.pointer (some ⟨g, 0, none⟩)) ∧ Below w.heap.size w w' ∧
      ∃ mb mc pb pc bb bc kb kc, PtAt (fun k => w.heap.size ≤ k) g mb mc pb pc bb bc w' n 1 (fun i => i) (fun i => i) (fun _ => 0) (fun _ => 0) (fun _ => 0) (fun _ => n) kb kc (.slice none 0 0) [] 0 := by
  obtain ⟨i0, hi, hz0, hz1, hz2⟩ := info_parts Try.zinInt
  obtain ⟨W, hW⟩ : ∃ W, W = (w.alloc (.cells #[.int .i64 0, .int .i64 0, .int .i64 (n : Nat)] 71)).alloc (.cells #[.slice none 0 0, .slice none 0 0, .slice none 0 0, .slice (some ⟨w.heap.size, 0, none⟩) 1 1, .slice none 0 0, .int .i64 0] 68) := ⟨_, rfl⟩
  have hN : PtNew w W n 0 (.slice none 0 0) (.slice none 0 0) := by
    rw [hW]
    refine ⟨below2 w _ _, by rw [sz_alloc, sz_alloc]; omega, ?_, ?_, World.ownsRow_nil _ _ _ _, World.ownsRow_nil _ _ _ _, fun q hq => by cases hq⟩
    · rw [(below1 (w.alloc (.cells #[.int .i64 0, .int .i64 0, .int .i64 (n : Nat)] 71)) _).block _ (by rw [sz_alloc]; omega)]; simp only [World.alloc, Array.getElem?_push_size]
    · have := World.rowIs_alloc (w.alloc (.cells #[.int .i64 0, .int .i64 0, .int .i64 (n : Nat)] 71)) #[.slice none 0 0, .slice none 0 0, .slice none 0 0, .slice (some ⟨w.heap.size, 0, none⟩) 1 1, .slice none 0 0, .int .i64 0] 68 (fun j => [.slice none 0 0, .slice none 0 0, .slice none 0 0, .slice (some ⟨w.heap.size, 0, none⟩) 1 1, .slice none 0 0, .int .i64 0].getD j undef) (fun j hj => by
        match j, hj with
        | 0, _ => rfl
        | 1, _ => rfl
        | 2, _ => rfl
        | 3, _ => rfl
        | 4, _ => rfl
        | 5, _ => rfl)
      rw [sz_alloc] at this
      exact this
  have HN := hide hN
  have HW := hide hW
  clear hN hW
  go_enter Try.func40, Try.ntmps40
  go_wp2_with fail
  rw [← unhide HW]
  clear HW
  go_loopw [11] (fun iv wr => ∃ (i : Nat) (mv pv : Value), i ≤ n ∧ iv = .int .i64 i ∧ PtNew w wr n i mv pv) (fun iv _ => n - (intOf iv).toNat)
  case atStart => exact ⟨0, _, _, by omega, rfl, unhide HN⟩
  case round =>
    clear HN
    obtain ⟨i, mv, pv, hin, rfl, hP⟩ := hrel
    by_cases hlt : i < n
    · have hlt' : (i : Int) < (n : Int) := by omega
      have c0 : wr.cell? ⟨w.heap.size + 1, 0, none⟩ = some mv := by rw [hP.box.cell (by omega)]; rfl
      have HP := hide hP
      have HRM := hide hP.rm
      obtain ⟨ma, mc, rfl⟩ := own_is hP.rm
      obtain ⟨pa, pc, rfl⟩ := own_is hP.rp
      clear hP
      go_wp2_with (at_builtin; refine wpList_append_own_at _ rfl _ _ 22 rfl (w.heap.size + 2) 3 i0 (.int .i64 0) 1 8 Try.underlying22 hi hz0 hz1 hz2 rfl (by decide) _ _ _ rfl ((unhide HRM).alloc _) ⟨wr.heap.size, 0, none⟩ 1 1 [.int .i64 (i : Nat)] rfl rfl ?_ ?_ ?_ ?_ ?_ ?_)
      · exact cell_1 (by simp)
      · intro u hu; simp at hu; subst hu; rfl
      · unfold maxLen; omega
      · omega
      · have := (unhide HP).sz; rw [sz_alloc]; omega
      intro v' w2 r1 r2 _ r3
      have h7 := (unhide HP).pushM r1 r2 r3
      obtain ⟨oa, oc, rfl⟩ := own_is r1
      have x1 := h7.1
      have x2 := h7.2.1
      have H7 := hide h7.2.2
      have x3 := h7.2.2.2.2.2.1.cell (i := 1) (by omega)
      have HRP := hide h7.2.2.2.2.2.2.2.1
      have hz7 := h7.2.2.2.1
      simp only [List.getD_cons_succ, List.getD_cons_zero] at x3
      clear h7 r1 r2 r3 HRM HP c0
      go_wp2_with (at_builtin; refine wpList_append_own_at _ rfl _ _ 22 rfl (w.heap.size + 2) 3 i0 (.int .i64 0) 1 8 Try.underlying22 hi hz0 hz1 hz2 rfl (by decide) _ _ _ rfl ((unhide HRP).alloc _) ⟨(w2.setCell ⟨w.heap.size + 1, 0, none⟩ (.slice oa (i + 1) oc)).heap.size, 0, none⟩ 1 1 [.int .i64 (i : Nat)] (by simp only [sz_put]; rfl) rfl ?_ ?_ ?_ ?_ ?_ ?_)
      · exact cell_1 (cell_new _ _ _)
      · intro u hu; simp at hu; subst hu; rfl
      · unfold maxLen; omega
      · omega
      · rw [sz_alloc]; omega
      intro v2 w3 r1 r2 _ r3
      obtain ⟨y1, y2, y3, y4, y5, y6, y7⟩ := unhide H7
      have h8 := PtNew.pushP y1 y2 y3 y4 y5 y6 y7 r1 r2 (by rw [sz_put]; exact r3)
      obtain ⟨ob, od, rfl⟩ := own_is r1
      have x4 := h8.1
      have x5 := h8.2.1
      have H8 := hide h8.2.2
      clear h8 r1 r2 r3 HRP H7 y1 y2 y3 y4 y5 y6 y7 x1 x2 x3
      go_wp2
      go_roundw
      case rel => exact ⟨i + 1, _, _, by omega, rfl, unhide H8⟩
      case measure => simp [intOf]; omega
    · have hlt' : ¬ (i : Int) < (n : Int) := by omega
      obtain rfl : i = n := by omega
      obtain ⟨mb, mc, rfl, hmc, hrm⟩ := own_rowN (own_low hP.rm (Nat.zero_le _)) (by omega)
      obtain ⟨pb, pc, rfl, hpc, hrp⟩ := own_rowN (own_low hP.rp (Nat.zero_le _)) (by omega)
      have x1 := (hP.box.alloc (.cells (madeCells #[.int .i64 0] i) 3)).cell (i := 2) (by omega)
      have x2 := (hP.box.alloc (.cells (madeCells #[.int .i64 0] i) 3)).frozen 2
      simp only [List.getD_cons_succ, List.getD_cons_zero] at x1
      have HP := hide hP
      have HRM := hide hrm
      have HRP := hide hrp
      clear hP hrm hrp
      have hmk := run_make_row' (P := Try.prog) 22 3 (.int .i64 0) 8 Try.underlying22 Try.zinInt rfl .i64 .i64 i (by omega) (by omega)
      go_wp2
      go_ret
      have hb := (unhide HP).box.alloc (.cells (madeCells #[.int .i64 0] i) 3)
      have hz := (unhide HP).sz
      have hB := (unhide HP).bl
      have lm := (unhide HP).rm.lt mb rfl
      have lp := (unhide HP).rp.lt pb rfl
      have nmp := (unhide HP).ne mb rfl
      have hblk := (unhide HP).blk
      obtain ⟨WA, hWA⟩ : ∃ WA, WA = wr.alloc (.cells (madeCells #[.int .i64 0] i) 3) := ⟨_, rfl⟩
      have hrb : RowN WA wr.heap.size i (fun _ => 0) := by
        rw [hWA]
        exact ⟨_, _, World.rowIs_made wr _ i _, Nat.le_refl _, fun j hj => rfl⟩
      have hal : ∀ k, k < wr.heap.size → WA.heap[k]? = wr.heap[k]? := fun k hk => by rw [hWA]; exact (below1 wr _).block k hk
      have hzA : WA.heap.size = wr.heap.size + 1 := by rw [hWA, sz_alloc]
      have hos : WA.os = wr.os ∧ WA.tape = wr.tape ∧ WA.output = wr.output := by rw [hWA]; exact ⟨rfl, rfl, rfl⟩
      rw [← hWA] at hb ⊢
      have ks : ∀ k, k ≠ w.heap.size + 1 → (WA.setCell ⟨w.heap.size + 1, 2, none⟩ (.slice (some ⟨wr.heap.size, 0, none⟩) i i)).heap[k]? = WA.heap[k]? := fun k hk => Below.heap_setCell _ _ _ _ (by show k ≠ w.heap.size + 1; exact hk)
      refine ⟨w.heap.size + 1, rfl, ⟨hos.1.trans hB.os, hos.2.1.trans hB.tape, hos.2.2.trans hB.output, by rw [sz_put]; omega, fun k hk => ?_⟩, mb, mc, pb, pc, wr.heap.size, i, w.heap.size, 1, ⟨⟨_, hb.set 2 _, rfl, rfl, rfl, rfl, rfl, rfl⟩, hmc, (unhide HRM).on ?_, (unhide HRP).on ?_, hrb.on ?_, ?_, World.ownsRow_nil _ _ _ _, ⟨by omega, by omega, by omega, by omega⟩, ⟨fun e => nmp (by rw [e]; rfl), by omega, by omega, by omega, by omega, by omega⟩, ⟨by omega, by omega, by omega, by omega, by omega⟩, fun q hq => by cases hq⟩⟩
      · rw [ks k (by omega), hal k (by omega)]; exact hB.block k hk
      · rw [ks _ (by omega), hal _ (by omega)]
      · rw [ks _ (by omega), hal _ (by omega)]
      · rw [ks _ (by omega)]
      · refine ⟨rfl, Or.inr ⟨_, _, #[.int .i64 0, .int .i64 0, .int .i64 (i : Nat)], rfl, Nat.zero_le _, ?_, Nat.le_refl _, by unfold maxLen; omega, rfl, ?_⟩⟩
        · rw [ks _ (by omega), hal _ (by omega)]; exact hblk
        · simp [bL, bF, List.range_succ]

end Go.Proofs.Ytjmajdfcfcgegaa
