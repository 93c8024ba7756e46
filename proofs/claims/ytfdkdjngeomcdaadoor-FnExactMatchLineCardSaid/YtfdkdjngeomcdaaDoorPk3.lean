import Derived.Test.YtfdkdjngeomcdaaDoorPk1
import Derived.Test.YtfdkdjngeomcdaaDoorPa5
import Derived.Laws.Tables
import Derived.Test.YtfdkdjngeomcdaaDoorPk2
namespace Go.Proofs.YtfdkdjngeomcdaaDoor
open Go.RowKit

abbrev c8 (g : Nat → Nat) : Array Value := #[.int .u64 (g 0 : Nat), .int .u64 (g 1 : Nat), .int .u64 (g 2 : Nat), .int .u64 (g 3 : Nat), .int .u64 (g 4 : Nat), .int .u64 (g 5 : Nat), .int .u64 (g 6 : Nat), .int .u64 (g 7 : Nat)]
theorem row8_blk {w : World} {B : Nat} {t : TypeId} {g : Nat → Nat} (h : w.rowIs B t 8 (wd g)) : w.heap[B]? = some (.cells (c8 g) t (0, 0)) := by
  obtain ⟨c, hc, hs, hf⟩ := h
  rw [hc]
  congr 2
  refine Array.ext (by simp [hs]) (fun i h1 h2 => ?_)
  have h3 := hf i (by omega)
  rw [Array.getElem?_eq_getElem h1] at h3
  have h4 := Option.some.inj h3
  rw [h4]
  have h5 : i < 8 := by omega
  match i, h5 with
  | 0, _ => rfl
  | 1, _ => rfl
  | 2, _ => rfl
  | 3, _ => rfl
  | 4, _ => rfl
  | 5, _ => rfl
  | 6, _ => rfl
  | 7, _ => rfl
theorem all8 (g : Nat → Nat) : (c8 g).all (·.oneCell') = true := by simp [Value.oneCell']
theorem row8_new (w : World) (t : TypeId) (g : Nat → Nat) : (w.alloc (.cells (c8 g) t)).rowIs w.heap.size t 8 (wd g) := eight_row w t g
theorem ps_ret {w : World} {B : Nat} {g : Nat → Nat} (h : w.heap[B]? = some (.cells (c8 g) 78 (0, 0))) {fn : Func} {p : Tmp} (hr : fn.results = #[.cell p 78]) (tmps : Array Value) (hp : tmps.getD p undef = .pointer (some ⟨B, 0, none⟩)) : (results fn tmps).run Tryd.prog w = .ok (ps8 g) w :=
  results_cell_row hr tmps w B _ _ _ _ hp h Tryd.underlying78 rfl (by kernel_rfl)

set_option maxHeartbeats 1000000 in
theorem put_off (b o n i : Nat) (t : TypeId) (F : Nat → Value) (g : Nat → Nat) (w : World) (hg : Fit g) (hi : i < 512) (hrow : w.rowIs b t n F) (hF : ∀ j, j < 8 → F (o + j) = wd g j) (ho : o + 8 ≤ n) :
    Calls Tryd.prog 29 #[.pointer (some ⟨b, o, none⟩), .int .i64 i] w fun e w' => e = .returned (.tuple #[]) ∧ w'.rowIs b t n (fun k => if o ≤ k ∧ k < o + 8 then wd (putW g i) (k - o) else F k) ∧ Obk b w w' := by
  have hq : i / 64 < 8 := by omega
  have c0 := hrow.cell (i := o + i / 64) (by omega)
  rw [hF _ hq] at c0
  have f0 := hrow.frozen (o + i / 64)
  unfold wd at c0
  have hq' : ((i / 64 : Nat) : Int) < 8 := by omega
  have hq2 : (i : Int) / 64 < 8 := by omega
  have hq3 : 0 ≤ (i : Int) / 64 := by omega
  have hor := or_bit (g (i / 64)) (i % 64) (hg _) (by omega)
  have Hor := hide hor
  have HR := hide hrow
  have HF := hide hF
  clear hrow hor hg hF
  go_enter Tryd.func29, Tryd.ntmps29
  go_region
  go_wp2
  rw [unhide Hor]
  first | (refine bodyPost_ret (results_none rfl _ _ _) rfl ?_) | (refine bodyPost_end (results_none rfl _ _ _) rfl ?_)
  refine ⟨rfl, (((unhide HR).set (o + i / 64) _).congr (fun k _ => ?_)).drew, (obk_put _ _).drew⟩
  by_cases e : k = o + i / 64
  · subst e
    rw [if_pos rfl, if_pos (by omega), show o + i / 64 - o = i / 64 by omega]
    unfold wd putW
    rw [if_pos rfl]
  · rw [if_neg e]
    by_cases e2 : o ≤ k ∧ k < o + 8
    · rw [if_pos e2]
      have h1 := unhide HF (k - o) (by omega)
      rw [show o + (k - o) = k by omega] at h1
      rw [h1]
      unfold wd putW
      rw [if_neg (by omega)]
    · rw [if_neg e2]

theorem Obk.bel2 {g m : Nat} {a b : World} (h : Obk g a b) (hm : m ≤ g) : Below m a b := ⟨h.os, h.tape, h.output, by rw [h.size]; exact Nat.le_refl _, fun k hk => h.block k (by omega)⟩
def andW (g h : Nat → Nat) : Nat → Nat := fun j => g j &&& h j
theorem fit_and {g h : Nat → Nat} (a : Fit g) : Fit (andW g h) := fun j => Nat.lt_of_le_of_lt Nat.and_le_left (a j)
theorem bt_and (g h : Nat → Nat) (b : Nat) : Bt (andW g h) b = (Bt g b && Bt h b) := by unfold Bt andW; rw [Nat.testBit_and]

set_option maxHeartbeats 4000000 in
set_option maxRecDepth 100000 in
theorem meet_any (g h : Nat → Nat) (w : World) (hg : Fit g) (hh : Fit h) :
    Calls Tryd.prog 55 #[ps8 g, ps8 h] w fun e w' => e = .returned (ps8 (andW g h)) ∧ Below w.heap.size w w' := by
  obtain ⟨W, hW⟩ : ∃ W, W = ((w.alloc (.cells (c8 g) 78)).alloc (.cells (c8 h) 78)).alloc (.cells #[.int .u64 0, .int .u64 0, .int .u64 0, .int .u64 0, .int .u64 0, .int .u64 0, .int .u64 0, .int .u64 0] 78) := ⟨_, rfl⟩
  have hr0 : W.rowIs w.heap.size 78 8 (wd g) := by rw [hW]; exact ((row8_new w _ g).alloc _).alloc _
  have hr1 : W.rowIs (w.heap.size + 1) 78 8 (wd h) := by
    have := row8_new (w.alloc (.cells (c8 g) 78)) 78 h
    rw [sz_alloc] at this
    rw [hW]; exact this.alloc _
  have hr2 : W.rowIs (w.heap.size + 2) 78 8 (wd (fun _ => 0)) := by
    have := row8_new ((w.alloc (.cells (c8 g) 78)).alloc (.cells (c8 h) 78)) 78 (fun _ => 0)
    rw [sz_alloc, sz_alloc] at this
    rw [hW]; exact this
  have hB : Below w.heap.size w W := by rw [hW]; exact (below2 w _ _).alloc (by rw [sz_alloc, sz_alloc]; omega) _
  have HG := hide hg
  have HH := hide hh
  have H0 := hide hr0
  have H1 := hide hr1
  have H2 := hide hr2
  have HB := hide hB
  have HW := hide hW
  clear hg hh hr0 hr1 hr2 hB hW
  unfold ps8
  go_enter Tryd.func55, Tryd.ntmps55
  go_wp2_with fail
  rw [← unhide HW]
  clear HW
  go_loopw [6] (fun iv wr => ∃ i : Nat, i ≤ 8 ∧ iv = .int .i64 i ∧ wr.rowIs w.heap.size 78 8 (fun k => if k < i then wd (andW g h) k else wd g k) ∧ wr.rowIs (w.heap.size + 1) 78 8 (wd h) ∧ wr.rowIs (w.heap.size + 2) 78 8 (wd (fun _ => 0)) ∧ Below w.heap.size w wr) (fun iv _ => 8 - (intOf iv).toNat)
  case atStart => exact ⟨0, by omega, rfl, (unhide H0).congr (fun k _ => by rw [if_neg (by omega)]), unhide H1, unhide H2, unhide HB⟩
  case round =>
    clear H0 H1 H2 HB
    obtain ⟨i, hi, rfl, hr, hr1, hr2, hb⟩ := hrel
    by_cases hlt : i < 8
    · have hlt' : (i : Int) < 8 := by omega
      have c0 : wr.cell? ⟨w.heap.size, i, none⟩ = some (.int .u64 (g i : Nat)) := by rw [hr.cell hlt, if_neg (by omega)]; rfl
      have f0 := hr.frozen i
      have c1 : wr.cell? ⟨w.heap.size + 1, i, none⟩ = some (.int .u64 (h i : Nat)) := hr1.cell hlt
      have hor := bits_and_u64_nat (g i) (h i) (unhide HG i) (unhide HH i)
      have HR : Hid ((wr.setCell ⟨w.heap.size, i, none⟩ (.int .u64 ((g i &&& h i : Nat) : Int))).rowIs w.heap.size 78 8 (fun k => if k < i + 1 then wd (andW g h) k else wd g k)) := (hr.set i _).congr (fun k _ => by
        by_cases e : k = i
        · subst e; rw [if_pos rfl, if_pos (by omega)]; rfl
        · rw [if_neg e]
          by_cases e2 : k < i
          · rw [if_pos e2, if_pos (by omega)]
          · rw [if_neg e2, if_neg (by omega)])
      have HR1 : Hid ((wr.setCell ⟨w.heap.size, i, none⟩ (.int .u64 ((g i &&& h i : Nat) : Int))).rowIs (w.heap.size + 1) 78 8 (wd h)) := hr1.setOther (by show w.heap.size + 1 ≠ w.heap.size; omega) _
      have HR2 : Hid ((wr.setCell ⟨w.heap.size, i, none⟩ (.int .u64 ((g i &&& h i : Nat) : Int))).rowIs (w.heap.size + 2) 78 8 (wd (fun _ => 0))) := hr2.setOther (by show w.heap.size + 2 ≠ w.heap.size; omega) _
      have HB := hide (bput hb (Nat.le_refl _) (b := w.heap.size) (o := i) (.int .u64 ((g i &&& h i : Nat) : Int)))
      have Hor := hide hor
      clear hr hr1 hr2 hb hor
      go_wp2_with fail
      go_region
      all_goals
        go_wp2
        rw [unhide Hor]
        go_roundw
        case rel => exact ⟨i + 1, by omega, by go_num, (unhide HR).drew, (unhide HR1).drew, (unhide HR2).drew, (unhide HB).drew⟩
        case measure => simp [intOf]; omega
    · obtain rfl : i = 8 := by omega
      have hA : wr.rowIs w.heap.size 78 8 (wd (andW g h)) := hr.congr (fun k hk => by rw [if_pos hk])
      have HA := hide (row8_blk hA)
      have HZ : Hid (wr.heap[w.heap.size + 1 + 1]? = _) := row8_blk hr2
      have HB := hide hb
      clear hr hr1 hr2 hb hA
      go_wp2_with (first
        | (refine wpList_load_row rfl 78 (.tmp 2) rfl w.heap.size (by first | (simp [Act.eval]; done) | (simp [Act.eval, Act.put]; done)) 78 _ _ _ (unhide HA) Tryd.underlying78 rfl (by kernel_rfl) ?_)
        | (refine wpList_store_row rfl 78 (.tmp 4) (.tmp 18) rfl (w.heap.size + 1 + 1) #[.int .u64 ((andW g h) 0 : Nat), .int .u64 ((andW g h) 1 : Nat), .int .u64 ((andW g h) 2 : Nat), .int .u64 ((andW g h) 3 : Nat), .int .u64 ((andW g h) 4 : Nat), .int .u64 ((andW g h) 5 : Nat), .int .u64 ((andW g h) 6 : Nat), .int .u64 ((andW g h) 7 : Nat)] (by first | (simp [Act.eval]; done) | (simp [Act.eval, Act.put]; done)) (by first | (simp [Act.eval]; done) | (simp [Act.eval, Act.put]; done)) 78 _ (unhide HZ) (by kernel_rfl) rfl (all8 _) ?_))
      refine bodyPost_ret (ps_ret (setRow_heap _ _ _ _ _ _ (unhide HZ)) rfl _ rfl) rfl ?_
      exact ⟨rfl, (unhide HB).trans (Obk.bel2 ⟨rfl, rfl, rfl, by simp [World.setRow], fun k hk => setRow_other _ _ k _ hk⟩ (by omega))⟩

end Go.Proofs.YtfdkdjngeomcdaaDoor

namespace Go.Proofs.YtfdkdjngeomcdaaDoor
open Go.RowKit

/-- The positions that hold b, by the places of each set. -/
def holdW (ds ps : Nat → Nat → Nat) (b : Nat) : Nat → Nat → Nat
  | 0 => fun _ => 0
  | k + 1 => if Bt (ds k) b then orW (holdW ds ps b k) (ps k) else holdW ds ps b k
theorem fit_z : Fit (fun _ => 0) := fun _ => by show (0 : Nat) < 18446744073709551616; decide
theorem fit_hold {ds ps : Nat → Nat → Nat} {b : Nat} : ∀ {m : Nat}, (∀ j, j < m → Fit (ps j)) → Fit (holdW ds ps b m)
  | 0, _ => fit_z
  | k + 1, h => by
    unfold holdW
    split
    · exact fit_or (fit_hold (fun j hj => h j (by omega))) (h k (by omega))
    · exact fit_hold (fun j hj => h j (by omega))
theorem bt_hold {ds ps : Nat → Nat → Nat} {b : Nat} (i : Nat) : ∀ m : Nat, Bt (holdW ds ps b m) i = true ↔ ∃ j, j < m ∧ Bt (ds j) b = true ∧ Bt (ps j) i = true
  | 0 => by
    constructor
    · intro h; simp [holdW, Bt] at h
    · rintro ⟨j, hj, -⟩; omega
  | k + 1 => by
    unfold holdW
    by_cases e : Bt (ds k) b = true
    · rw [if_pos e, bt_or, Bool.or_eq_true, bt_hold i k]
      constructor
      · rintro (⟨j, hj, h⟩ | h)
        · exact ⟨j, by omega, h⟩
        · exact ⟨k, by omega, e, h⟩
      · rintro ⟨j, hj, h⟩
        by_cases e2 : j = k
        · subst e2; exact Or.inr h.2
        · exact Or.inl ⟨j, by omega, h⟩
    · rw [if_neg e, bt_hold i k]
      constructor
      · rintro ⟨j, hj, h⟩; exact ⟨j, by omega, h⟩
      · rintro ⟨j, hj, h⟩
        by_cases e2 : j = k
        · subst e2; exact absurd h.1 e
        · exact ⟨j, by omega, h⟩
/-- Rows of sets of bytes, of positions. -/
abbrev RsB (w : World) (v : Value) (m : Nat) (ds : Nat → Nat → Nat) : Prop := w.ownsRow 0 64 4 v m (flatF 4 m ds)
abbrev RsP (w : World) (v : Value) (m : Nat) (ps : Nat → Nat → Nat) : Prop := w.ownsRow 0 78 8 v m (flatF 8 m ps)
theorem rsB_at {w : World} {v : Value} {m i : Nat} {ds : Nat → Nat → Nat} (h : RsB w v m ds) (hi : i < m) : ∃ g cap, v = .slice (some ⟨g, 0, none⟩) m cap ∧ g < w.heap.size ∧ (∀ W : World, W.heap[g]? = w.heap[g]? → ∀ j, j < 4 → W.cell? ⟨g, i * 4 + j, none⟩ = some (wd (ds i) j)) := by
  obtain ⟨g, cap, M, F, rfl, hlt, hr, hM, hF, -⟩ := own_row h (by omega)
  refine ⟨g, cap, rfl, hlt, fun W hW j hj => ?_⟩
  have h1 := hF (i * 4 + j) (by omega)
  rw [flatF_at _ _ _ (by omega), show (i * 4 + j) / 4 = i by omega, show (i * 4 + j) % 4 = j by omega] at h1
  rw [World.cell?_of_block (a := ⟨g, i * 4 + j, none⟩) hW, hr.cell (by omega)]
  exact h1.symm
theorem rsP_at {w : World} {v : Value} {m i : Nat} {ps : Nat → Nat → Nat} (h : RsP w v m ps) (hi : i < m) : ∃ g cap M F, v = .slice (some ⟨g, 0, none⟩) m cap ∧ g < w.heap.size ∧ w.rowIs g 78 M F ∧ i * 8 + 8 ≤ M ∧ (∀ j, j < 8 → F (i * 8 + j) = wd (ps i) j) ∧
    ∀ (w' : World) (x : Nat → Nat), w'.rowIs g 78 M (fun k => if i * 8 ≤ k ∧ k < i * 8 + 8 then wd x (k - i * 8) else F k) → RsP w' v m (fun j => if j = i then x else ps j) := by
  obtain ⟨g, cap, M, F, rfl, hlt, hr, hM, hF, hback⟩ := own_row h (by omega)
  refine ⟨g, cap, M, F, rfl, hlt, hr, by omega, fun j hj => ?_, fun w' x hr' => ?_⟩
  · have h1 := hF (i * 8 + j) (by omega)
    rw [flatF_at _ _ _ (by omega), show (i * 8 + j) / 8 = i by omega, show (i * 8 + j) % 8 = j by omega] at h1
    exact (Option.some.inj h1).symm
  · refine hback w' _ _ hr' (flatF_len _ _ _) (fun k hk => ?_)
    rw [flatF_at _ _ _ hk]
    by_cases e : i * 8 ≤ k ∧ k < i * 8 + 8
    · rw [if_pos e, if_pos (by omega), show k % 8 = k - i * 8 by omega]
    · rw [if_neg e, if_neg (by omega)]
      have h2 := hF k hk
      rw [flatF_at _ _ _ hk] at h2
      exact h2

set_option maxHeartbeats 8000000 in
set_option maxRecDepth 100000 in
theorem holdersOf_any (b m : Nat) (sv pv : Value) (ds ps : Nat → Nat → Nat) (w : World) (hb : b < 256) (hm : m ≤ 512) (hs : RsB w sv m ds) (hp : RsP w pv m ps) (hds : ∀ j, j < m → Fit (ds j)) (hps : ∀ j, j < m → Fit (ps j)) :
    Calls Tryd.prog 49 #[.int .i64 b, sv, pv] w fun e w' => e = .returned (ps8 (holdW ds ps b m)) ∧ Below w.heap.size w w' := by
  obtain ⟨sa, sc, rfl⟩ := own_is hs
  obtain ⟨pa, pc, rfl⟩ := own_is hp
  obtain ⟨H, hH⟩ : ∃ H, H = holdW ds ps b m := ⟨_, rfl⟩
  rw [← hH]
  have HHE := hide hH
  clear hH
  obtain ⟨W, hW⟩ : ∃ W, W = (w.alloc (.cells #[.int .u64 0, .int .u64 0, .int .u64 0, .int .u64 0, .int .u64 0, .int .u64 0, .int .u64 0, .int .u64 0] 78)).alloc (.cells #[.int .u64 0, .int .u64 0, .int .u64 0, .int .u64 0, .int .u64 0, .int .u64 0, .int .u64 0, .int .u64 0] 78) := ⟨_, rfl⟩
  have hr0 : W.rowIs w.heap.size 78 8 (wd (fun _ => 0)) := by rw [hW]; exact (row8_new w _ (fun _ => 0)).alloc _
  have hr1 : W.rowIs (w.heap.size + 1) 78 8 (wd (fun _ => 0)) := by
    have := row8_new (w.alloc (.cells #[.int .u64 0, .int .u64 0, .int .u64 0, .int .u64 0, .int .u64 0, .int .u64 0, .int .u64 0, .int .u64 0] 78)) 78 (fun _ => 0)
    rw [sz_alloc] at this
    rw [hW]; exact this
  have hB : Below w.heap.size w W := by rw [hW]; exact below2 w _ _
  have hz : w.heap.size + 2 ≤ W.heap.size := by rw [hW, sz_alloc, sz_alloc]; omega
  have HS := hide hs
  have HP := hide hp
  have HDS := hide hds
  have HPS := hide hps
  have H0 := hide hr0
  have H1 := hide hr1
  have HB := hide hB
  have HW := hide hW
  clear hs hp hds hps hr0 hr1 hB hW
  go_enter Tryd.func49, Tryd.ntmps49
  go_wp2_with fail
  rw [← unhide HW]
  clear HW
  go_loopw [12] (fun iv wr => ∃ i : Nat, i ≤ m ∧ iv = .int .i64 i ∧ wr.rowIs w.heap.size 78 8 (wd (fun _ => 0)) ∧ wr.rowIs (w.heap.size + 1) 78 8 (wd (holdW ds ps b i)) ∧ w.heap.size + 2 ≤ wr.heap.size ∧ Below w.heap.size w wr) (fun iv _ => m - (intOf iv).toNat)
  case atStart => exact ⟨0, by omega, rfl, unhide H0, unhide H1, hz, unhide HB⟩
  case round =>
    clear H0 H1 HB hz
    obtain ⟨i, hi, rfl, hr0, hr1, hz, hbw⟩ := hrel
    by_cases hlt : i < m
    · have hlt' : (i : Int) < (m : Int) := by omega
      obtain ⟨g, cap, e, hg, hcell⟩ := rsB_at (unhide HS) hlt
      cases e
      obtain ⟨g2, cap2, M, F, e, hg2, hrow, hM, hF, -⟩ := rsP_at (unhide HP) hlt
      cases e
      have d0 := hcell wr (hbw.block g hg) 0 (by omega)
      have d1 := hcell wr (hbw.block g hg) 1 (by omega)
      have d2 := hcell wr (hbw.block g hg) 2 (by omega)
      have d3 := hcell wr (hbw.block g hg) 3 (by omega)
      unfold wd at d0 d1 d2 d3
      rw [Nat.add_zero] at d0
      have hB1 := below1 wr (.cells #[.int .u64 (ds i 0 : Nat), .int .u64 (ds i 1 : Nat), .int .u64 (ds i 2 : Nat), .int .u64 (ds i 3 : Nat)] 64)
      have HH := hide (has_w (ds i) b (wr.alloc (.cells #[.int .u64 (ds i 0 : Nat), .int .u64 (ds i 1 : Nat), .int .u64 (ds i 2 : Nat), .int .u64 (ds i 3 : Nat)] 64)) (unhide HDS i hlt) hb)
      have HR0 := hide hr0
      have HR1 := hide hr1
      have HBW := hide hbw
      have HROW := hide hrow
      have HF := hide hF
      have HB1 := hide hB1
      unfold ws4 at HH
      clear hr0 hr1 hbw hrow hF hB1 hcell
      go_wp2_with fail
      refine (unhide HH).mono ?_
      rintro e w2 ⟨rfl, hb2⟩
      have hb3 : Below wr.heap.size wr w2 := (unhide HB1).trans (hb2.mono (by rw [sz_alloc]; omega))
      have hR0 := (unhide HR0).of_block (hb3.block _ (by omega))
      have hR1 := (unhide HR1).of_block (hb3.block _ (by omega))
      have hR2 := (unhide HROW).of_block ((hb3.block g2 (by have := (unhide HBW).size; omega)).trans ((unhide HBW).block g2 hg2))
      have hBW2 : Below w.heap.size w w2 := (unhide HBW).trans (hb3.mono (unhide HBW).size)
      have hz2 := hb3.size
      cases hh : Bt (ds i) b with
      | false =>
        have HR0' := hide hR0
        have HR1' : Hid (w2.rowIs (w.heap.size + 1) 78 8 (wd (holdW ds ps b (i + 1)))) := by
          show w2.rowIs _ _ _ (wd (holdW ds ps b (i + 1)))
          unfold holdW
          rw [if_neg (by rw [hh]; decide)]
          exact hR1
        have HBW2 := hide hBW2
        clear hR0 hR1 hR2 hBW2 hb2 hb3 hh HR0 HR1 HBW HROW HF HB1 HH
        go_wp2
        go_roundw
        case rel => exact ⟨i + 1, by omega, by go_num, unhide HR0', unhide HR1', by omega, unhide HBW2⟩
        case measure => simp [intOf]; omega
      | true =>
        have HJ := hide (join_any (w.heap.size + 1) 0 8 g2 (i * 8) M _ _ _ F (holdW ds ps b i) (ps i) w2 (fit_hold (fun j hj => unhide HPS j (by omega))) (unhide HPS i hlt) (by omega) hR1 (fun j hj => by rw [Nat.zero_add]) (by omega) hR2 (unhide HF) hM)
        have HR0' := hide hR0
        have HBW2 := hide hBW2
        have HHH := hide hh
        clear hR0 hR1 hR2 hBW2 hb2 hb3 hh HR0 HR1 HBW HROW HF HB1 HH
        go_wp2_with fail
        refine (unhide HJ).mono ?_
        rintro e w3 ⟨rfl, hr3, hob⟩
        have HR0'' := hide ((unhide HR0').of_block (hob.block _ (by omega)))
        have HR1'' : Hid (w3.rowIs (w.heap.size + 1) 78 8 (wd (holdW ds ps b (i + 1)))) := by
          show w3.rowIs _ _ _ (wd (holdW ds ps b (i + 1)))
          unfold holdW
          rw [if_pos (unhide HHH)]
          exact hr3.congr (fun k hk => by rw [if_pos (by omega), Nat.sub_zero])
        have HBW3 := hide ((unhide HBW2).trans (hob.bel2 (by omega)))
        have hz3 := hob.size
        clear hr3 hob HJ HR0'
        go_wp2
        go_roundw
        case rel => exact ⟨i + 1, by omega, by go_num, unhide HR0'', unhide HR1'', by omega, unhide HBW3⟩
        case measure => simp [intOf]; omega
    · obtain rfl : i = m := by omega
      rw [← unhide HHE] at hr1
      have HA : Hid (wr.heap[w.heap.size + 1]? = _) := row8_blk hr1
      have HZ : Hid (wr.heap[w.heap.size]? = _) := row8_blk hr0
      have HB := hide hbw
      clear hr0 hr1 hbw
      go_wp2_with (first
        | (refine wpList_load_row rfl 78 (.tmp 7) rfl (w.heap.size + 1) (by first | (simp [Act.eval]; done) | (simp [Act.eval, Act.put]; done)) 78 _ _ _ (unhide HA) Tryd.underlying78 rfl (by kernel_rfl) ?_)
        | (refine wpList_store_row rfl 78 (.tmp 6) (.tmp 25) rfl (w.heap.size) #[.int .u64 (H 0 : Nat), .int .u64 (H 1 : Nat), .int .u64 (H 2 : Nat), .int .u64 (H 3 : Nat), .int .u64 (H 4 : Nat), .int .u64 (H 5 : Nat), .int .u64 (H 6 : Nat), .int .u64 (H 7 : Nat)] (by first | (simp [Act.eval]; done) | (simp [Act.eval, Act.put]; done)) (by first | (simp [Act.eval]; done) | (simp [Act.eval, Act.put]; done)) 78 _ (unhide HZ) (by kernel_rfl) rfl (all8 _) ?_))
      refine bodyPost_ret (ps_ret (setRow_heap _ _ _ _ _ _ (unhide HZ)) rfl _ rfl) rfl ?_
      exact ⟨rfl, (unhide HB).trans (Obk.bel2 ⟨rfl, rfl, rfl, by simp [World.setRow], fun k hk => setRow_other _ _ k _ hk⟩ (Nat.le_refl _))⟩

end Go.Proofs.YtfdkdjngeomcdaaDoor
