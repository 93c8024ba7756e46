import Derived.Test.YtfdkdjngeomcdaaDoorP8
import Derived.Test.YtfdkdjngeomcdaaDoorP2
import Derived.Test.YtfdkdjngeomcdaaDoorP7
import Derived.Test.YtfdkdjngeomcdaaDoorP6
import Derived.Test.YtfdkdjngeomcdaaDoorP4
namespace Go.Proofs.YtfdkdjngeomcdaaDoor
open Go.RowKit

/-- The state behind n bytes. -/
def stt (xs ys bs : List Int) (nc : Int) : Nat → Int
  | 0 => 0
  | n + 1 => ys[(stt xs ys bs nc n * nc + xs[(bs[n]?.getD 0).toNat]?.getD 0).toNat]?.getD 0
def trace (xs ys bs : List Int) (nc : Int) (n : Nat) : List Int := (List.range n).map (stt xs ys bs nc)
theorem trace_len (xs ys bs : List Int) (nc : Int) (n : Nat) : (trace xs ys bs nc n).length = n := by simp [trace]
theorem trace_get (xs ys bs : List Int) (nc : Int) (n i : Nat) (h : i < n) : (trace xs ys bs nc n)[i]?.getD 0 = stt xs ys bs nc i := by simp [trace, h]
theorem trace_succ (xs ys bs : List Int) (nc : Int) (n : Nat) : trace xs ys bs nc (n + 1) = trace xs ys bs nc n ++ [stt xs ys bs nc n] := by simp [trace, List.range_succ]

theorem idx_bd {s c nc S : Int} (s0 : 0 ≤ s) (s1 : s < S) (c0 : 0 ≤ c) (c1 : c < nc) (hn : nc ≤ 256) (hS : S ≤ 1024) : 0 ≤ s * nc ∧ s * nc ≤ 262144 ∧ s * nc + c < S * nc := by
  have h1 : 0 ≤ s * nc := Int.mul_nonneg s0 (by omega)
  have h2 : s * nc + nc ≤ S * nc := by
    have : (s + 1) * nc ≤ S * nc := Int.mul_le_mul_of_nonneg_right (by omega) (by omega)
    rw [Int.add_mul, Int.one_mul] at this
    exact this
  have h3 : s * nc ≤ 1024 * 256 := Int.mul_le_mul (by omega) (by omega) (by omega) (by omega)
  omega

theorem stt_bd {xs ys bs : List Int} {zs : List Bool} {nc : Int} (h : TabOk xs ys zs nc) (hb : ∀ i : Nat, 0 ≤ bs[i]?.getD 0 ∧ bs[i]?.getD 0 ≤ 255) : ∀ n : Nat, 0 ≤ stt xs ys bs nc n ∧ stt xs ys bs nc n < zs.length := by
  intro n
  induction n with
  | zero => have := h.st; simp [stt]; omega
  | succ n ih =>
    have hc := h.cls (b := (bs[n]?.getD 0).toNat) (by have := hb n; omega)
    have hi := idx_bd ih.1 ih.2 hc.1 hc.2 h.hn.2 (by have := h.st; omega)
    have hx := h.nx
    simp only [stt]
    exact h.to _ (by omega)

/-- What the run of a table answers. -/
def RunRet (e : Ending) (w w' : World) (xs ys bs : List Int) (zs : List Bool) (nc : Int) : Prop :=
  (¬ TabOk xs ys zs nc ∧ e = .returned (.tuple #[.bool false, .slice none 0 0])) ∨
  (TabOk xs ys zs nc ∧ ∃ v, e = .returned (.tuple #[.bool (zs[(stt xs ys bs nc bs.length).toNat]?.getD false), v]) ∧ SlW mI 0 w.heap.size w'.heap.size w' v (trace xs ys bs nc (bs.length + 1)))

/-- One state more. -/
theorem run_step {xs ys bs : List Int} {nc : Int} {n : Nat} {w1 wr w2 : World} {tv v' : Value} {o : Obj} {q : Nat} (hown : wr.ownsRow w1.heap.size 3 1 tv n ((trace xs ys bs nc n).map mI)) (hb : Below w1.heap.size w1 wr)
    (h1 : w2.ownsRow w1.heap.size 3 1 v' (n + 1) ((trace xs ys bs nc n).map mI ++ [.int .i64 (stt xs ys bs nc n)])) (hg : ((wr.drewN q).alloc o).grownBy w2 tv.ownBlock) :
    w2.ownsRow w1.heap.size 3 1 v' (n + 1) ((trace xs ys bs nc (n + 1)).map mI) ∧ Below w1.heap.size w1 w2 := by
  refine ⟨by rw [trace_succ, List.map_append]; exact h1, ((below_drewN hb q).alloc hb.size o).grown hg (by rw [sz_alloc]; exact Nat.le_succ_of_le hb.size) (fun k hk => (hown.lt k hk).1)⟩

end Go.Proofs.YtfdkdjngeomcdaaDoor

namespace Go.Proofs.YtfdkdjngeomcdaaDoor
open Go.RowKit

set_option maxHeartbeats 1000000 in
theorem has_w (g : Nat → Nat) (b : Nat) (w : World) (hg : Fit g) (hb : b < 256) :
    Calls Tryd.prog 65 #[ws4 g, .int .i64 b] w fun e w' => e = .returned (.bool (Bt g b)) ∧ Below w.heap.size w w' := by
  unfold ws4
  have hbt : Hid ((bits .and .u64 ((g (b / 64) : Int) / 2 ^ (b % 64)) 1 == 1) = Bt g b) := shr_bit _ _ (hg _)
  have hrow := four_row w 64 g
  have hq : b / 64 < 4 := by omega
  have c0 := hrow.cell hq
  have hq2 : (b : Int) / 64 < 4 := by omega
  have hq3 : 0 ≤ (b : Int) / 64 := by omega
  clear hrow hg
  go_enter Tryd.func65, Tryd.ntmps65
  go_wp2
  go_ret
  exact ⟨ret_bool (unhide hbt), below1 w _⟩

theorem canon_ge {xs : List Int} (h : Canon xs) : ∀ j : Nat, 2 * j < xs.length → 2 * (j : Int) ≤ xs[2 * j]?.getD 0 := by
  intro j
  induction j with
  | zero => intro hlt; have := (h.2.1 0 hlt).1; simpa using this
  | succ j ih =>
    intro hlt
    have h1 := ih (by omega)
    have h2 := (h.2.2 j (by omega)).1
    have h3 := canon_mono h j 0 (by omega)
    rw [show j + 0 + 1 = j + 1 by omega] at h3
    omega

theorem Cut.bd {xs : List Int} {m b : Nat} (hcn : Canon xs) (h : Cut xs m b) (hb : b ≤ 256) : m ≤ 129 := by
  by_cases hm : 0 < m
  · have h1 := h.lo hm
    have h2 := canon_ge hcn (m - 1) (by have := h.le; omega)
    omega
  · omega

theorem cell_2 {W : World} {N : Nat} {u v : Value} (h : W.cell? ⟨N, 0, none⟩ = some u) (h' : W.cell? ⟨N, 1, none⟩ = some v) : ∀ (j : Nat) (y : Value), [u, v][j]? = some y → W.cell? ((⟨N, 0, none⟩ : Addr).add j) = some y := by
  intro j y hj
  match j, hj with
  | 0, hj => simp at hj; subst hj; exact h
  | 1, hj => simp at hj; subst hj; exact h'

theorem own_int_slw {base lo n : Nat} {w : World} {v : Value} {xs : List Int} (h : w.ownsRow base 3 1 v n (xs.map mI)) (hlo : lo ≤ base) (hn : n ≤ maxLen) : SlW mI 0 lo w.heap.size w v xs := own_slw h hlo hn

end Go.Proofs.YtfdkdjngeomcdaaDoor

namespace Go.Proofs.YtfdkdjngeomcdaaDoor
open Go.RowKit

/-- The positions that hold b, by the places of each set. -/
def holdW (ds ps : Nat → Nat → Nat) (b : Nat) : Nat → Nat → Nat
  | 0 => fun _ => 0
  | k + 1 => if Bt (ds k) b then orW (holdW ds ps b k) (ps k) else holdW ds ps b k
theorem fit_z : Fit (fun _ => 0) := fun _ => by show (0 : Nat) < 18446744073709551616; decide
theorem fit_hold {ds ps : Nat → Nat → Nat} {b : Nat} : ∀ {m : Nat}, (∀ j, j < m → Fit (ps j)) → Fit (holdW ds ps b m)
  | 0, _ => fit_z
  | k + 1, h => by
    unfold holdW
    split
    · exact fit_or (fit_hold (fun j hj => h j (by omega))) (h k (by omega))
    · exact fit_hold (fun j hj => h j (by omega))
theorem bt_hold {ds ps : Nat → Nat → Nat} {b : Nat} (i : Nat) : ∀ m : Nat, Bt (holdW ds ps b m) i = true ↔ ∃ j, j < m ∧ Bt (ds j) b = true ∧ Bt (ps j) i = true
  | 0 => by
    constructor
    · intro h; simp [holdW, Bt] at h
    · rintro ⟨j, hj, -⟩; omega
  | k + 1 => by
    unfold holdW
    by_cases e : Bt (ds k) b = true
    · rw [if_pos e, bt_or, Bool.or_eq_true, bt_hold i k]
      constructor
      · rintro (⟨j, hj, h⟩ | h)
        · exact ⟨j, by omega, h⟩
        · exact ⟨k, by omega, e, h⟩
      · rintro ⟨j, hj, h⟩
        by_cases e2 : j = k
        · subst e2; exact Or.inr h.2
        · exact Or.inl ⟨j, by omega, h⟩
    · rw [if_neg e, bt_hold i k]
      constructor
      · rintro ⟨j, hj, h⟩; exact ⟨j, by omega, h⟩
      · rintro ⟨j, hj, h⟩
        by_cases e2 : j = k
        · subst e2; exact absurd h.1 e
        · exact ⟨j, by omega, h⟩
/-- Rows of sets of bytes, of positions. -/
abbrev RsB (w : World) (v : Value) (m : Nat) (ds : Nat → Nat → Nat) : Prop := w.ownsRow 0 64 4 v m (flatF 4 m ds)
abbrev RsP (w : World) (v : Value) (m : Nat) (ps : Nat → Nat → Nat) : Prop := w.ownsRow 0 78 8 v m (flatF 8 m ps)
theorem rsB_at {w : World} {v : Value} {m i : Nat} {ds : Nat → Nat → Nat} (h : RsB w v m ds) (hi : i < m) : ∃ g cap, v = .slice (some ⟨g, 0, none⟩) m cap ∧ g < w.heap.size ∧ (∀ W : World, W.heap[g]? = w.heap[g]? → ∀ j, j < 4 → W.cell? ⟨g, i * 4 + j, none⟩ = some (wd (ds i) j)) := by
  obtain ⟨g, cap, M, F, rfl, hlt, hr, hM, hF, -⟩ := own_row h (by omega)
  refine ⟨g, cap, rfl, hlt, fun W hW j hj => ?_⟩
  have h1 := hF (i * 4 + j) (by omega)
  rw [flatF_at _ _ _ (by omega), show (i * 4 + j) / 4 = i by omega, show (i * 4 + j) % 4 = j by omega] at h1
  rw [World.cell?_of_block (a := ⟨g, i * 4 + j, none⟩) hW, hr.cell (by omega)]
  exact h1.symm
theorem rsP_at {w : World} {v : Value} {m i : Nat} {ps : Nat → Nat → Nat} (h : RsP w v m ps) (hi : i < m) : ∃ g cap M F, v = .slice (some ⟨g, 0, none⟩) m cap ∧ g < w.heap.size ∧ w.rowIs g 78 M F ∧ i * 8 + 8 ≤ M ∧ (∀ j, j < 8 → F (i * 8 + j) = wd (ps i) j) ∧
    ∀ (w' : World) (x : Nat → Nat), w'.rowIs g 78 M (fun k => if i * 8 ≤ k ∧ k < i * 8 + 8 then wd x (k - i * 8) else F k) → RsP w' v m (fun j => if j = i then x else ps j) := by
  obtain ⟨g, cap, M, F, rfl, hlt, hr, hM, hF, hback⟩ := own_row h (by omega)
  refine ⟨g, cap, M, F, rfl, hlt, hr, by omega, fun j hj => ?_, fun w' x hr' => ?_⟩
  · have h1 := hF (i * 8 + j) (by omega)
    rw [flatF_at _ _ _ (by omega), show (i * 8 + j) / 8 = i by omega, show (i * 8 + j) % 8 = j by omega] at h1
    exact (Option.some.inj h1).symm
  · refine hback w' _ _ hr' (flatF_len _ _ _) (fun k hk => ?_)
    rw [flatF_at _ _ _ hk]
    by_cases e : i * 8 ≤ k ∧ k < i * 8 + 8
    · rw [if_pos e, if_pos (by omega), show k % 8 = k - i * 8 by omega]
    · rw [if_neg e, if_neg (by omega)]
      have h2 := hF k hk
      rw [flatF_at _ _ _ hk] at h2
      exact h2

set_option maxHeartbeats 8000000 in
set_option maxRecDepth 100000 in
theorem holdersOf_any (b m : Nat) (sv pv : Value) (ds ps : Nat → Nat → Nat) (w : World) (hb : b < 256) (hm : m ≤ 512) (hs : RsB w sv m ds) (hp : RsP w pv m ps) (hds : ∀ j, j < m → Fit (ds j)) (hps : ∀ j, j < m → Fit (ps j)) :
    Calls Tryd.prog 49 #[.int .i64 b, sv, pv] w fun e w' => e = .returned (ps8 (holdW ds ps b m)) ∧ Below w.heap.size w w' := by
  obtain ⟨sa, sc, rfl⟩ := own_is hs
  obtain ⟨pa, pc, rfl⟩ := own_is hp
  obtain ⟨H, hH⟩ : ∃ H, H = holdW ds ps b m := ⟨_, rfl⟩
  rw [← hH]
  have HHE := hide hH
  clear hH
  obtain ⟨W, hW⟩ : ∃ W, W = (w.alloc (.cells #[.int .u64 0, .int .u64 0, .int .u64 0, .int .u64 0, .int .u64 0, .int .u64 0, .int .u64 0, .int .u64 0] 78)).alloc (.cells #[.int .u64 0, .int .u64 0, .int .u64 0, .int .u64 0, .int .u64 0, .int .u64 0, .int .u64 0, .int .u64 0] 78) := ⟨_, rfl⟩
  have hr0 : W.rowIs w.heap.size 78 8 (wd (fun _ => 0)) := by rw [hW]; exact (row8_new w _ (fun _ => 0)).alloc _
  have hr1 : W.rowIs (w.heap.size + 1) 78 8 (wd (fun _ => 0)) := by
    have := row8_new (w.alloc (.cells #[.int .u64 0, .int .u64 0, .int .u64 0, .int .u64 0, .int .u64 0, .int .u64 0, .int .u64 0, .int .u64 0] 78)) 78 (fun _ => 0)
    rw [sz_alloc] at this
    rw [hW]; exact this
  have hB : Below w.heap.size w W := by rw [hW]; exact below2 w _ _
  have hz : w.heap.size + 2 ≤ W.heap.size := by rw [hW, sz_alloc, sz_alloc]; omega
  have HS := hide hs
  have HP := hide hp
  have HDS := hide hds
  have HPS := hide hps
  have H0 := hide hr0
  have H1 := hide hr1
  have HB := hide hB
  have HW := hide hW
  clear hs hp hds hps hr0 hr1 hB hW
  go_enter Tryd.func49, Tryd.ntmps49
  go_wp2_with fail
  rw [← unhide HW]
  clear HW
  go_loopw [12] (fun iv wr => ∃ i : Nat, i ≤ m ∧ iv = .int .i64 i ∧ wr.rowIs w.heap.size 78 8 (wd (fun _ => 0)) ∧ wr.rowIs (w.heap.size + 1) 78 8 (wd (holdW ds ps b i)) ∧ w.heap.size + 2 ≤ wr.heap.size ∧ Below w.heap.size w wr) (fun iv _ => m - (intOf iv).toNat)
  case atStart => exact ⟨0, by omega, rfl, unhide H0, unhide H1, hz, unhide HB⟩
  case round =>
    clear H0 H1 HB hz
    obtain ⟨i, hi, rfl, hr0, hr1, hz, hbw⟩ := hrel
    by_cases hlt : i < m
    · have hlt' : (i : Int) < (m : Int) := by omega
      obtain ⟨g, cap, e, hg, hcell⟩ := rsB_at (unhide HS) hlt
      cases e
      obtain ⟨g2, cap2, M, F, e, hg2, hrow, hM, hF, -⟩ := rsP_at (unhide HP) hlt
      cases e
      have d0 := hcell wr (hbw.block g hg) 0 (by omega)
      have d1 := hcell wr (hbw.block g hg) 1 (by omega)
      have d2 := hcell wr (hbw.block g hg) 2 (by omega)
      have d3 := hcell wr (hbw.block g hg) 3 (by omega)
      unfold wd at d0 d1 d2 d3
      rw [Nat.add_zero] at d0
      have hB1 := below1 wr (.cells #[.int .u64 (ds i 0 : Nat), .int .u64 (ds i 1 : Nat), .int .u64 (ds i 2 : Nat), .int .u64 (ds i 3 : Nat)] 64)
      have HH := hide (has_w (ds i) b (wr.alloc (.cells #[.int .u64 (ds i 0 : Nat), .int .u64 (ds i 1 : Nat), .int .u64 (ds i 2 : Nat), .int .u64 (ds i 3 : Nat)] 64)) (unhide HDS i hlt) hb)
      have HR0 := hide hr0
      have HR1 := hide hr1
      have HBW := hide hbw
      have HROW := hide hrow
      have HF := hide hF
      have HB1 := hide hB1
      unfold ws4 at HH
      clear hr0 hr1 hbw hrow hF hB1 hcell
      go_wp2_with fail
      refine (unhide HH).mono ?_
      rintro e w2 ⟨rfl, hb2⟩
      have hb3 : Below wr.heap.size wr w2 := (unhide HB1).trans (hb2.mono (by rw [sz_alloc]; omega))
      have hR0 := (unhide HR0).of_block (hb3.block _ (by omega))
      have hR1 := (unhide HR1).of_block (hb3.block _ (by omega))
      have hR2 := (unhide HROW).of_block ((hb3.block g2 (by have := (unhide HBW).size; omega)).trans ((unhide HBW).block g2 hg2))
      have hBW2 : Below w.heap.size w w2 := (unhide HBW).trans (hb3.mono (unhide HBW).size)
      have hz2 := hb3.size
      cases hh : Bt (ds i) b with
      | false =>
        have HR0' := hide hR0
        have HR1' : Hid (w2.rowIs (w.heap.size + 1) 78 8 (wd (holdW ds ps b (i + 1)))) := by
          show w2.rowIs _ _ _ (wd (holdW ds ps b (i + 1)))
          unfold holdW
          rw [if_neg (by rw [hh]; decide)]
          exact hR1
        have HBW2 := hide hBW2
        clear hR0 hR1 hR2 hBW2 hb2 hb3 hh HR0 HR1 HBW HROW HF HB1 HH
        go_wp2
        go_roundw
        case rel => exact ⟨i + 1, by omega, by go_num, unhide HR0', unhide HR1', by omega, unhide HBW2⟩
        case measure => simp [intOf]; omega
      | true =>
        have HJ := hide (join_any (w.heap.size + 1) 0 8 g2 (i * 8) M _ _ _ F (holdW ds ps b i) (ps i) w2 (fit_hold (fun j hj => unhide HPS j (by omega))) (unhide HPS i hlt) (by omega) hR1 (fun j hj => by rw [Nat.zero_add]) (by omega) hR2 (unhide HF) hM)
        have HR0' := hide hR0
        have HBW2 := hide hBW2
        have HHH := hide hh
        clear hR0 hR1 hR2 hBW2 hb2 hb3 hh HR0 HR1 HBW HROW HF HB1 HH
        go_wp2_with fail
        refine (unhide HJ).mono ?_
        rintro e w3 ⟨rfl, hr3, hob⟩
        have HR0'' := hide ((unhide HR0').of_block (hob.block _ (by omega)))
        have HR1'' : Hid (w3.rowIs (w.heap.size + 1) 78 8 (wd (holdW ds ps b (i + 1)))) := by
          show w3.rowIs _ _ _ (wd (holdW ds ps b (i + 1)))
          unfold holdW
          rw [if_pos (unhide HHH)]
          exact hr3.congr (fun k hk => by rw [if_pos (by omega), Nat.sub_zero])
        have HBW3 := hide ((unhide HBW2).trans (hob.bel2 (by omega)))
        have hz3 := hob.size
        clear hr3 hob HJ HR0'
        go_wp2
        go_roundw
        case rel => exact ⟨i + 1, by omega, by go_num, unhide HR0'', unhide HR1'', by omega, unhide HBW3⟩
        case measure => simp [intOf]; omega
    · obtain rfl : i = m := by omega
      rw [← unhide HHE] at hr1
      have HA : Hid (wr.heap[w.heap.size + 1]? = _) := row8_blk hr1
      have HZ : Hid (wr.heap[w.heap.size]? = _) := row8_blk hr0
      have HB := hide hbw
      clear hr0 hr1 hbw
      go_wp2_with (first
        | (refine wpList_load_row rfl 78 (.tmp 7) rfl (w.heap.size + 1) (by first | (simp [Act.eval]; done) | (simp [Act.eval, Act.put]; done)) 78 _ _ _ (unhide HA) Tryd.underlying78 rfl (by kernel_rfl) ?_)
        | (refine wpList_store_row rfl 78 (.tmp 6) (.tmp 25) rfl (w.heap.size) #[.int .u64 (H 0 : Nat), .int .u64 (H 1 : Nat), .int .u64 (H 2 : Nat), .int .u64 (H 3 : Nat), .int .u64 (H 4 : Nat), .int .u64 (H 5 : Nat), .int .u64 (H 6 : Nat), .int .u64 (H 7 : Nat)] (by first | (simp [Act.eval]; done) | (simp [Act.eval, Act.put]; done)) (by first | (simp [Act.eval]; done) | (simp [Act.eval, Act.put]; done)) 78 _ (unhide HZ) (by kernel_rfl) rfl (all8 _) ?_))
      refine bodyPost_ret (ps_ret (setRow_heap _ _ _ _ _ _ (unhide HZ)) rfl _ rfl) rfl ?_
      exact ⟨rfl, (unhide HB).trans (Obk.bel2 ⟨rfl, rfl, rfl, by simp [World.setRow], fun k hk => setRow_other _ _ k _ hk⟩ (Nat.le_refl _))⟩

end Go.Proofs.YtfdkdjngeomcdaaDoor

namespace Go.Proofs.YtfdkdjngeomcdaaDoor
open Go.RowKit

/-- The sets of the leaves. -/
def setsOf : List El → List (List Int)
  | [] => []
  | x :: r => (if x.kind = 1 then [x.set] else []) ++ setsOf r
theorem oPush_ss (s : Ms) (x : El) : (oPush s x).ss = s.ss ++ (if x.kind = 1 then [x.set] else []) := by
  unfold oPush
  repeat' split
  all_goals simp_all
theorem oRun_ss (L : List El) : ∀ s : Ms, (oRun s L).ss = s.ss ++ setsOf L := by
  induction L with
  | nil => intro s; simp [oRun, setsOf]
  | cons x r ih => intro s; simp only [oRun, setsOf]; rw [ih, oPush_ss, List.append_assoc]
theorem SegO.sets {L : List El} {n : Nat} {a : It} {ln : List Lk} {ss : List (List Int)} (h : SegO L n a ln ss) : ss = setsOf L := by
  have h1 := oRun_ss L ini
  rw [h ini] at h1
  simpa [ini] using h1
theorem setsOf_len : ∀ L : List El, (setsOf L).length = lvs L
  | [] => rfl
  | x :: r => by
    have := setsOf_len r
    simp only [setsOf, lvs, List.length_append]
    split <;> simp <;> omega

/-- What is shown ascends. -/
def AscI (a : It) : Prop := a.fi.Pairwise (· < ·) ∧ a.la.Pairwise (· < ·)
theorem asc_sh {xs : List Nat} (h : xs.Pairwise (· < ·)) (c : Nat) : (xs.map (c + ·)).Pairwise (· < ·) := by
  rw [List.pairwise_map]
  exact h.imp (fun q => by omega)
theorem AscI.sh {a : It} (h : AscI a) (c : Nat) : AscI (a.sh c) := ⟨asc_sh h.1 c, asc_sh h.2 c⟩
theorem asc_app {xs ys : List Nat} {n : Nat} (hx : xs.Pairwise (· < ·)) (hy : ys.Pairwise (· < ·)) (b : ∀ x ∈ xs, x < n) : (xs ++ ys.map (n + ·)).Pairwise (· < ·) := by
  rw [List.pairwise_append]
  refine ⟨hx, asc_sh hy n, fun p hp q hq => ?_⟩
  obtain ⟨z, -, rfl⟩ := List.mem_map.1 hq
  have := b p hp
  omega
theorem AscI.cat {a b : It} {n : Nat} (ha : AscI a) (hb : AscI b) (k : Bdd a n) : AscI (itCat a (b.sh n)) := by
  refine ⟨?_, ?_⟩
  · show (a.fi ++ (if a.nl then b.fi.map (n + ·) else [])).Pairwise (· < ·)
    split
    · exact asc_app ha.1 hb.1 k.1
    · rw [List.append_nil]; exact ha.1
  · show ((if b.nl then a.la else []) ++ b.la.map (n + ·)).Pairwise (· < ·)
    split
    · exact asc_app ha.2 hb.2 k.2
    · rw [List.nil_append]; exact asc_sh hb.2 n
theorem AscI.alt {a b : It} {n : Nat} (ha : AscI a) (hb : AscI b) (k : Bdd a n) : AscI (itAlt a (b.sh n)) := ⟨asc_app ha.1 hb.1 k.1, asc_app ha.2 hb.2 k.2⟩
theorem ascN_uniq : ∀ {xs ys : List Nat}, xs.Pairwise (· < ·) → ys.Pairwise (· < ·) → (∀ z, z ∈ xs ↔ z ∈ ys) → xs = ys
  | [], [], _, _, _ => rfl
  | [], y :: ys, _, _, h => by have := (h y).2 (List.mem_cons_self ..); simp at this
  | x :: xs, [], _, _, h => by have := (h x).1 (List.mem_cons_self ..); simp at this
  | x :: xs, y :: ys, hx, hy, h => by
    rw [List.pairwise_cons] at hx hy
    have e : x = y := by
      have h1 := (h x).1 (List.mem_cons_self ..)
      have h2 := (h y).2 (List.mem_cons_self ..)
      rcases List.mem_cons.1 h1 with e | e
      · exact e
      · rcases List.mem_cons.1 h2 with e2 | e2
        · exact e2.symm
        · have := hy.1 x e; have := hx.1 y e2; omega
    subst e
    rw [ascN_uniq hx.2 hy.2 (fun z => ?_)]
    constructor
    · intro hz
      have := hx.1 z hz
      rcases List.mem_cons.1 ((h z).1 (List.mem_cons_of_mem _ hz)) with e | e
      · omega
      · exact e
    · intro hz
      have := hy.1 z hz
      rcases List.mem_cons.1 ((h z).2 (List.mem_cons_of_mem _ hz)) with e | e
      · omega
      · exact e
theorem range_asc (n : Nat) : (List.range n).Pairwise (· < ·) := List.pairwise_lt_range
/-- The list of a set of positions. -/
theorem bl_is {f : Nat → Nat} {xs : List Nat} (h : BitsOf f xs) (ha : xs.Pairwise (· < ·)) (hb : ∀ x ∈ xs, x < 512) : blN f 512 = xs := by
  refine ascN_uniq (List.Pairwise.filter _ (range_asc 512)) ha (fun z => ?_)
  have := mem_bl h hb z
  rw [Bool.eq_iff_iff, List.contains_iff_mem, List.contains_iff_mem] at this
  exact this

/-- Of a list of elements: they are of their kinds. -/
def AllOk (L : List El) : Prop := ∀ k : Nat, k < L.length → ElOk (L[k]?.getD dE)
theorem AllOk.app {a b : List El} (h : AllOk a) (k : AllOk b) : AllOk (a ++ b) := fun i hi => by
  by_cases e : i < a.length
  · rw [List.getElem?_append_left e]; exact h i e
  · rw [List.getElem?_append_right (by omega)]; exact k _ (by rw [List.length_append] at hi; omega)
theorem AllOk.one {x : El} (h : ElOk x) : AllOk [x] := fun i hi => by
  obtain rfl : i = 0 := by simpa using hi
  exact h

theorem lvs_cat (L R : List El) (k : Int) (hk : k ≠ 1) : lvs (L ++ R ++ [⟨k, [], 0, 0⟩]) = lvs L + lvs R := lvs_snoc L R _ hk
theorem lvs_half : ∀ L : List El, 2 * (lvs L : Int) ≤ L.length + wsum L
  | [] => by simp [lvs, wsum]
  | x :: r => by
    have := lvs_half r
    simp only [lvs, wsum, List.length_cons]
    unfold wt
    repeat' split
    all_goals simp_all
    all_goals omega

end Go.Proofs.YtfdkdjngeomcdaaDoor

namespace Go.Proofs.YtfdkdjngeomcdaaDoor
open Go.RowKit

theorem own_some {base e sz n : Nat} {w : World} {v : Value} {xs : List Value} (h : w.ownsRow base e sz v n xs) (hp : 0 < n) : ∃ g cap, v = .slice (some ⟨g, 0, none⟩) n cap := by
  obtain ⟨g, cap, m, F, rfl, -⟩ := own_row h hp
  exact ⟨g, cap, rfl⟩

set_option maxHeartbeats 8000000 in
set_option maxRecDepth 100000 in
theorem addSet_any (O : Nat → Prop) (A N : Nat) (S : List (List Int)) (K : List Lk) (g : Nat → Nat) (xs : List Int) (w : World) (h : AuAt O A w N S K) (hO : ∀ k, w.heap.size ≤ k → O k) (hw : WordsOf xs g) (hc : Canon xs) (hN : N + 1 ≤ 512) :
    Calls Tryd.prog 51 #[.pointer (some ⟨A, 0, none⟩), ws4 g] w fun e w' => ∃ f, e = .returned (endV false f f) ∧ BitsOf f [N] ∧ AuAt O A w' (N + 1) (S ++ [xs]) K ∧ FrO O w w' := by
  obtain ⟨i0, hi0, hz0, hz1, hz2⟩ := info_parts Tryd.zinBS
  obtain ⟨j0, hj0, hy0, hy1, hy2⟩ := info_parts Tryd.zinPS
  obtain ⟨sv, fv, gs, hs, hM, hSl, hset, hfit, hbt, hzero⟩ := h
  obtain ⟨sa, sc, rfl⟩ := own_is hM.so
  obtain ⟨fa, fc, rfl⟩ := own_is hM.fo
  have HW := hide hw
  have HC := hide hc
  have HO := hide hO
  have HSET := hide hset
  have HFIT := hide hfit
  have HBT := hide hbt
  have HZ := hide hzero
  have HSL := hide hSl
  obtain ⟨W1, hW1⟩ : ∃ W1, W1 = ((w.alloc (o4 g)).alloc oE0).alloc o80 := ⟨_, rfl⟩
  have hz : W1.heap.size = w.heap.size + 3 := by rw [hW1, sz_alloc, sz_alloc, sz_alloc]
  have hb1 : Below w.heap.size w W1 := by
    rw [hW1]
    exact (below2 w _ _).trans ((below1 _ _).mono (by rw [sz_alloc, sz_alloc]; omega))
  have r4 : W1.rowIs w.heap.size 64 4 (fun j => .int .u64 (g j : Nat)) := by
    rw [hW1]
    exact ((four_row w _ g).alloc _).alloc _
  have rE : EndAt W1 (w.heap.size + 1) false z8 z8 := by
    have := end_new0 (w.alloc (o4 g))
    rw [sz_alloc] at this
    rw [hW1]
    exact World.rowIs.alloc this _
  have r8 : W1.rowIs (w.heap.size + 2) 78 8 (wd z8) := by
    have := eight_new0 ((w.alloc (o4 g)).alloc oE0)
    rw [sz_alloc, sz_alloc] at this
    rw [hW1]
    exact this
  obtain ⟨cA, -, -, -⟩ := (hM.keep (fun k _ hk => hb1.block k hk)).facts
  have HM := hide hM
  have HP := hide (put_any (w.heap.size + 2) N z8 W1 z8_fit (by omega) r8)
  have HR4 := hide r4
  have HRE := hide rE
  clear hw hc hO hset hfit hbt hzero hSl hM r4 rE r8
  rw [hW1] at cA
  unfold ws4
  have HW1 := hide hW1
  go_enter Tryd.func51, Tryd.ntmps51
  go_wp2_with fail
  rw [← unhide HW1]
  refine (unhide HP).mono ?_
  rintro e w2 ⟨rfl, hr2, hob⟩
  clear cA HW1 hW1 HP
  have hz2' : w2.heap.size = w.heap.size + 3 := hob.size.trans hz
  have hb2 : Below w.heap.size w w2 := hb1.trans ⟨hob.os, hob.tape, hob.output, by rw [hob.size]; exact Nat.le_refl _, fun k hk => hob.block k (by omega)⟩
  have hM2 := (unhide HM).skip hb2
  have hO2 : ∀ k, w2.heap.size ≤ k → Sk O w.heap.size w2.heap.size k := fun k hk => ⟨unhide HO k (by omega), Or.inr hk⟩
  have r4 := (unhide HR4).of_block (hob.block _ (by omega))
  have HRE2 := hide ((unhide HRE).on (hob.block _ (by omega)))
  have HR8 := hide hr2
  have k0 := r4.cell (i := 0) (by omega)
  have k1 := r4.cell (i := 1) (by omega)
  have k2 := r4.cell (i := 2) (by omega)
  have k3 := r4.cell (i := 3) (by omega)
  obtain ⟨a0, a1, a2, a3⟩ := hM2.facts
  have HSO := hide hM2.so
  have HM2 := hide hM2
  have HO2 := hide hO2
  have HB2 := hide hb2
  have hA0 : A < w.heap.size := (unhide HM).lt
  have HNO : Hid (∀ k, w.heap.size ≤ k → k < w.heap.size + 3 → ¬ Sk O w.heap.size w2.heap.size k) := fun k q1 q2 q => by rcases q.2 with q | q <;> omega
  have hA1 : ¬ A = w.heap.size + 1 := by omega
  have hA2 : ¬ w.heap.size + 1 = A := by omega
  have hA3 : ¬ A = w.heap.size + 1 + 1 := by omega
  have hA4 : ¬ w.heap.size + 1 + 1 = A := by omega
  have HFIN : Hid (∀ (w9 wf : World) (sv' fv' : Value), AuM (Sk O w.heap.size w2.heap.size) A w9 sv' fv' (N + 1) (N + 1) (fun i => if i = N then g else gs i) hs → FrO (Sk O w.heap.size w2.heap.size) w2 w9 → Obk (w.heap.size + 1) w9 wf → ∃ f, Ending.returned (endV false (putW z8 N) (putW z8 N)) = .returned (endV false f f) ∧ BitsOf f [N] ∧ AuAt O A wf (N + 1) (S ++ [xs]) K ∧ FrO O w wf) := fun w9 wf sv' fv' hm hf hob9 => by
    have hmf := (hm.keep (w' := wf) (fun k hk _ => hob9.block k (fun e => unhide HNO k (by omega) (by omega) hk))).mono Sk.sub
    refine ⟨_, rfl, bits_put0 N, ⟨_, _, _, _, hmf, by rw [List.length_append, unhide HSL]; rfl, fun i hi => ?_, unhide HFIT, unhide HBT, fun i hi => unhide HZ i (by omega)⟩, ?_⟩
    · (try dsimp only)
      by_cases e : i = N
      · subst e
        rw [if_pos rfl, List.getElem?_append_right (by rw [unhide HSL]; exact Nat.le_refl _), unhide HSL, Nat.sub_self]
        exact ⟨unhide HC, unhide HW⟩
      · rw [if_neg e, List.getElem?_append_left (by rw [unhide HSL]; omega)]
        exact unhide HSET i (by omega)
    · exact (fro_of hb2 (unhide HO)).trans ((hf.mono Sk.sub).trans (hob9.fro (unhide HO _ (by omega))))
  obtain ⟨b0, -, -, -⟩ := (hM2.keep (w' := w2.alloc (.cells #[.int .u64 (g 0 : Nat), .int .u64 (g 1 : Nat), .int .u64 (g 2 : Nat), .int .u64 (g 3 : Nat)] 64)) (fun k _ hk => (below1 w2 _).block k hk)).facts
  have HZ2 := hide hz2'
  clear hr2 hob hM2 hO2 r4 HR4 HRE HM hb1 hz hb2 hz2'
  have HPS : Hid (∀ (WA w7 : World) (gg cap : Nat), w7.ownsRow 0 64 4 (.slice (some ⟨gg, 0, none⟩) (N + 1) cap) (N + 1) (flatF 4 N gs ++ [wd g 0, wd g 1, wd g 2, wd g 3]) → WA.grownBy w7 (Value.slice sa N sc).ownBlock → ((Value.slice sa N sc).ownBlock = some gg ∨ gg = w2.heap.size + 1) → Pushd w2 WA (.cells #[wd g 0, wd g 1, wd g 2, wd g 3] 64) →
      AuM (Sk O w.heap.size w2.heap.size) A (w7.setCell ⟨A, 0, none⟩ (.slice (some ⟨gg, 0, none⟩) (N + 1) cap)) (.slice (some ⟨gg, 0, none⟩) (N + 1) cap) (.slice fa N fc) (N + 1) N (fun i => if i = N then g else gs i) hs ∧ FrO (Sk O w.heap.size w2.heap.size) w2 (w7.setCell ⟨A, 0, none⟩ (.slice (some ⟨gg, 0, none⟩) (N + 1) cap)) ∧ w7.frozen? ⟨A, 0, none⟩ = false ∧ w7.cell? ⟨A, 0, none⟩ = some (.slice sa N sc)) := fun WA w7 gg cap r1 r2 r3 hP => by
    obtain ⟨q1, q2, -, q3, q4⟩ := (unhide HM2).pushS (H := w2.heap.size + 1) hP.below hP.size (unhide HO2) r1 r2 r3
    exact ⟨q1, q2, q3, q4⟩
  go_wp2_with fail
  go_region_law (
    (refine step_append_lies _ rfl (.tmp 16) (.tmp 18) 76 rfl 0 64 i0 (.agg #[.int .u64 0, .int .u64 0, .int .u64 0, .int .u64 0]) 4 32 Tryd.underlying76 hi0 hz0 hz1 hz2 rfl (by decide) (.slice sa N sc) N (flatF 4 N gs) (by first | (simp [Act.eval]; done) | (simp [Act.eval, Act.put]; done)) (by refine Pushd.own (w := w2) (o := .cells #[wd g 0, wd g 1, wd g 2, wd g 3] 64) ?_ (unhide HSO); exact ⟨rfl, rfl, rfl, rfl⟩) ⟨w2.heap.size, 0, none⟩ 1 1 [wd g 0, wd g 1, wd g 2, wd g 3] (by first | (simp [Act.eval]; done) | (simp [Act.eval, Act.put]; done)) rfl (by refine Pushd.news (w := w2) (cs := #[wd g 0, wd g 1, wd g 2, wd g 3]) (t := 64) ?_; exact ⟨rfl, rfl, rfl, rfl⟩) (by intro u hu; simp only [List.mem_cons, List.not_mem_nil, or_false] at hu; rcases hu with rfl | rfl | rfl | rfl <;> rfl) (by decide) (by unfold maxLen; omega) (by omega) (Nat.zero_le _) (w2.heap.size + 1) (sz_alloc w2 _) (fun gg cap w7 r1 r2 r3 r4 => ?_); have h7 := hide (unhide HPS _ w7 gg cap r1 r2 r3 (by exact ⟨rfl, rfl, rfl, rfl⟩)); obtain ⟨-, -, z7, c7⟩ := unhide h7; clear r1 r2 r3 r4))
  all_goals
    obtain ⟨hM3, hF3, -, -⟩ := unhide h7
    clear z7 c7 h7 HPS
    generalize w7.setCell ⟨A, 0, none⟩ (.slice (some ⟨gg, 0, none⟩) (N + 1) cap) = w3 at *
    obtain ⟨-, a1, -, a3⟩ := hM3.facts
    have HFO := hide hM3.fo
    have HM3 := hide hM3
    have HF3 := hide hF3
    have hz3 := hF3.size
    clear hM3 hF3 a0 k0 k1 k2 k3 b0 HSO a2 HM2
    go_wp2_with (at_builtin; refine wpList_append_own_at _ rfl (.tmp 26) (.tmp 28) 45 rfl 0 78 j0 (.agg #[.int .u64 0, .int .u64 0, .int .u64 0, .int .u64 0, .int .u64 0, .int .u64 0, .int .u64 0, .int .u64 0]) 8 64 Tryd.underlying45 hj0 hy0 hy1 hy2 rfl (by decide) (.slice fa N fc) N (flatF 8 N hs) (by first | (simp [Act.eval]; done) | (simp [Act.eval, Act.put]; done)) (by refine Pushd.own (w := w3) (o := o80) ?_ (unhide HFO); exact ⟨rfl, rfl, rfl, rfl⟩) ⟨w3.heap.size, 0, none⟩ 1 1 [wd z8 0, wd z8 1, wd z8 2, wd z8 3, wd z8 4, wd z8 5, wd z8 6, wd z8 7] (by first | (simp [Act.eval]; done) | (simp [Act.eval, Act.put]; done)) rfl (by refine Pushd.news (w := w3) (cs := #[wd z8 0, wd z8 1, wd z8 2, wd z8 3, wd z8 4, wd z8 5, wd z8 6, wd z8 7]) (t := 78) ?_; exact ⟨rfl, rfl, rfl, rfl⟩) (by intro u hu; simp only [List.mem_cons, List.not_mem_nil, or_false] at hu; rcases hu with rfl | rfl | rfl | rfl | rfl | rfl | rfl | rfl <;> rfl) (by unfold maxLen; omega) (by omega) (Nat.zero_le _) ?_; intro fv2 w8 r1 r2 _ r3; obtain ⟨g2, cap2, rfl⟩ := own_some r1 (by omega); have h8 := hide ((unhide HM3).pushF (H := w3.heap.size + 1) (x := z8) (below1 w3 o80) (sz_alloc w3 _) (fun k hk => unhide HO2 k (by omega)) (unhide HZ N (Nat.le_refl _)) r1 r2 (r3.imp (fun e => e.symm) (fun e => by have := Option.some.inj e; exact this.trans (sz_alloc w3 _)))); obtain ⟨-, -, hF8, z8', c8⟩ := unhide h8; have HE8 := (unhide HRE2).on ((hF8.block _ (unhide HNO _ (by omega) (by omega))).trans ((unhide HF3).block _ (unhide HNO _ (by omega) (by omega)))); have HP8 := (unhide HR8).of_block ((hF8.block _ (unhide HNO _ (by omega) (by omega))).trans ((unhide HF3).block _ (unhide HNO _ (by omega) (by omega)))); have p0 := HP8.cell (i := 0) (by omega); have p1 := HP8.cell (i := 1) (by omega); have p2 := HP8.cell (i := 2) (by omega); have p3 := HP8.cell (i := 3) (by omega); have p4 := HP8.cell (i := 4) (by omega); have p5 := HP8.cell (i := 5) (by omega); have p6 := HP8.cell (i := 6) (by omega); have p7 := HP8.cell (i := 7) (by omega); have q0 := HE8.cell 0 (by omega); have q1 := HE8.cell 1 (by omega); have q2 := HE8.cell 2 (by omega); have q3 := HE8.cell 3 (by omega); have q4 := HE8.cell 4 (by omega); have q5 := HE8.cell 5 (by omega); have q6 := HE8.cell 6 (by omega); have q7 := HE8.cell 7 (by omega); have q8 := HE8.cell 8 (by omega); have q9 := HE8.cell 9 (by omega); have q10 := HE8.cell 10 (by omega); have q11 := HE8.cell 11 (by omega); have q12 := HE8.cell 12 (by omega); have q13 := HE8.cell 13 (by omega); have q14 := HE8.cell 14 (by omega); have q15 := HE8.cell 15 (by omega); have q16 := HE8.cell 16 (by omega); have y0 := World.rowIs.frozen HE8 0; have y1 := World.rowIs.frozen HE8 1; have y2 := World.rowIs.frozen HE8 2; have y3 := World.rowIs.frozen HE8 3; have y4 := World.rowIs.frozen HE8 4; have y5 := World.rowIs.frozen HE8 5; have y6 := World.rowIs.frozen HE8 6; have y7 := World.rowIs.frozen HE8 7; have y8 := World.rowIs.frozen HE8 8; have y9 := World.rowIs.frozen HE8 9; have y10 := World.rowIs.frozen HE8 10; have y11 := World.rowIs.frozen HE8 11; have y12 := World.rowIs.frozen HE8 12; have y13 := World.rowIs.frozen HE8 13; have y14 := World.rowIs.frozen HE8 14; have y15 := World.rowIs.frozen HE8 15; have y16 := World.rowIs.frozen HE8 16; unfold wd at p0 p1 p2 p3 p4 p5 p6 p7; have HEX := hide HE8; clear HE8 HP8 r1 r2 r3 hF8)
    refine bodyPost_ret (end_ret (s17_end (World.rowIs.of_block (unhide HEX) (Below.heap_setCell w8 ⟨A, 1, none⟩ _ (w.heap.size + 1) hA2)) false (putW z8 N) (putW z8 N)) rfl _ rfl) rfl ?_
    exact unhide HFIN _ _ _ _ (unhide h8).1 ((unhide HF3).trans (unhide h8).2.1) (s17_ob _ _ _ _ _)

end Go.Proofs.YtfdkdjngeomcdaaDoor
