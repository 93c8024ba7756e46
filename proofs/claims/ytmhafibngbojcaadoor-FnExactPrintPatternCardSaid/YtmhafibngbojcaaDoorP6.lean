import Derived.Test.YtmhafibngbojcaaDoorP5
import Derived.Test.YtmhafibngbojcaaDoorP1
import Derived.Test.YtmhafibngbojcaaDoorP4
namespace Go.Proofs.YtmhafibngbojcaaDoor
open Go.RowKit

/-- The state behind n bytes. -/
def stt (xs ys bs : List Int) (nc : Int) : Nat → Int
  | 0 => 0
  | n + 1 => ys[(stt xs ys bs nc n * nc + xs[(bs[n]?.getD 0).toNat]?.getD 0).toNat]?.getD 0
def trace (xs ys bs : List Int) (nc : Int) (n : Nat) : List Int := (List.range n).map (stt xs ys bs nc)
theorem trace_len (xs ys bs : List Int) (nc : Int) (n : Nat) : (trace xs ys bs nc n).length = n := by simp [trace]
theorem trace_get (xs ys bs : List Int) (nc : Int) (n i : Nat) (h : i < n) : (trace xs ys bs nc n)[i]?.getD 0 = stt xs ys bs nc i := by simp [trace, h]
theorem trace_succ (xs ys bs : List Int) (nc : Int) (n : Nat) : trace xs ys bs nc (n + 1) = trace xs ys bs nc n ++ [stt xs ys bs nc n] := by simp [trace, List.range_succ]

theorem idx_bd {s c nc S : Int} (s0 : 0 ≤ s) (s1 : s < S) (c0 : 0 ≤ c) (c1 : c < nc) (hn : nc ≤ 256) (hS : S ≤ 1024) : 0 ≤ s * nc ∧ s * nc ≤ 262144 ∧ s * nc + c < S * nc := by
  have h1 : 0 ≤ s * nc := Int.mul_nonneg s0 (by omega)
  have h2 : s * nc + nc ≤ S * nc := by
    have : (s + 1) * nc ≤ S * nc := Int.mul_le_mul_of_nonneg_right (by omega) (by omega)
    rw [Int.add_mul, Int.one_mul] at this
    exact this
  have h3 : s * nc ≤ 1024 * 256 := Int.mul_le_mul (by omega) (by omega) (by omega) (by omega)
  omega

theorem stt_bd {xs ys bs : List Int} {zs : List Bool} {nc : Int} (h : TabOk xs ys zs nc) (hb : ∀ i : Nat, 0 ≤ bs[i]?.getD 0 ∧ bs[i]?.getD 0 ≤ 255) : ∀ n : Nat, 0 ≤ stt xs ys bs nc n ∧ stt xs ys bs nc n < zs.length := by
  intro n
  induction n with
  | zero => have := h.st; simp [stt]; omega
  | succ n ih =>
    have hc := h.cls (b := (bs[n]?.getD 0).toNat) (by have := hb n; omega)
    have hi := idx_bd ih.1 ih.2 hc.1 hc.2 h.hn.2 (by have := h.st; omega)
    have hx := h.nx
    simp only [stt]
    exact h.to _ (by omega)

/-- What the run of a table answers. -/
def RunRet (e : Ending) (w w' : World) (xs ys bs : List Int) (zs : List Bool) (nc : Int) : Prop :=
  (¬ TabOk xs ys zs nc ∧ e = .returned (.tuple #[.bool false, .slice none 0 0])) ∨
  (TabOk xs ys zs nc ∧ ∃ v, e = .returned (.tuple #[.bool (zs[(stt xs ys bs nc bs.length).toNat]?.getD false), v]) ∧ SlW mI 0 w.heap.size w'.heap.size w' v (trace xs ys bs nc (bs.length + 1)))

/-- One state more. -/
theorem run_step {xs ys bs : List Int} {nc : Int} {n : Nat} {w1 wr w2 : World} {tv v' : Value} {o : Obj} {q : Nat} (hown : wr.ownsRow w1.heap.size 3 1 tv n ((trace xs ys bs nc n).map mI)) (hb : Below w1.heap.size w1 wr)
    (h1 : w2.ownsRow w1.heap.size 3 1 v' (n + 1) ((trace xs ys bs nc n).map mI ++ [.int .i64 (stt xs ys bs nc n)])) (hg : ((wr.drewN q).alloc o).grownBy w2 tv.ownBlock) :
    w2.ownsRow w1.heap.size 3 1 v' (n + 1) ((trace xs ys bs nc (n + 1)).map mI) ∧ Below w1.heap.size w1 w2 := by
  refine ⟨by rw [trace_succ, List.map_append]; exact h1, ((below_drewN hb q).alloc hb.size o).grown hg (by rw [sz_alloc]; exact Nat.le_succ_of_le hb.size) (fun k hk => (hown.lt k hk).1)⟩

end Go.Proofs.YtmhafibngbojcaaDoor

namespace Go.Proofs.YtmhafibngbojcaaDoor
open Go.RowKit

set_option maxHeartbeats 1000000 in
theorem has_w (g : Nat → Nat) (b : Nat) (w : World) (hg : Fit g) (hb : b < 256) :
    Calls Tryd.prog 63 #[ws4 g, .int .i64 b] w fun e w' => e = .returned (.bool (Bt g b)) ∧ Below w.heap.size w w' := by
  unfold ws4
  have hbt : Hid ((bits .and .u64 ((g (b / 64) : Int) / 2 ^ (b % 64)) 1 == 1) = Bt g b) := shr_bit _ _ (hg _)
  have hrow := four_row w 67 g
  have hq : b / 64 < 4 := by omega
  have c0 := hrow.cell hq
  have hq2 : (b : Int) / 64 < 4 := by omega
  have hq3 : 0 ≤ (b : Int) / 64 := by omega
  clear hrow hg
  go_enter Tryd.func63, Tryd.ntmps63
  go_wp2
  go_ret
  exact ⟨ret_bool (unhide hbt), below1 w _⟩

theorem canon_ge {xs : List Int} (h : Canon xs) : ∀ j : Nat, 2 * j < xs.length → 2 * (j : Int) ≤ xs[2 * j]?.getD 0 := by
  intro j
  induction j with
  | zero => intro hlt; have := (h.2.1 0 hlt).1; simpa using this
  | succ j ih =>
    intro hlt
    have h1 := ih (by omega)
    have h2 := (h.2.2 j (by omega)).1
    have h3 := canon_mono h j 0 (by omega)
    rw [show j + 0 + 1 = j + 1 by omega] at h3
    omega

theorem Cut.bd {xs : List Int} {m b : Nat} (hcn : Canon xs) (h : Cut xs m b) (hb : b ≤ 256) : m ≤ 129 := by
  by_cases hm : 0 < m
  · have h1 := h.lo hm
    have h2 := canon_ge hcn (m - 1) (by have := h.le; omega)
    omega
  · omega

theorem cell_2 {W : World} {N : Nat} {u v : Value} (h : W.cell? ⟨N, 0, none⟩ = some u) (h' : W.cell? ⟨N, 1, none⟩ = some v) : ∀ (j : Nat) (y : Value), [u, v][j]? = some y → W.cell? ((⟨N, 0, none⟩ : Addr).add j) = some y := by
  intro j y hj
  match j, hj with
  | 0, hj => simp at hj; subst hj; exact h
  | 1, hj => simp at hj; subst hj; exact h'

theorem own_int_slw {base lo n : Nat} {w : World} {v : Value} {xs : List Int} (h : w.ownsRow base 3 1 v n (xs.map mI)) (hlo : lo ≤ base) (hn : n ≤ maxLen) : SlW mI 0 lo w.heap.size w v xs := own_slw h hlo hn

set_option maxHeartbeats 2000000 in
set_option maxRecDepth 100000 in
theorem pairs_w (g : Nat → Nat) (xs : List Int) (w : World) (hg : WordsOf xs g) (hcn : Canon xs) :
    Calls Tryd.prog 51 #[ws4 g] w fun e w' => ∃ v, e = .returned v ∧ SlW mI 0 w.heap.size w'.heap.size w' v xs ∧ Below w.heap.size w w' := by
  unfold ws4
  obtain ⟨hfit, hbt⟩ := hg
  obtain ⟨i0, hi, hz0, hz1, hz2⟩ := info_parts Tryd.zinInt
  have Hrow := hide (four_row w 67 g)
  have Hfit := hide hfit
  have Hbt := hide hbt
  have Hcn := hide hcn
  clear hfit hbt hcn
  go_enter Tryd.func51, Tryd.ntmps51
  go_wp2
  obtain ⟨W0, hW⟩ : ∃ W0, W0 = w.alloc (.cells #[.int .u64 (g 0 : Nat), .int .u64 (g 1 : Nat), .int .u64 (g 2 : Nat), .int .u64 (g 3 : Nat)] 67) := ⟨_, rfl⟩
  have hB0 : Below w.heap.size w W0 := by rw [hW]; exact below1 w _
  have hS0 : W0.heap.size = w.heap.size + 1 := by rw [hW, sz_alloc]
  rw [← hW] at Hrow ⊢
  clear hW
  go_loopw [3, 6] (fun ov i wr => ∃ b m : Nat, b ≤ 256 ∧ i = .int .i64 b ∧ Cut xs m b ∧ wr.ownsRow W0.heap.size 3 1 ov (2 * m) ((cut xs m b).map mI) ∧ Below W0.heap.size W0 wr) (fun _ i _ => 256 - (intOf i).toNat)
  case atStart => exact ⟨0, 0, Nat.zero_le _, rfl, ⟨Nat.zero_le _, fun h => absurd h (by omega), fun h => ((unhide Hcn).2.1 0 (by omega)).1⟩, World.ownsRow_nil _ _ _ _, Below.refl _ _⟩
  case round =>
    obtain ⟨b, m, hb256, rfl, hcut, hown, hbel⟩ := hrel
    have hszr := hbel.size
    have hle := hcut.le
    have hm129 := Cut.bd (unhide Hcn) hcut hb256
    have Hcut := hide hcut
    have Hown := hide hown
    by_cases hlt : b < 256
    · have hlt' : (b : Int) < 256 := by omega
      have hrw := (unhide Hrow).of_block (hbel.block _ (by omega))
      have c0 := hrw.cell (i := 0) (by omega)
      have c1 := hrw.cell (i := 1) (by omega)
      have c2 := hrw.cell (i := 2) (by omega)
      have c3 := hrw.cell (i := 3) (by omega)
      clear hrw hown hcut
      obtain ⟨oa, oc, rfl⟩ := own_is (unhide Hown)
      go_wp2_with fail
      refine (has_w g b _ (unhide Hfit) hlt).mono ?_
      rintro e w1 ⟨rfl, hb1⟩
      have Hown1 := hide (own_keep (unhide Hown) hb1 (Nat.le_refl _))
      have hB1 : Below W0.heap.size W0 w1 := hbel.trans (hb1.mono hbel.size)
      have hsz1 := hB1.size
      clear hb1 c0 c1 c2 c3
      have hbv := unhide Hbt b
      rcases cut_step (unhide Hcn) (unhide Hcut) with ⟨q1, q2, q3⟩ | ⟨q1, q2, q3, q4, q5⟩ | ⟨q1, q2, q3, q4⟩
      · rw [q1] at hbv
        rw [hbv]
        clear hbv
        go_wp2
        go_roundw
        case rel => exact ⟨b + 1, m, by omega, by go_num, q2, by rw [q3]; exact unhide Hown1, hB1⟩
        case measure => simp [intOf]; omega
      · rw [q1] at hbv
        rw [hbv]
        clear hbv
        obtain ⟨K, hK⟩ : ∃ K, 2 * m = K + 1 := ⟨2 * m - 1, by omega⟩
        have Q4 := hide q4
        have Q5 := hide q5
        have hlen := hide (cut_len xs m b hle)
        rw [hK] at Hown1 q3 Q5 ⊢
        rw [show K + 1 - 1 = K by omega] at q3 Q5
        obtain ⟨gb, cap, ev, hcell⟩ := own_at (unhide Hown1) (by omega)
        simp only [Value.slice.injEq, true_and] at ev
        obtain ⟨rfl, rfl⟩ := ev
        have hx : w1.cell? ⟨gb, K, none⟩ = some (.int .i64 ((b : Int) - 1)) := by
          rw [hcell K (by omega), List.getElem?_map, getD_of_lt (by rw [unhide hlen]; omega), q3]; rfl
        have hf := (unhide Hown1).frozenAt K
        have hst := (unhide Hown1).stored K (.int .i64 b)
        have Hst := hide hst
        have hgb := ((unhide Hown1).lt gb rfl).1
        have hK0 : (0 : Int) < (K : Int) := by omega
        have hKc : (K : Int) < ((K + 1 : Nat) : Int) := by omega
        have y1 : (((K + 1 : Nat) : Int) - 1) = (K : Int) := by omega
        clear hcell q4 q5 hst
        go_wp2
        exact ⟨⟨b + 1, m, by omega, by go_num, unhide Q4, by rw [hK, unhide Q5, List.map_set]; exact (unhide Hst).1, bput hB1 hgb _⟩, by simp [intOf]; omega⟩
      · rw [q1] at hbv
        rw [hbv]
        clear hbv
        have Q3 := hide q3
        have Q4 := hide q4
        have hlen := hide (cut_len xs m b hle)
        clear q3 q4
        by_cases hm0 : m = 0
        · subst hm0
          go_wp2_with (at_builtin; refine wpList_append_own _ rfl _ _ 49 rfl W0.heap.size 3 i0 (.int .i64 0) 1 8 Tryd.underlying49 hi hz0 hz1 hz2 rfl (by decide) _ _ _ rfl ((unhide Hown1).alloc _) ⟨w1.heap.size, 0, none⟩ 2 2 [.int .i64 b, .int .i64 b] rfl rfl ?_ ?_ ?_ ?_ ?_ ?_)
          · exact cell_2 (by simp) (by simp)
          · intro u hu; simp at hu; subst hu; rfl
          · unfold maxLen; omega
          · omega
          · rw [sz_alloc]; omega
          intro v' w2 h5 hg5 _
          have hst := hide (show w2.ownsRow W0.heap.size 3 1 v' 2 ((cut xs 1 (b + 1)).map mI) from by rw [unhide Q4, List.map_append, hS0]; exact h5)
          have hB2 := (hB1.alloc hsz1 (.cells #[.int .i64 b, .int .i64 b] 3)).grown hg5 (by rw [sz_alloc]; omega) (fun k hk => ((unhide Hown1).lt k hk).1)
          clear h5 hg5
          go_wp2
          go_roundw
          case rel => exact ⟨b + 1, 1, by omega, by go_num, unhide Q3, unhide hst, hB2⟩
          case measure => simp [intOf]; omega
        · obtain ⟨K, hK⟩ : ∃ K, 2 * m = K + 1 := ⟨2 * m - 1, by omega⟩
          have q5 := q2 (by omega)
          clear q2
          rw [hK] at Hown1 q5 ⊢
          rw [show K + 1 - 1 = K by omega] at q5
          obtain ⟨gb, cap, ev, hcell⟩ := own_at (unhide Hown1) (by omega)
          simp only [Value.slice.injEq, true_and] at ev
          obtain ⟨rfl, rfl⟩ := ev
          have hx : w1.cell? ⟨gb, K, none⟩ = some (.int .i64 ((cut xs m b)[K]?.getD 0)) := by
            rw [hcell K (by omega), List.getElem?_map, getD_of_lt (by rw [unhide hlen]; omega)]; rfl
          have hne : ((cut xs m b)[K]?.getD 0 == (b : Int) - 1) = false := by simp [q5]
          generalize (cut xs m b)[K]?.getD 0 = z at *
          have hK0 : (0 : Int) < (K : Int) := by omega
          have y1 : (((K + 1 : Nat) : Int) - 1) = (K : Int) := by omega
          clear hcell q5
          go_wp2_with (at_builtin; refine wpList_append_own _ rfl _ _ 49 rfl W0.heap.size 3 i0 (.int .i64 0) 1 8 Tryd.underlying49 hi hz0 hz1 hz2 rfl (by decide) _ _ _ rfl ((unhide Hown1).alloc _) ⟨w1.heap.size, 0, none⟩ 2 2 [.int .i64 b, .int .i64 b] rfl rfl ?_ ?_ ?_ ?_ ?_ ?_)
          · exact cell_2 (by simp) (by simp)
          · intro u hu; simp at hu; subst hu; rfl
          · unfold maxLen; omega
          · omega
          · rw [sz_alloc]; omega
          intro v' w2 h5 hg5 _
          have hst := hide (show w2.ownsRow W0.heap.size 3 1 v' (2 * (m + 1)) ((cut xs (m + 1) (b + 1)).map mI) from by rw [unhide Q4, List.map_append, show 2 * (m + 1) = K + 1 + 2 by omega, hS0]; exact h5)
          have hB2 := (hB1.alloc hsz1 (.cells #[.int .i64 b, .int .i64 b] 3)).grown hg5 (by rw [sz_alloc]; omega) (fun k hk => ((unhide Hown1).lt k hk).1)
          clear h5 hg5
          go_wp2
          go_roundw
          case rel => exact ⟨b + 1, m + 1, by omega, by go_num, unhide Q3, unhide hst, hB2⟩
          case measure => simp [intOf]; omega
    · obtain rfl : b = 256 := by omega
      have hfin := cut_all (unhide Hcn) hcut
      rw [hfin] at Hown
      have hlen : xs.length = 2 * m := by rw [← cut_len xs m 256 hle, hfin]
      have hslw := hide (own_slw (lo := w.heap.size) (unhide Hown) (by omega) (by unfold maxLen; omega))
      clear hown hcut
      go_wp2
      go_ret
      exact ⟨_, rfl, unhide hslw, hB0.trans (hbel.mono (by omega))⟩

end Go.Proofs.YtmhafibngbojcaaDoor

namespace Go.Proofs.YtmhafibngbojcaaDoor
open Go.RowKit

/-- What an element adds to the number of trees on the stack. -/
def wt (x : El) : Int := if x.kind = 0 ∨ x.kind = 1 then 1 else if x.kind = 2 ∨ x.kind = 3 then -1 else 0
def wsum : List El → Int
  | [] => 0
  | x :: r => wt x + wsum r

theorem wsum_append (a b : List El) : wsum (a ++ b) = wsum a + wsum b := by
  induction a with
  | nil => simp [wsum]
  | cons x r ih => simp [wsum, ih]; omega

theorem wt_le (x : El) : wt x ≤ 1 := by unfold wt; split <;> (try split) <;> omega
theorem wt_ge (x : El) : -1 ≤ wt x := by unfold wt; split <;> (try split) <;> omega
theorem wsum_bd (l : List El) : -(l.length : Int) ≤ wsum l ∧ wsum l ≤ l.length := by
  induction l with
  | nil => simp [wsum]
  | cons x r ih => have := wt_le x; have := wt_ge x; simp [wsum]; omega

theorem drop_getD {xs : List El} {k : Nat} (h : k < xs.length) : xs.drop k = xs[k]?.getD dE :: xs.drop (k + 1) := by
  rw [List.drop_eq_getElem_cons h]; simp [h]

theorem wsum_drop {xs : List El} {k : Nat} (h : k < xs.length) : wsum (xs.drop k) = wt (xs[k]?.getD dE) + wsum (xs.drop (k + 1)) := by
  rw [drop_getD h]; rfl

/-- Read from behind: each place but the first still wants a tree, and in the end none is wanting. -/
def Shape (xs : List El) : Prop := wsum xs = 1 ∧ ∀ k : Nat, 0 < k → k ≤ xs.length → wsum (xs.drop k) ≤ 0

set_option maxHeartbeats 1000000 in
theorem l1shape_any (v : Value) (xs : List El) (w : World) (hv : ElsAt 0 w.heap.size w v xs) (hlen : xs.length ≤ 1048576) :
    Calls Tryd.prog 38 #[v] w fun e w' => RetB e (Shape xs) ∧ w' = w := by
  obtain ⟨a, cap, rfl, hl, hc⟩ := hv
  go_enter Tryd.func38, Tryd.ntmps38
  go_wp2
  go_loop [3, 4] (fun n i => ∃ k : Nat, k ≤ xs.length ∧ i = .int .i64 ((k : Int) - 1) ∧ n = .int .i64 (1 - wsum (xs.drop k)) ∧ wsum (xs.drop k) ≤ 1 ∧ ∀ j : Nat, k < j → j ≤ xs.length → wsum (xs.drop j) ≤ 0) (fun _ i => (intOf i + 1).toNat)
  case atStart => exact ⟨xs.length, Nat.le_refl _, rfl, by simp [wsum], by simp [wsum], fun j h1 h2 => absurd h2 (by omega)⟩
  case round =>
    obtain ⟨k, hk, rfl, rfl, hle, hin⟩ := hrel
    have Hin := hide hin
    clear hin
    cases k with
    | zero =>
      go_wp2
      go_ret
      refine ⟨RetB.of ⟨fun h => ⟨?_, fun j h1 h2 => unhide Hin j h1 h2⟩, fun h => ?_⟩, rfl⟩
      · have := beq_iff_eq.1 h; omega
      · have := h.1; exact beq_iff_eq.2 (by omega)
    | succ k =>
      obtain ⟨b, off, rfl, -, hbn, hel⟩ := hc (by omega)
      obtain ⟨i1, i2, i3, v, c0, c1, c2, c3, hints⟩ := hel k (by omega)
      have hws := wsum_drop (xs := xs) (k := k) (by omega)
      have hbd := wsum_bd (xs.drop (k + 1))
      rw [List.length_drop] at hbd
      have hkk : (k : Int) < (xs.length : Int) := by omega
      generalize hS : wsum (xs.drop (k + 1)) = s at *
      generalize xs[k]?.getD dE = x at *
      have Hws := hide hws
      have HS := hide hS
      clear hws hS hints i2 i3 c1 c2 c3
      by_cases hs : 1 - s = 0
      · go_wp2
        go_ret
        exact ⟨RetB.no (fun hsh => by have := hsh.2 (k + 1) (by omega) hk; rw [unhide HS] at this; omega), rfl⟩
      · have hs0 : s ≤ 0 := by omega
        have hnext : Hid (∀ j : Nat, k < j → j ≤ xs.length → wsum (xs.drop j) ≤ 0) := by
          intro j h1 h2
          by_cases e : j = k + 1
          · subst e; rw [unhide HS]; exact hs0
          · exact unhide Hin j (by omega) h2
        have hwt : wt x = if x.kind = 0 ∨ x.kind = 1 then 1 else if x.kind = 2 ∨ x.kind = 3 then -1 else 0 := rfl
        generalize wt x = t at *
        generalize x.kind = q at *
        have Hwt := hide hwt
        clear hwt
        have hs' : (1 - s == 0) = false := by simp; omega
        by_cases q0 : q = 0
        · subst q0
          have ht : t = 1 := unhide Hwt
          go_wp2
          go_round
          case rel => exact ⟨k, by omega, by congr 1, by have := unhide Hws; congr 1; omega, by have := unhide Hws; omega, unhide hnext⟩
          case measure => simp [intOf]
        · by_cases q1 : q = 1
          · subst q1
            have ht : t = 1 := unhide Hwt
            go_wp2
            go_round
            case rel => exact ⟨k, by omega, by congr 1, by have := unhide Hws; congr 1; omega, by have := unhide Hws; omega, unhide hnext⟩
            case measure => simp [intOf]
          · by_cases q2 : q = 2
            · subst q2
              have ht : t = -1 := unhide Hwt
              go_wp2
              go_round
              case rel => exact ⟨k, by omega, by congr 1, by have := unhide Hws; congr 1; omega, by have := unhide Hws; omega, unhide hnext⟩
              case measure => simp [intOf]
            · by_cases q3 : q = 3
              · subst q3
                have ht : t = -1 := unhide Hwt
                go_wp2
                go_round
                case rel => exact ⟨k, by omega, by congr 1, by have := unhide Hws; congr 1; omega, by have := unhide Hws; omega, unhide hnext⟩
                case measure => simp [intOf]
              · have ht : t = 0 := by rw [unhide Hwt, if_neg (by omega), if_neg (by omega)]
                have b0 : (q == 0) = false := by simp [q0]
                have b1 : (q == 1) = false := by simp [q1]
                have b2 : (q == 2) = false := by simp [q2]
                have b3 : (q == 3) = false := by simp [q3]
                go_wp2
                go_round
                case rel => exact ⟨k, by omega, by congr 1, by have := unhide Hws; congr 1; omega, by have := unhide Hws; omega, unhide hnext⟩
                case measure => simp [intOf]

end Go.Proofs.YtmhafibngbojcaaDoor

namespace Go.Proofs.YtmhafibngbojcaaDoor

def cap (n : Int) : Int := if 500 < n then 501 else n
def repSize (c mn mx : Int) : Int := if mx = -1 then (if mn < 1 then 1 else mn) * c + 1 else if mx = 0 then c else mn * c + (mx - mn) * (c + 1)

theorem cap_bd {n : Int} (h : 0 ≤ n) : 0 ≤ cap n ∧ cap n ≤ 501 := by unfold cap; split <;> omega

/-- The sizes on the stack, top first, behind one element more. -/
def szPush (st : List Int) (x : El) : List Int :=
  if x.kind = 0 ∨ x.kind = 1 then 1 :: st else
  match st with
  | [] => []
  | [o] => if x.kind = 4 then [cap (repSize o x.mn x.mx)] else [o]
  | r :: l :: b => if x.kind = 4 then cap (repSize r x.mn x.mx) :: l :: b else cap (l + r) :: b
def szRun (st : List Int) : List El → List Int
  | [] => st
  | x :: r => szRun (szPush st x) r

theorem szRun_append (st : List Int) (a b : List El) : szRun st (a ++ b) = szRun (szRun st a) b := by
  induction a generalizing st with
  | nil => rfl
  | cons x r ih => simp [szRun, ih]

/-- A tree in postfix order, of size c. -/
structure SegM (seg : List El) (c : Int) : Prop where
  ne : 0 < seg.length
  ws : wsum seg = 1
  tl : ∀ k : Nat, 0 < k → k ≤ seg.length → wsum (seg.drop k) ≤ 0
  run : ∀ st, szRun st seg = c :: st
  bd : 0 ≤ c ∧ c ≤ 501

theorem SegM.leaf {x : El} (h : x.kind = 0 ∨ x.kind = 1) : SegM [x] 1 := by
  have hw : wt x = 1 := by unfold wt; rw [if_pos h]
  refine ⟨by simp, by simp [wsum, hw], fun k h0 h1 => ?_, fun st => ?_, by omega⟩
  · simp only [List.length_singleton] at h1
    obtain rfl : k = 1 := by omega
    simp [wsum]
  · simp only [szRun, szPush]; rw [if_pos h]

theorem SegM.bin {a b : List El} {ca cb : Int} {x : El} (ha : SegM a ca) (hb : SegM b cb) (h : x.kind = 2 ∨ x.kind = 3) : SegM (a ++ b ++ [x]) (cap (ca + cb)) := by
  have hx : wt x = -1 := by unfold wt; rw [if_neg (by omega), if_pos h]
  refine ⟨by simp; omega, by simp [wsum_append, ha.ws, hb.ws, wsum, hx], fun k h0 h1 => ?_, fun st => ?_, cap_bd (by have := ha.bd; have := hb.bd; omega)⟩
  · simp only [List.length_append, List.length_singleton] at h1
    rw [List.append_assoc, List.drop_append, wsum_append]
    by_cases hk : k ≤ a.length
    · have e : k - a.length = 0 := by omega
      have := ha.tl k h0 hk
      rw [e, List.drop_zero, wsum_append, hb.ws]
      simp [wsum, hx]; omega
    · rw [List.drop_eq_nil_of_le (by omega), List.drop_append, wsum_append]
      by_cases hk2 : k - a.length ≤ b.length
      · have e : k - a.length - b.length = 0 := by omega
        have := hb.tl (k - a.length) (by omega) hk2
        rw [e, List.drop_zero]
        simp [wsum, hx]; omega
      · rw [List.drop_eq_nil_of_le (show b.length ≤ k - a.length by omega), List.drop_eq_nil_of_le (by simp; omega)]
        simp [wsum]
  · rw [szRun_append, szRun_append, ha.run, hb.run]
    simp only [szRun, szPush]
    rw [if_neg (by omega), if_neg (by omega)]

theorem SegM.rep {a : List El} {ca : Int} {x : El} (ha : SegM a ca) (h : x.kind = 4) (o2 : 0 ≤ x.mn) (o4 : x.mx = -1 ∨ (x.mn ≤ x.mx ∧ x.mx ≤ 250)) : SegM (a ++ [x]) (cap (repSize ca x.mn x.mx)) := by
  have hx : wt x = 0 := by unfold wt; rw [if_neg (by omega), if_neg (by omega)]
  have hc := ha.bd
  refine ⟨by simp, by simp [wsum_append, ha.ws, wsum, hx], fun k h0 h1 => ?_, fun st => ?_, cap_bd ?_⟩
  · simp only [List.length_append, List.length_singleton] at h1
    rw [List.drop_append, wsum_append]
    by_cases hk : k ≤ a.length
    · have e : k - a.length = 0 := by omega
      have := ha.tl k h0 hk
      rw [e, List.drop_zero]
      simp [wsum, hx]; omega
    · rw [List.drop_eq_nil_of_le (by omega), List.drop_eq_nil_of_le (by simp; omega)]
      simp [wsum]
  · rw [szRun_append, ha.run]
    cases st with
    | nil => simp only [szRun, szPush]; rw [if_neg (by omega), if_pos h]
    | cons q st => simp only [szRun, szPush]; rw [if_neg (by omega), if_pos h]
  · unfold repSize
    split
    · have : 0 ≤ (if x.mn < 1 then 1 else x.mn) * ca := Int.mul_nonneg (by split <;> omega) hc.1
      omega
    · split
      · exact hc.1
      · have h1 : 0 ≤ x.mn * ca := Int.mul_nonneg o2 hc.1
        have h2 : 0 ≤ (x.mx - x.mn) * (ca + 1) := Int.mul_nonneg (by omega) (by omega)
        omega

/-- One element more on a stack of trees with their sizes, the last tree at the end. -/
def PushR (st : List (List El × Int)) (x : El) (st' : List (List El × Int)) : Prop :=
  ((x.kind = 0 ∨ x.kind = 1) ∧ st' = st ++ [([x], 1)]) ∨
  ((x.kind = 2 ∨ x.kind = 3) ∧ ∃ b l r, st = b ++ [l, r] ∧ st' = b ++ [(l.1 ++ r.1 ++ [x], cap (l.2 + r.2))]) ∨
  (x.kind = 4 ∧ ∃ b o, st = b ++ [o] ∧ st' = b ++ [(o.1 ++ [x], cap (repSize o.2 x.mn x.mx))])

def flats (st : List (List El × Int)) : List El := (st.map (fun s => s.1)).flatten

theorem flats_one (t : List El × Int) : flats [t] = t.1 := by simp [flats]
theorem wsum_flats {st : List (List El × Int)} (h : ∀ s ∈ st, wsum s.1 = 1) : wsum (flats st) = st.length := by
  induction st with
  | nil => rfl
  | cons t r ih =>
    have e : flats (t :: r) = t.1 ++ flats r := rfl
    rw [e, wsum_append, h t (by simp), ih (fun s hs => h s (by simp [hs]))]; simp; omega

theorem PushR.flats {st st' : List (List El × Int)} {x : El} (h : PushR st x st') : flats st' = flats st ++ [x] := by
  rcases h with ⟨-, rfl⟩ | ⟨-, b, l, r, rfl, rfl⟩ | ⟨-, b, o, rfl, rfl⟩ <;> simp [YtmhafibngbojcaaDoor.flats]

theorem snoc1 {st : List (List El × Int)} (h : 1 ≤ st.length) : ∃ b o, st = b ++ [o] := by
  rcases List.eq_nil_or_concat st with rfl | ⟨b, o, rfl⟩
  · simp at h
  · exact ⟨b, o, by simp⟩
theorem snoc2 {st : List (List El × Int)} (h : 2 ≤ st.length) : ∃ b l r, st = b ++ [l, r] := by
  obtain ⟨b, r, rfl⟩ := snoc1 (st := st) (by omega)
  obtain ⟨b', l, rfl⟩ := snoc1 (st := b) (by simp at h; omega)
  exact ⟨b', l, r, by simp⟩

theorem PushR.ex {st : List (List El × Int)} {x : El} (ok : ElOk x) (h : 1 ≤ (st.length : Int) + wt x) : ∃ st', PushR st x st' := by
  rcases ok with ⟨q1, q2, q3, q4⟩ | ⟨q1 | q1, q2, q3, q4⟩ | ⟨q1, q2, q3, q4, q5⟩
  · exact ⟨_, Or.inl ⟨Or.inr q1, rfl⟩⟩
  · exact ⟨_, Or.inl ⟨Or.inl q1, rfl⟩⟩
  · obtain ⟨b, l, r, rfl⟩ := snoc2 (st := st) (by have e : wt x = -1 := by unfold wt; rw [if_neg (by omega), if_pos q1]
                                                  omega)
    exact ⟨_, Or.inr (Or.inl ⟨q1, b, l, r, rfl, rfl⟩)⟩
  · obtain ⟨b, o, rfl⟩ := snoc1 (st := st) (by have e : wt x = 0 := by unfold wt; rw [if_neg (by omega), if_neg (by omega)]
                                               omega)
    exact ⟨_, Or.inr (Or.inr ⟨q1, b, o, rfl, rfl⟩)⟩

theorem PushR.seg {st st' : List (List El × Int)} {x : El} (h : PushR st x st') (ok : ElOk x) (hs : ∀ s ∈ st, SegM s.1 s.2) : ∀ s ∈ st', SegM s.1 s.2 := by
  rcases h with ⟨hk, rfl⟩ | ⟨hk, b, l, r, rfl, rfl⟩ | ⟨hk, b, o, rfl, rfl⟩
  · intro s hm; simp only [List.mem_append, List.mem_singleton] at hm; rcases hm with hm | rfl
    · exact hs s hm
    · exact SegM.leaf hk
  · intro s hm; simp only [List.mem_append, List.mem_singleton] at hm; rcases hm with hm | rfl
    · exact hs s (by simp [hm])
    · exact SegM.bin (hs l (by simp)) (hs r (by simp)) hk
  · intro s hm; simp only [List.mem_append, List.mem_singleton] at hm; rcases hm with hm | rfl
    · exact hs s (by simp [hm])
    · rcases ok with ⟨q1, q2, q3, q4⟩ | ⟨q1, q2, q3, q4⟩ | ⟨q1, q2, q3, q4, q5⟩
      · omega
      · omega
      · exact SegM.rep (hs o (by simp)) hk q3 q5

theorem take_next {xs : List El} {k : Nat} (hk : k < xs.length) : xs.take (k + 1) = xs.take k ++ [xs[k]?.getD dE] := by
  rw [List.take_add_one, List.getElem?_eq_getElem hk]; rfl

/-- A valid tree, as the document says it. -/
def ValidT (xs : List El) : Prop :=
  (1 ≤ xs.length ∧ xs.length ≤ 3000) ∧ (∀ i : Nat, i < xs.length → ElOk (xs[i]?.getD dE)) ∧ Shape xs ∧ ∃ c, szRun [] xs = [c] ∧ c ≤ 500

end Go.Proofs.YtmhafibngbojcaaDoor

namespace Go.Proofs.YtmhafibngbojcaaDoor
open Go.RowKit

set_option maxHeartbeats 1000000 in
theorem l1start_any (v : Value) (xs : List El) (lo en : Nat) (w : World) (hv : ElsAt 0 w.heap.size w v xs) (hlen : xs.length ≤ 1048576) (hle : lo < en) (hen : en ≤ xs.length)
    (h1 : wsum ((xs.take en).drop lo) = 1) (h2 : ∀ k : Nat, lo < k → k ≤ en → wsum ((xs.take en).drop k) ≤ 0) :
    Calls Tryd.prog 26 #[v, .int .i64 (en : Int)] w fun e w' => e = .returned (.int .i64 (lo : Int)) ∧ w' = w := by
  obtain ⟨a, cap, rfl, hl, hc⟩ := hv
  have H2 := hide h2
  have H1 := hide h1
  clear h1 h2
  have hE : (xs.take en).length = en := by rw [List.length_take]; omega
  go_enter Tryd.func26, Tryd.ntmps26
  go_wp2
  go_loop [5, 6] (fun n i => ∃ k : Nat, lo ≤ k ∧ k ≤ en ∧ i = .int .i64 (k : Int) ∧ n = .int .i64 (1 - wsum ((xs.take en).drop k))) (fun _ i => (intOf i).toNat)
  case atStart => exact ⟨en, by omega, Nat.le_refl _, rfl, by rw [List.drop_eq_nil_of_le (by omega)]; rfl⟩
  case round =>
    obtain ⟨k, hk, hk2, rfl, rfl⟩ := hrel
    by_cases hgt : lo < k
    · cases k with
      | zero => omega
      | succ k =>
        obtain ⟨b, off, rfl, -, hbn, hel⟩ := hc (by omega)
        obtain ⟨i1, i2, i3, v, c0, c1, c2, c3, hints⟩ := hel k (by omega)
        have hws := wsum_drop (xs := xs.take en) (k := k) (by omega)
        have hbd := wsum_bd ((xs.take en).drop (k + 1))
        rw [List.length_drop, hE] at hbd
        rw [List.getElem?_take_of_lt (by omega)] at hws
        have hs0 := unhide H2 (k + 1) hgt hk2
        have hkk : (k : Int) < (xs.length : Int) := by omega
        clear hE
        generalize hS : wsum ((xs.take en).drop (k + 1)) = s at *
        generalize xs[k]?.getD dE = x at *
        have Hws := hide hws
        have HS := hide hS
        clear hws hS hints i2 i3 c1 c2 c3
        have hwt : wt x = if x.kind = 0 ∨ x.kind = 1 then 1 else if x.kind = 2 ∨ x.kind = 3 then -1 else 0 := rfl
        generalize wt x = t at *
        generalize x.kind = q at *
        have Hwt := hide hwt
        clear hwt
        by_cases q0 : q = 0
        · subst q0
          have ht : t = 1 := unhide Hwt
          go_wp2
          go_round
          case rel => exact ⟨k, by omega, by omega, by congr 1, by have := unhide Hws; congr 1; omega⟩
          case measure => simp [intOf]
        · by_cases q1 : q = 1
          · subst q1
            have ht : t = 1 := unhide Hwt
            go_wp2
            go_round
            case rel => exact ⟨k, by omega, by omega, by congr 1, by have := unhide Hws; congr 1; omega⟩
            case measure => simp [intOf]
          · by_cases q2 : q = 2
            · subst q2
              have ht : t = -1 := unhide Hwt
              go_wp2
              go_round
              case rel => exact ⟨k, by omega, by omega, by congr 1, by have := unhide Hws; congr 1; omega⟩
              case measure => simp [intOf]
            · by_cases q3 : q = 3
              · subst q3
                have ht : t = -1 := unhide Hwt
                go_wp2
                go_round
                case rel => exact ⟨k, by omega, by omega, by congr 1, by have := unhide Hws; congr 1; omega⟩
                case measure => simp [intOf]
              · have ht : t = 0 := by rw [unhide Hwt, if_neg (by omega), if_neg (by omega)]
                have b0 : (q == 0) = false := by simp [q0]
                have b1 : (q == 1) = false := by simp [q1]
                have b2 : (q == 2) = false := by simp [q2]
                have b3 : (q == 3) = false := by simp [q3]
                go_wp2
                go_round
                case rel => exact ⟨k, by omega, by omega, by congr 1, by have := unhide Hws; congr 1; omega⟩
                case measure => simp [intOf]
    · obtain rfl : k = lo := by omega
      rw [unhide H1]
      by_cases hk0 : 0 < k
      · have hk0' : 0 < (k : Int) := by omega
        go_wp2
        go_ret
        exact ⟨rfl, rfl⟩
      · have hk0' : ¬ 0 < (k : Int) := by omega
        go_wp2
        go_ret
        exact ⟨rfl, rfl⟩

end Go.Proofs.YtmhafibngbojcaaDoor
