import Derived.Test.YtjefklagedidmaaGreatP10
import Derived.Test.YtjefklagedidmaaGreatP2
import Derived.Test.YtjefklagedidmaaGreatP11
import Derived.Test.YtjefklagedidmaaGreatP1
import Derived.Test.YtjefklagedidmaaGreatP8
namespace Go.Proofs.YtjefklagedidmaaGreat
open Go.RowKit

/-- The greatest class of the first b bytes, -1 if there is none. -/
def top (xs : List Int) : Nat → Int
  | 0 => -1
  | b + 1 => if top xs b < xs[b]?.getD 0 then xs[b]?.getD 0 else top xs b

structure TabOk (xs ys : List Int) (zs : List Bool) (nc : Int) : Prop where
  st : 1 ≤ zs.length ∧ zs.length ≤ 1024
  hn : 1 ≤ nc ∧ nc ≤ 256
  cl : xs.length = 256
  up : ∀ b : Nat, b < 256 → 0 ≤ xs[b]?.getD 0 ∧ xs[b]?.getD 0 ≤ top xs b + 1
  tp : top xs 256 = nc - 1
  nx : (ys.length : Int) = zs.length * nc
  to : ∀ i : Nat, i < ys.length → 0 ≤ ys[i]?.getD 0 ∧ ys[i]?.getD 0 < zs.length

theorem top_bd (xs : List Int) : ∀ b : Nat, (∀ j : Nat, j < b → 0 ≤ xs[j]?.getD 0 ∧ xs[j]?.getD 0 ≤ top xs j + 1) → -1 ≤ top xs b ∧ top xs b < b := by
  intro b
  induction b with
  | zero => intro _; simp [top]
  | succ b ih =>
    intro h
    have h1 := ih (fun j hj => h j (by omega))
    have h2 := h b (by omega)
    simp only [top]
    split <;> omega

theorem top_mono (xs : List Int) (a : Nat) : ∀ b : Nat, a ≤ b → top xs a ≤ top xs b := by
  intro b
  induction b with
  | zero => intro h; obtain rfl : a = 0 := by omega
            exact Int.le_refl _
  | succ b ih =>
    intro h
    by_cases e : a = b + 1
    · subst e; exact Int.le_refl _
    · have h1 := ih (by omega)
      simp only [top]
      split <;> omega

theorem top_ge (xs : List Int) (b : Nat) : xs[b]?.getD 0 ≤ top xs (b + 1) := by simp only [top]; split <;> omega

theorem TabOk.cls {xs ys : List Int} {zs : List Bool} {nc : Int} (h : TabOk xs ys zs nc) {b : Nat} (hb : b < 256) : 0 ≤ xs[b]?.getD 0 ∧ xs[b]?.getD 0 < nc := by
  have h1 := top_ge xs b
  have h2 := top_mono xs (b + 1) 256 (by omega)
  have h3 := h.tp
  have h4 := h.up b hb
  omega

theorem w64 {n : Int} (h0 : 0 ≤ n) (h1 : n ≤ 1000000) : wrap64 n = n := by unfold wrap64; omega

end Go.Proofs.YtjefklagedidmaaGreat

namespace Go.Proofs.YtjefklagedidmaaGreat
open Go.RowKit

/-- The state behind n bytes. -/
def stt (xs ys bs : List Int) (nc : Int) : Nat → Int
  | 0 => 0
  | n + 1 => ys[(stt xs ys bs nc n * nc + xs[(bs[n]?.getD 0).toNat]?.getD 0).toNat]?.getD 0
def trace (xs ys bs : List Int) (nc : Int) (n : Nat) : List Int := (List.range n).map (stt xs ys bs nc)
theorem trace_len (xs ys bs : List Int) (nc : Int) (n : Nat) : (trace xs ys bs nc n).length = n := by simp [trace]
theorem trace_get (xs ys bs : List Int) (nc : Int) (n i : Nat) (h : i < n) : (trace xs ys bs nc n)[i]?.getD 0 = stt xs ys bs nc i := by simp [trace, h]
theorem trace_succ (xs ys bs : List Int) (nc : Int) (n : Nat) : trace xs ys bs nc (n + 1) = trace xs ys bs nc n ++ [stt xs ys bs nc n] := by simp [trace, List.range_succ]

theorem idx_bd {s c nc S : Int} (s0 : 0 ≤ s) (s1 : s < S) (c0 : 0 ≤ c) (c1 : c < nc) (hn : nc ≤ 256) (hS : S ≤ 1024) : 0 ≤ s * nc ∧ s * nc ≤ 262144 ∧ s * nc + c < S * nc := by
  have h1 : 0 ≤ s * nc := Int.mul_nonneg s0 (by omega)
  have h2 : s * nc + nc ≤ S * nc := by
    have : (s + 1) * nc ≤ S * nc := Int.mul_le_mul_of_nonneg_right (by omega) (by omega)
    rw [Int.add_mul, Int.one_mul] at this
    exact this
  have h3 : s * nc ≤ 1024 * 256 := Int.mul_le_mul (by omega) (by omega) (by omega) (by omega)
  omega

theorem stt_bd {xs ys bs : List Int} {zs : List Bool} {nc : Int} (h : TabOk xs ys zs nc) (hb : ∀ i : Nat, 0 ≤ bs[i]?.getD 0 ∧ bs[i]?.getD 0 ≤ 255) : ∀ n : Nat, 0 ≤ stt xs ys bs nc n ∧ stt xs ys bs nc n < zs.length := by
  intro n
  induction n with
  | zero => have := h.st; simp [stt]; omega
  | succ n ih =>
    have hc := h.cls (b := (bs[n]?.getD 0).toNat) (by have := hb n; omega)
    have hi := idx_bd ih.1 ih.2 hc.1 hc.2 h.hn.2 (by have := h.st; omega)
    have hx := h.nx
    simp only [stt]
    exact h.to _ (by omega)

/-- What the run of a table answers. -/
def RunRet (e : Ending) (w w' : World) (xs ys bs : List Int) (zs : List Bool) (nc : Int) : Prop :=
  (¬ TabOk xs ys zs nc ∧ e = .returned (.tuple #[.bool false, .slice none 0 0])) ∨
  (TabOk xs ys zs nc ∧ ∃ v, e = .returned (.tuple #[.bool (zs[(stt xs ys bs nc bs.length).toNat]?.getD false), v]) ∧ SlW mI 0 w.heap.size w'.heap.size w' v (trace xs ys bs nc (bs.length + 1)))

/-- One state more. -/
theorem run_step {xs ys bs : List Int} {nc : Int} {n : Nat} {w1 wr w2 : World} {tv v' : Value} {o : Obj} {q : Nat} (hown : wr.ownsRow w1.heap.size 3 1 tv n ((trace xs ys bs nc n).map mI)) (hb : Below w1.heap.size w1 wr)
    (h1 : w2.ownsRow w1.heap.size 3 1 v' (n + 1) ((trace xs ys bs nc n).map mI ++ [.int .i64 (stt xs ys bs nc n)])) (hg : ((wr.drewN q).alloc o).grownBy w2 tv.ownBlock) :
    w2.ownsRow w1.heap.size 3 1 v' (n + 1) ((trace xs ys bs nc (n + 1)).map mI) ∧ Below w1.heap.size w1 w2 := by
  refine ⟨by rw [trace_succ, List.map_append]; exact h1, ((below_drewN hb q).alloc hb.size o).grown hg (by rw [sz_alloc]; exact Nat.le_succ_of_le hb.size) (fun k hk => (hown.lt k hk).1)⟩

end Go.Proofs.YtjefklagedidmaaGreat

namespace Go.Proofs.YtjefklagedidmaaGreat
open Go.RowKit

set_option maxHeartbeats 1000000 in
theorem has_w (g : Nat → Nat) (b : Nat) (w : World) (hg : Fit g) (hb : b < 256) :
    Calls Tryz.prog 113 #[ws4 g, .int .i64 b] w fun e w' => e = .returned (.bool (Bt g b)) ∧ Below w.heap.size w w' := by
  unfold ws4
  have hbt : Hid ((bits .and .u64 ((g (b / 64) : Int) / 2 ^ (b % 64)) 1 == 1) = Bt g b) := shr_bit _ _ (hg _)
  have hrow := four_row w 98 g
  have hq : b / 64 < 4 := by omega
  have c0 := hrow.cell hq
  have hq2 : (b : Int) / 64 < 4 := by omega
  have hq3 : 0 ≤ (b : Int) / 64 := by omega
  clear hrow hg
  go_enter Tryz.func113, Tryz.ntmps113
  go_wp2
  go_ret
  exact ⟨ret_bool (unhide hbt), below1 w _⟩

theorem canon_ge {xs : List Int} (h : Canon xs) : ∀ j : Nat, 2 * j < xs.length → 2 * (j : Int) ≤ xs[2 * j]?.getD 0 := by
  intro j
  induction j with
  | zero => intro hlt; have := (h.2.1 0 hlt).1; simpa using this
  | succ j ih =>
    intro hlt
    have h1 := ih (by omega)
    have h2 := (h.2.2 j (by omega)).1
    have h3 := canon_mono h j 0 (by omega)
    rw [show j + 0 + 1 = j + 1 by omega] at h3
    omega

theorem Cut.bd {xs : List Int} {m b : Nat} (hcn : Canon xs) (h : Cut xs m b) (hb : b ≤ 256) : m ≤ 129 := by
  by_cases hm : 0 < m
  · have h1 := h.lo hm
    have h2 := canon_ge hcn (m - 1) (by have := h.le; omega)
    omega
  · omega

theorem cell_2 {W : World} {N : Nat} {u v : Value} (h : W.cell? ⟨N, 0, none⟩ = some u) (h' : W.cell? ⟨N, 1, none⟩ = some v) : ∀ (j : Nat) (y : Value), [u, v][j]? = some y → W.cell? ((⟨N, 0, none⟩ : Addr).add j) = some y := by
  intro j y hj
  match j, hj with
  | 0, hj => simp at hj; subst hj; exact h
  | 1, hj => simp at hj; subst hj; exact h'

theorem own_int_slw {base lo n : Nat} {w : World} {v : Value} {xs : List Int} (h : w.ownsRow base 3 1 v n (xs.map mI)) (hlo : lo ≤ base) (hn : n ≤ maxLen) : SlW mI 0 lo w.heap.size w v xs := own_slw h hlo hn

end Go.Proofs.YtjefklagedidmaaGreat

namespace Go.Proofs.YtjefklagedidmaaGreat
open Go.RowKit

/-- What an element adds to the number of trees on the stack. -/
def wt (x : El) : Int := if x.kind = 0 ∨ x.kind = 1 then 1 else if x.kind = 2 ∨ x.kind = 3 then -1 else 0
def wsum : List El → Int
  | [] => 0
  | x :: r => wt x + wsum r

theorem wsum_append (a b : List El) : wsum (a ++ b) = wsum a + wsum b := by
  induction a with
  | nil => simp [wsum]
  | cons x r ih => simp [wsum, ih]; omega

theorem wt_le (x : El) : wt x ≤ 1 := by unfold wt; split <;> (try split) <;> omega
theorem wt_ge (x : El) : -1 ≤ wt x := by unfold wt; split <;> (try split) <;> omega
theorem wsum_bd (l : List El) : -(l.length : Int) ≤ wsum l ∧ wsum l ≤ l.length := by
  induction l with
  | nil => simp [wsum]
  | cons x r ih => have := wt_le x; have := wt_ge x; simp [wsum]; omega

theorem drop_getD {xs : List El} {k : Nat} (h : k < xs.length) : xs.drop k = xs[k]?.getD dE :: xs.drop (k + 1) := by
  rw [List.drop_eq_getElem_cons h]; simp [h]

theorem wsum_drop {xs : List El} {k : Nat} (h : k < xs.length) : wsum (xs.drop k) = wt (xs[k]?.getD dE) + wsum (xs.drop (k + 1)) := by
  rw [drop_getD h]; rfl

/-- Read from behind: each place but the first still wants a tree, and in the end none is wanting. -/
def Shape (xs : List El) : Prop := wsum xs = 1 ∧ ∀ k : Nat, 0 < k → k ≤ xs.length → wsum (xs.drop k) ≤ 0

set_option maxHeartbeats 1000000 in
theorem l1shape_any (v : Value) (xs : List El) (w : World) (hv : ElsAt 0 w.heap.size w v xs) (hlen : xs.length ≤ 1048576) :
    Calls Tryz.prog 84 #[v] w fun e w' => RetB e (Shape xs) ∧ w' = w := by
  obtain ⟨a, cap, rfl, hl, hc⟩ := hv
  go_enter Tryz.func84, Tryz.ntmps84
  go_wp2
  go_loop [3, 4] (fun n i => ∃ k : Nat, k ≤ xs.length ∧ i = .int .i64 ((k : Int) - 1) ∧ n = .int .i64 (1 - wsum (xs.drop k)) ∧ wsum (xs.drop k) ≤ 1 ∧ ∀ j : Nat, k < j → j ≤ xs.length → wsum (xs.drop j) ≤ 0) (fun _ i => (intOf i + 1).toNat)
  case atStart => exact ⟨xs.length, Nat.le_refl _, rfl, by simp [wsum], by simp [wsum], fun j h1 h2 => absurd h2 (by omega)⟩
  case round =>
    obtain ⟨k, hk, rfl, rfl, hle, hin⟩ := hrel
    have Hin := hide hin
    clear hin
    cases k with
    | zero =>
      go_wp2
      go_ret
      refine ⟨RetB.of ⟨fun h => ⟨?_, fun j h1 h2 => unhide Hin j h1 h2⟩, fun h => ?_⟩, rfl⟩
      · have := beq_iff_eq.1 h; omega
      · have := h.1; exact beq_iff_eq.2 (by omega)
    | succ k =>
      obtain ⟨b, off, rfl, -, hbn, hel⟩ := hc (by omega)
      obtain ⟨i1, i2, i3, v, c0, c1, c2, c3, hints⟩ := hel k (by omega)
      have hws := wsum_drop (xs := xs) (k := k) (by omega)
      have hbd := wsum_bd (xs.drop (k + 1))
      rw [List.length_drop] at hbd
      have hkk : (k : Int) < (xs.length : Int) := by omega
      generalize hS : wsum (xs.drop (k + 1)) = s at *
      generalize xs[k]?.getD dE = x at *
      have Hws := hide hws
      have HS := hide hS
      clear hws hS hints i2 i3 c1 c2 c3
      by_cases hs : 1 - s = 0
      · go_wp2
        go_ret
        exact ⟨RetB.no (fun hsh => by have := hsh.2 (k + 1) (by omega) hk; rw [unhide HS] at this; omega), rfl⟩
      · have hs0 : s ≤ 0 := by omega
        have hnext : Hid (∀ j : Nat, k < j → j ≤ xs.length → wsum (xs.drop j) ≤ 0) := by
          intro j h1 h2
          by_cases e : j = k + 1
          · subst e; rw [unhide HS]; exact hs0
          · exact unhide Hin j (by omega) h2
        have hwt : wt x = if x.kind = 0 ∨ x.kind = 1 then 1 else if x.kind = 2 ∨ x.kind = 3 then -1 else 0 := rfl
        generalize wt x = t at *
        generalize x.kind = q at *
        have Hwt := hide hwt
        clear hwt
        have hs' : (1 - s == 0) = false := by simp; omega
        by_cases q0 : q = 0
        · subst q0
          have ht : t = 1 := unhide Hwt
          go_wp2
          go_round
          case rel => exact ⟨k, by omega, by congr 1, by have := unhide Hws; congr 1; omega, by have := unhide Hws; omega, unhide hnext⟩
          case measure => simp [intOf]
        · by_cases q1 : q = 1
          · subst q1
            have ht : t = 1 := unhide Hwt
            go_wp2
            go_round
            case rel => exact ⟨k, by omega, by congr 1, by have := unhide Hws; congr 1; omega, by have := unhide Hws; omega, unhide hnext⟩
            case measure => simp [intOf]
          · by_cases q2 : q = 2
            · subst q2
              have ht : t = -1 := unhide Hwt
              go_wp2
              go_round
              case rel => exact ⟨k, by omega, by congr 1, by have := unhide Hws; congr 1; omega, by have := unhide Hws; omega, unhide hnext⟩
              case measure => simp [intOf]
            · by_cases q3 : q = 3
              · subst q3
                have ht : t = -1 := unhide Hwt
                go_wp2
                go_round
                case rel => exact ⟨k, by omega, by congr 1, by have := unhide Hws; congr 1; omega, by have := unhide Hws; omega, unhide hnext⟩
                case measure => simp [intOf]
              · have ht : t = 0 := by rw [unhide Hwt, if_neg (by omega), if_neg (by omega)]
                have b0 : (q == 0) = false := by simp [q0]
                have b1 : (q == 1) = false := by simp [q1]
                have b2 : (q == 2) = false := by simp [q2]
                have b3 : (q == 3) = false := by simp [q3]
                go_wp2
                go_round
                case rel => exact ⟨k, by omega, by congr 1, by have := unhide Hws; congr 1; omega, by have := unhide Hws; omega, unhide hnext⟩
                case measure => simp [intOf]

end Go.Proofs.YtjefklagedidmaaGreat

namespace Go.Proofs.YtjefklagedidmaaGreat

def cap (n : Int) : Int := if 500 < n then 501 else n
def repSize (c mn mx : Int) : Int := if mx = -1 then (if mn < 1 then 1 else mn) * c + 1 else if mx = 0 then c else mn * c + (mx - mn) * (c + 1)

theorem cap_bd {n : Int} (h : 0 ≤ n) : 0 ≤ cap n ∧ cap n ≤ 501 := by unfold cap; split <;> omega

/-- The sizes on the stack, top first, behind one element more. -/
def szPush (st : List Int) (x : El) : List Int :=
  if x.kind = 0 ∨ x.kind = 1 then 1 :: st else
  match st with
  | [] => []
  | [o] => if x.kind = 4 then [cap (repSize o x.mn x.mx)] else [o]
  | r :: l :: b => if x.kind = 4 then cap (repSize r x.mn x.mx) :: l :: b else cap (l + r) :: b
def szRun (st : List Int) : List El → List Int
  | [] => st
  | x :: r => szRun (szPush st x) r

theorem szRun_append (st : List Int) (a b : List El) : szRun st (a ++ b) = szRun (szRun st a) b := by
  induction a generalizing st with
  | nil => rfl
  | cons x r ih => simp [szRun, ih]

/-- A tree in postfix order, of size c. -/
structure SegM (seg : List El) (c : Int) : Prop where
  ne : 0 < seg.length
  ws : wsum seg = 1
  tl : ∀ k : Nat, 0 < k → k ≤ seg.length → wsum (seg.drop k) ≤ 0
  run : ∀ st, szRun st seg = c :: st
  bd : 0 ≤ c ∧ c ≤ 501

theorem SegM.leaf {x : El} (h : x.kind = 0 ∨ x.kind = 1) : SegM [x] 1 := by
  have hw : wt x = 1 := by unfold wt; rw [if_pos h]
  refine ⟨by simp, by simp [wsum, hw], fun k h0 h1 => ?_, fun st => ?_, by omega⟩
  · simp only [List.length_singleton] at h1
    obtain rfl : k = 1 := by omega
    simp [wsum]
  · simp only [szRun, szPush]; rw [if_pos h]

theorem SegM.bin {a b : List El} {ca cb : Int} {x : El} (ha : SegM a ca) (hb : SegM b cb) (h : x.kind = 2 ∨ x.kind = 3) : SegM (a ++ b ++ [x]) (cap (ca + cb)) := by
  have hx : wt x = -1 := by unfold wt; rw [if_neg (by omega), if_pos h]
  refine ⟨by simp; omega, by simp [wsum_append, ha.ws, hb.ws, wsum, hx], fun k h0 h1 => ?_, fun st => ?_, cap_bd (by have := ha.bd; have := hb.bd; omega)⟩
  · simp only [List.length_append, List.length_singleton] at h1
    rw [List.append_assoc, List.drop_append, wsum_append]
    by_cases hk : k ≤ a.length
    · have e : k - a.length = 0 := by omega
      have := ha.tl k h0 hk
      rw [e, List.drop_zero, wsum_append, hb.ws]
      simp [wsum, hx]; omega
    · rw [List.drop_eq_nil_of_le (by omega), List.drop_append, wsum_append]
      by_cases hk2 : k - a.length ≤ b.length
      · have e : k - a.length - b.length = 0 := by omega
        have := hb.tl (k - a.length) (by omega) hk2
        rw [e, List.drop_zero]
        simp [wsum, hx]; omega
      · rw [List.drop_eq_nil_of_le (show b.length ≤ k - a.length by omega), List.drop_eq_nil_of_le (by simp; omega)]
        simp [wsum]
  · rw [szRun_append, szRun_append, ha.run, hb.run]
    simp only [szRun, szPush]
    rw [if_neg (by omega), if_neg (by omega)]

theorem SegM.rep {a : List El} {ca : Int} {x : El} (ha : SegM a ca) (h : x.kind = 4) (o2 : 0 ≤ x.mn) (o4 : x.mx = -1 ∨ (x.mn ≤ x.mx ∧ x.mx ≤ 250)) : SegM (a ++ [x]) (cap (repSize ca x.mn x.mx)) := by
  have hx : wt x = 0 := by unfold wt; rw [if_neg (by omega), if_neg (by omega)]
  have hc := ha.bd
  refine ⟨by simp, by simp [wsum_append, ha.ws, wsum, hx], fun k h0 h1 => ?_, fun st => ?_, cap_bd ?_⟩
  · simp only [List.length_append, List.length_singleton] at h1
    rw [List.drop_append, wsum_append]
    by_cases hk : k ≤ a.length
    · have e : k - a.length = 0 := by omega
      have := ha.tl k h0 hk
      rw [e, List.drop_zero]
      simp [wsum, hx]; omega
    · rw [List.drop_eq_nil_of_le (by omega), List.drop_eq_nil_of_le (by simp; omega)]
      simp [wsum]
  · rw [szRun_append, ha.run]
    cases st with
    | nil => simp only [szRun, szPush]; rw [if_neg (by omega), if_pos h]
    | cons q st => simp only [szRun, szPush]; rw [if_neg (by omega), if_pos h]
  · unfold repSize
    split
    · have : 0 ≤ (if x.mn < 1 then 1 else x.mn) * ca := Int.mul_nonneg (by split <;> omega) hc.1
      omega
    · split
      · exact hc.1
      · have h1 : 0 ≤ x.mn * ca := Int.mul_nonneg o2 hc.1
        have h2 : 0 ≤ (x.mx - x.mn) * (ca + 1) := Int.mul_nonneg (by omega) (by omega)
        omega

/-- One element more on a stack of trees with their sizes, the last tree at the end. -/
def PushR (st : List (List El × Int)) (x : El) (st' : List (List El × Int)) : Prop :=
  ((x.kind = 0 ∨ x.kind = 1) ∧ st' = st ++ [([x], 1)]) ∨
  ((x.kind = 2 ∨ x.kind = 3) ∧ ∃ b l r, st = b ++ [l, r] ∧ st' = b ++ [(l.1 ++ r.1 ++ [x], cap (l.2 + r.2))]) ∨
  (x.kind = 4 ∧ ∃ b o, st = b ++ [o] ∧ st' = b ++ [(o.1 ++ [x], cap (repSize o.2 x.mn x.mx))])

def flats (st : List (List El × Int)) : List El := (st.map (fun s => s.1)).flatten

theorem flats_one (t : List El × Int) : flats [t] = t.1 := by simp [flats]
theorem wsum_flats {st : List (List El × Int)} (h : ∀ s ∈ st, wsum s.1 = 1) : wsum (flats st) = st.length := by
  induction st with
  | nil => rfl
  | cons t r ih =>
    have e : flats (t :: r) = t.1 ++ flats r := rfl
    rw [e, wsum_append, h t (by simp), ih (fun s hs => h s (by simp [hs]))]; simp; omega

theorem PushR.flats {st st' : List (List El × Int)} {x : El} (h : PushR st x st') : flats st' = flats st ++ [x] := by
  rcases h with ⟨-, rfl⟩ | ⟨-, b, l, r, rfl, rfl⟩ | ⟨-, b, o, rfl, rfl⟩ <;> simp [YtjefklagedidmaaGreat.flats]

theorem snoc1 {st : List (List El × Int)} (h : 1 ≤ st.length) : ∃ b o, st = b ++ [o] := by
  rcases List.eq_nil_or_concat st with rfl | ⟨b, o, rfl⟩
  · simp at h
  · exact ⟨b, o, by simp⟩
theorem snoc2 {st : List (List El × Int)} (h : 2 ≤ st.length) : ∃ b l r, st = b ++ [l, r] := by
  obtain ⟨b, r, rfl⟩ := snoc1 (st := st) (by omega)
  obtain ⟨b', l, rfl⟩ := snoc1 (st := b) (by simp at h; omega)
  exact ⟨b', l, r, by simp⟩

theorem PushR.ex {st : List (List El × Int)} {x : El} (ok : ElOk x) (h : 1 ≤ (st.length : Int) + wt x) : ∃ st', PushR st x st' := by
  rcases ok with ⟨q1, q2, q3, q4⟩ | ⟨q1 | q1, q2, q3, q4⟩ | ⟨q1, q2, q3, q4, q5⟩
  · exact ⟨_, Or.inl ⟨Or.inr q1, rfl⟩⟩
  · exact ⟨_, Or.inl ⟨Or.inl q1, rfl⟩⟩
  · obtain ⟨b, l, r, rfl⟩ := snoc2 (st := st) (by have e : wt x = -1 := by unfold wt; rw [if_neg (by omega), if_pos q1]
                                                  omega)
    exact ⟨_, Or.inr (Or.inl ⟨q1, b, l, r, rfl, rfl⟩)⟩
  · obtain ⟨b, o, rfl⟩ := snoc1 (st := st) (by have e : wt x = 0 := by unfold wt; rw [if_neg (by omega), if_neg (by omega)]
                                               omega)
    exact ⟨_, Or.inr (Or.inr ⟨q1, b, o, rfl, rfl⟩)⟩

theorem PushR.seg {st st' : List (List El × Int)} {x : El} (h : PushR st x st') (ok : ElOk x) (hs : ∀ s ∈ st, SegM s.1 s.2) : ∀ s ∈ st', SegM s.1 s.2 := by
  rcases h with ⟨hk, rfl⟩ | ⟨hk, b, l, r, rfl, rfl⟩ | ⟨hk, b, o, rfl, rfl⟩
  · intro s hm; simp only [List.mem_append, List.mem_singleton] at hm; rcases hm with hm | rfl
    · exact hs s hm
    · exact SegM.leaf hk
  · intro s hm; simp only [List.mem_append, List.mem_singleton] at hm; rcases hm with hm | rfl
    · exact hs s (by simp [hm])
    · exact SegM.bin (hs l (by simp)) (hs r (by simp)) hk
  · intro s hm; simp only [List.mem_append, List.mem_singleton] at hm; rcases hm with hm | rfl
    · exact hs s (by simp [hm])
    · rcases ok with ⟨q1, q2, q3, q4⟩ | ⟨q1, q2, q3, q4⟩ | ⟨q1, q2, q3, q4, q5⟩
      · omega
      · omega
      · exact SegM.rep (hs o (by simp)) hk q3 q5

theorem take_next {xs : List El} {k : Nat} (hk : k < xs.length) : xs.take (k + 1) = xs.take k ++ [xs[k]?.getD dE] := by
  rw [List.take_add_one, List.getElem?_eq_getElem hk]; rfl

/-- A valid tree, as the document says it. -/
def ValidT (xs : List El) : Prop :=
  (1 ≤ xs.length ∧ xs.length ≤ 3000) ∧ (∀ i : Nat, i < xs.length → ElOk (xs[i]?.getD dE)) ∧ Shape xs ∧ ∃ c, szRun [] xs = [c] ∧ c ≤ 500

end Go.Proofs.YtjefklagedidmaaGreat
