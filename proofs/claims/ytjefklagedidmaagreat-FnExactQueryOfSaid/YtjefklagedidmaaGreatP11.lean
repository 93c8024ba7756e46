import Derived.Test.YtjefklagedidmaaGreatP10
import Derived.Test.YtjefklagedidmaaGreatP5
import Derived.Test.YtjefklagedidmaaGreatP4
import Derived.Maps.AppendAt
import Derived.Test.YtjefklagedidmaaGreatP9
import Derived.Test.YtjefklagedidmaaGreatP1
import Derived.Test.YtjefklagedidmaaGreatP2
namespace Go.Proofs.YtjefklagedidmaaGreat
open Go.RowKit

theorem ints_sl {lo n : Nat} {w : World} {v : Value} {xs : List Int} (h : IntsAt lo n w v xs) : SlAt mI 0 lo n w v xs := by
  obtain ⟨a, cap, rfl, hl, hr, hc⟩ := h
  exact ⟨a, cap, rfl, hl, hc⟩

/-- The part of the copy that is made. -/
def Part (N : Nat) (w : World) (xs : List El) (k : Nat) : Prop :=
  (∃ f, w.rowIs N 59 (xs.length * 4) f) ∧ ∃ (sv : Nat → Value) (sb : Nat → Nat), (∀ i : Nat, i < k → El4 w N (i * 4) (xs[i]?.getD dE) (sv i)) ∧ (∀ i : Nat, i < k → N < sb i ∧ sb i < w.heap.size) ∧
    (∀ i j : Nat, i < k → j < k → i ≠ j → sb i ≠ sb j) ∧ ∀ i : Nat, i < k → SlW mI 0 (sb i) (sb i + 1) w (sv i) (xs[i]?.getD dE).set

theorem part_step {N k : Nat} {wr w1 : World} {xs : List El} {vs : Value} (h : Part N wr xs k) (hk : k < xs.length) (hb : Below wr.heap.size wr w1) (hlt : wr.heap.size < w1.heap.size) (hN : N < wr.heap.size)
    (hv : SlW mI 0 wr.heap.size w1.heap.size w1 vs (xs[k]?.getD dE).set) (w2 : World)
    (hw : w2 = (((w1.setCell ⟨N, k * 4, none⟩ (.int .i64 (xs[k]?.getD dE).kind)).setCell ⟨N, k * 4 + 1, none⟩ vs).setCell ⟨N, k * 4 + 2, none⟩ (.int .i64 (xs[k]?.getD dE).mn)).setCell ⟨N, k * 4 + 3, none⟩ (.int .i64 (xs[k]?.getD dE).mx)) :
    Part N w2 xs (k + 1) := by
  subst hw
  obtain ⟨⟨f, hrow⟩, sv, sb, h4, h5, h6, h7⟩ := h
  have hrow1 := hrow.of_block (hb.block N hN)
  have hr := (((hrow1.set (k * 4) (.int .i64 (xs[k]?.getD dE).kind)).set (k * 4 + 1) vs).set (k * 4 + 2) (.int .i64 (xs[k]?.getD dE).mn)).set (k * 4 + 3) (.int .i64 (xs[k]?.getD dE).mx)
  obtain ⟨bk, g1, g2, g3⟩ := hv.pin hlt
  refine ⟨⟨_, hr⟩, fun i => if i = k then vs else sv i, fun i => if i = k then bk else sb i, fun i hi => ?_, fun i hi => ?_, fun i j hi hj hne => ?_, fun i hi => ?_⟩
  · by_cases e : i = k
    · subst e
      simp only [if_true]
      refine ⟨?_, ?_, ?_, ?_⟩
      · rw [hr.cell (by omega)]; simp
      · rw [hr.cell (by omega)]; simp
      · rw [hr.cell (by omega)]; simp
      · rw [hr.cell (by omega)]; simp
    · simp only [e, if_false]
      exact (((((h4 i (by omega)).same (hb.block N hN)).put (by omega)).put (by omega)).put (by omega)).put (by omega)
  · simp only [sz_put]
    by_cases e : i = k
    · simp only [e, if_true]; omega
    · simp only [e, if_false]
      have := h5 i (by omega)
      have := hb.size
      omega
  · by_cases e1 : i = k
    · by_cases e2 : j = k
      · omega
      · simp only [e1, e2, if_true, if_false]
        have := h5 j (by omega)
        omega
    · by_cases e2 : j = k
      · simp only [e1, e2, if_true, if_false]
        have := h5 i (by omega)
        omega
      · simp only [e1, e2, if_false]
        exact h6 i j (by omega) (by omega) hne
  · by_cases e : i = k
    · subst e
      simp only [if_true]
      exact g3.same (SameB.put (SameB.put (SameB.put (SameB.put (SameB.refl _ _ _) (Or.inl (by omega)) _) (Or.inl (by omega)) _) (Or.inl (by omega)) _) (Or.inl (by omega)) _)
    · simp only [e, if_false]
      have := h5 i (by omega)
      exact ((h7 i (by omega)).keep' hb (by omega)).same (SameB.put (SameB.put (SameB.put (SameB.put (SameB.refl _ _ _) (Or.inl (by omega)) _) (Or.inl (by omega)) _) (Or.inl (by omega)) _) (Or.inl (by omega)) _)

set_option maxHeartbeats 400000 in
set_option maxRecDepth 100000 in
theorem toOpS_w (v : Value) (xs : List El) (w : World) (hv : ElsAt 0 w.heap.size w v xs) (hlen : xs.length ≤ 1048576) (hset : ∀ i : Nat, (xs[i]?.getD dE).set.length ≤ 1048576) :
    Calls Tryz.prog 17 #[v] w fun e w' => ∃ v', e = .returned v' ∧ ElsW w.heap.size w'.heap.size w' v' xs ∧ Below w.heap.size w w' := by
  obtain ⟨a, cap, rfl, hl, hc⟩ := hv
  have hmk := run_make_els xs.length hlen
  go_enter Tryz.func17, Tryz.ntmps17
  go_wp2
  go_loopw [4] (fun i wr => ∃ k : Nat, k ≤ xs.length ∧ i = .int .i64 k ∧ Part w.heap.size wr xs k ∧ Below w.heap.size w wr) (fun i _ => xs.length - (intOf i).toNat)
  case atStart => exact ⟨0, Nat.zero_le _, rfl, ⟨row_start w _ _ (size_madeCells _ _), fun _ => undef, fun _ => 0, by intro i hi; omega, by intro i hi; omega, by intro i j hi; omega, by intro i hi; omega⟩, below1 w _⟩
  case round =>
    obtain ⟨k, hk, rfl, hpart, hb⟩ := hrel
    have Hpart := hide hpart
    obtain ⟨⟨f, hrow⟩, -⟩ := hpart
    by_cases hlt : k < xs.length
    · obtain ⟨b, off, rfl, -, hbn, hel⟩ := hc (by omega)
      obtain ⟨i1, i2, i3, v, c0, c1, c2, c3, hints⟩ := (hel k hlt).same (Same.of_below hb (Nat.le_refl _)) (Nat.zero_le _) hbn
      have hsk := hset k
      generalize hX : xs[k]?.getD dE = x at *
      have HX := hide hX
      have hlt' : (k : Int) < (xs.length : Int) := by omega
      have hrow' := hide hrow
      clear hmk hX hrow
      obtain ⟨a', cap', rfl, -, -, -⟩ := id hints
      go_wp2_with fail
      refine (toOp_w _ x _ (ints_sl (hints.mono (Nat.le_refl _) hb.size)) hsk).mono ?_
      rintro e w1 ⟨v', rfl, hv', hb1, hgt1⟩
      have hN := (unhide hrow').lt
      have hrow := (unhide hrow').of_block (hb1.block _ hN)
      have d0 := hrow.cell (i := k * 4) (by omega)
      have d1 := hrow.cell (i := k * 4 + 1) (by omega)
      have d2 := hrow.cell (i := k * 4 + 2) (by omega)
      have d3 := hrow.cell (i := k * 4 + 3) (by omega)
      have e0 := hrow.frozen (k * 4)
      have e1 := hrow.frozen (k * 4 + 1)
      have e2 := hrow.frozen (k * 4 + 2)
      have e3 := hrow.frozen (k * 4 + 3)
      obtain ⟨a2, cap2, rfl⟩ : ∃ a2 c2, v' = .slice a2 x.set.length c2 := by
        obtain ⟨a2, c2, e, -⟩ := hv'
        exact ⟨a2, c2, e⟩
      have Hv' := hide hv'
      have hz1 := hb1.size
      clear hrow hv'
      go_wp2
      have hst := part_step (unhide Hpart) hlt hb1 hgt1 hN (by rw [unhide HX]; exact unhide Hv') _ rfl
      rw [unhide HX] at hst
      exact ⟨⟨k + 1, by omega, by go_num, hst, bput (bput (bput (bput (hb.trans (hb1.mono hb.size)) (Nat.le_refl _) _) (Nat.le_refl _) _) (Nat.le_refl _) _) (Nat.le_refl _) _⟩, by simp [intOf]; omega⟩
    · obtain rfl : k = xs.length := by omega
      clear hmk hrow
      go_wp2
      go_ret
      obtain ⟨⟨f, hrow⟩, sv, sb, h4, h5, h6, h7⟩ := unhide Hpart
      have hN := hrow.lt
      obtain ⟨c, hcb, -⟩ := hrow
      exact ⟨_, rfl, ⟨some ⟨w.heap.size, 0, none⟩, xs.length, rfl, ⟨Nat.le_refl _, by unfold maxLen; omega⟩, fun _ => ⟨w.heap.size, 0, sv, sb, rfl, Nat.le_refl _, hN, ⟨c, 59, hcb⟩, fun i hi => by rw [Nat.zero_add]; exact h4 i hi, fun i hi => by have := h5 i hi; omega, h6, h7⟩⟩, hb⟩

/-- The marks of a list of elements, and the number behind them. -/
def endE (k : Int) : List El → Int
  | [] => k
  | x :: r => endE (k + 3 + x.set.length) r
def marksE (k : Int) : List El → List El
  | [] => []
  | x :: r => ⟨k, cnts (k + 1) x.set.length, k + 1 + x.set.length, k + 2 + x.set.length⟩ :: marksE (k + 3 + x.set.length) r
theorem marksE_len (k : Int) (xs : List El) : (marksE k xs).length = xs.length := by
  induction xs generalizing k with
  | nil => rfl
  | cons x r ih => simp [marksE, ih]
theorem marksE_get (k : Int) (xs : List El) (i : Nat) (h : i < xs.length) : (marksE k xs)[i]?.getD dE = ⟨endE k (xs.take i), cnts (endE k (xs.take i) + 1) (xs[i]?.getD dE).set.length, endE k (xs.take i) + 1 + (xs[i]?.getD dE).set.length, endE k (xs.take i) + 2 + (xs[i]?.getD dE).set.length⟩ := by
  induction xs generalizing k i with
  | nil => simp at h
  | cons x r ih =>
    cases i with
    | zero => simp [marksE, endE]
    | succ i => simp only [marksE, List.getElem?_cons_succ, List.take_succ_cons, endE]; exact ih _ i (by simpa using h)
theorem endE_step (k : Int) (xs : List El) (i : Nat) (h : i < xs.length) : endE k (xs.take (i + 1)) = endE k (xs.take i) + 3 + (xs[i]?.getD dE).set.length := by
  induction xs generalizing k i with
  | nil => simp at h
  | cons x r ih =>
    cases i with
    | zero => simp [endE]
    | succ i => simp only [List.take_succ_cons, endE, List.getElem?_cons_succ]; exact ih _ i (by simpa using h)
theorem endE_bd (k : Int) (xs : List El) : k ≤ endE k xs ∧ endE k xs = k + 3 * xs.length + bulk xs := by
  induction xs generalizing k with
  | nil => simp [endE, bulk]
  | cons x r ih => have := ih (k + 3 + x.set.length); simp only [endE, bulk, List.length_cons]; omega

end Go.Proofs.YtjefklagedidmaaGreat

namespace Go.Proofs.YtjefklagedidmaaGreat
open Go.RowKit

/-- Element i behind m marked ones. -/
def mixE (k : Int) (xs : List El) (m i : Nat) : El := if i < m then (marksE k xs)[i]?.getD dE else xs[i]?.getD dE

def Mk (lo n : Nat) (w0 w : World) (k : Int) (xs : List El) (b off : Nat) (sv : Nat → Value) (sb : Nat → Nat) (m : Nat) : Prop :=
  Unf w b ∧ (∀ i : Nat, i < xs.length → El4 w b (off + i * 4) (mixE k xs m i) (sv i)) ∧ (∀ i : Nat, i < xs.length → SlW mI 0 (sb i) (sb i + 1) w (sv i) (mixE k xs m i).set) ∧ Chg lo n w0 w

theorem El4.putK {w : World} {b o : Nat} {x : El} {sv : Value} (h : El4 w b o x sv) (k : Int) : El4 (w.setCell ⟨b, o, none⟩ (.int .i64 k)) b o ⟨k, x.set, x.mn, x.mx⟩ sv := by
  obtain ⟨h0, h1, h2, h3⟩ := h
  exact ⟨put_same h0, by rw [put_other (Or.inr (by omega))]; exact h1, by rw [put_other (Or.inr (by omega))]; exact h2, by rw [put_other (Or.inr (by omega))]; exact h3⟩
theorem El4.putM {w : World} {b o : Nat} {x : El} {sv : Value} (h : El4 w b o x sv) (k : Int) : El4 (w.setCell ⟨b, o + 2, none⟩ (.int .i64 k)) b o ⟨x.kind, x.set, k, x.mx⟩ sv := by
  obtain ⟨h0, h1, h2, h3⟩ := h
  exact ⟨by rw [put_other (Or.inr (by omega))]; exact h0, by rw [put_other (Or.inr (by omega))]; exact h1, put_same h2, by rw [put_other (Or.inr (by omega))]; exact h3⟩
theorem El4.putX {w : World} {b o : Nat} {x : El} {sv : Value} (h : El4 w b o x sv) (k : Int) : El4 (w.setCell ⟨b, o + 3, none⟩ (.int .i64 k)) b o ⟨x.kind, x.set, x.mn, k⟩ sv := by
  obtain ⟨h0, h1, h2, h3⟩ := h
  exact ⟨by rw [put_other (Or.inr (by omega))]; exact h0, by rw [put_other (Or.inr (by omega))]; exact h1, by rw [put_other (Or.inr (by omega))]; exact h2, put_same h3⟩
theorem Unf.put {w : World} {b b' o : Nat} {u : Value} (h : Unf w b) : Unf (w.setCell ⟨b', o, none⟩ u) b := by
  by_cases e : b = b'
  · subst e; exact own_put h
  · exact h.same (Below.heap_setCell _ _ _ _ (by exact e))

theorem mk_step {lo n : Nat} {w0 wr w1 : World} {k : Int} {xs : List El} {b off : Nat} {sv : Nat → Value} {sb : Nat → Nat} {m : Nat} (h : Mk lo n w0 wr k xs b off sv sb m) (hm : m < xs.length) (hlo : lo ≤ b) (hn : b < n)
    (h5 : ∀ i : Nat, i < xs.length → lo ≤ sb i ∧ sb i < n ∧ sb i ≠ b) (h6 : ∀ i j : Nat, i < xs.length → j < xs.length → i ≠ j → sb i ≠ sb j) (K : Int) (hK : K = endE k (xs.take m)) (L : Int) (hL : L = (xs[m]?.getD dE).set.length)
    (hc : Chg (sb m) (sb m + 1) (wr.setCell ⟨b, off + m * 4, none⟩ (.int .i64 K)) w1) (hs : SlW mI 0 (sb m) (sb m + 1) w1 (sv m) (cnts (K + 1) (xs[m]?.getD dE).set.length)) (w2 : World)
    (hw : w2 = (w1.setCell ⟨b, off + m * 4 + 2, none⟩ (.int .i64 (K + 1 + L))).setCell ⟨b, off + m * 4 + 3, none⟩ (.int .i64 (K + 2 + L))) : Mk lo n w0 w2 k xs b off sv sb (m + 1) := by
  subst hw
  obtain ⟨hu, h4, h7, hch⟩ := h
  have hbm := h5 m hm
  have eb : w1.heap[b]? = (wr.setCell ⟨b, off + m * 4, none⟩ (.int .i64 K)).heap[b]? := hc.block b (by omega)
  have hmark := marksE_get k xs m hm
  rw [← hK, ← hL] at hmark
  refine ⟨((hu.put.same eb).put).put, fun i hi => ?_, fun i hi => ?_, ?_⟩
  · by_cases e : i = m
    · subst e
      have q := h4 i hi
      unfold mixE at q ⊢
      rw [if_neg (by omega)] at q
      rw [if_pos (by omega), hmark]
      exact (((q.putK K).same eb).putM (K + 1 + L)).putX (K + 2 + L)
    · have q := h4 i hi
      have e2 : mixE k xs (m + 1) i = mixE k xs m i := by
        unfold mixE
        by_cases e3 : i < m
        · rw [if_pos e3, if_pos (by omega)]
        · rw [if_neg e3, if_neg (by omega)]
      rw [e2]
      exact (((q.put (by omega)).same eb).put (by omega)).put (by omega)
  · by_cases e : i = m
    · subst e
      unfold mixE
      rw [if_pos (by omega), hmark]
      exact hs.same (SameB.put (SameB.put (SameB.refl _ _ _) (by omega) _) (by omega) _)
    · have q := h7 i hi
      have e2 : mixE k xs (m + 1) i = mixE k xs m i := by
        unfold mixE
        by_cases e3 : i < m
        · rw [if_pos e3, if_pos (by omega)]
        · rw [if_neg e3, if_neg (by omega)]
      rw [e2]
      have hbi := h5 i hi
      have hne := h6 i m hi hm e
      exact q.same (SameB.put (SameB.put ((SameB.put (SameB.refl _ _ _) (by omega) _).trans (SameB.of_chg hc (by omega))) (by omega) _) (by omega) _)
  · exact (((hch.put hlo hn _).trans (hc.mono hbm.1 (by omega))).put hlo hn _).put hlo hn _

set_option maxHeartbeats 1000000 in
set_option maxRecDepth 100000 in
theorem markOpS_any (v : Value) (xs : List El) (k : Int) (lo n : Nat) (w : World) (hv : ElsW lo n w v xs) (k0 : 0 ≤ k) (k1 : k ≤ 1048576) (hlen : xs.length + bulk xs ≤ 1048576) (hset : ∀ i : Nat, (xs[i]?.getD dE).set.length ≤ 1048576) :
    Calls Tryz.prog 23 #[v, .int .i64 k] w fun e w' => e = .returned (.int .i64 (endE k xs)) ∧ ElsW lo n w' v (marksE k xs) ∧ Chg lo n w w' := by
  obtain ⟨a, cap, rfl, hl, hc⟩ := hv
  by_cases hp : 0 < xs.length
  · obtain ⟨b, off, sv, sb, rfl, h1, h2, h3, h4, h5, h6, h7⟩ := hc hp
    have hst0 : Mk lo n w w k xs b off sv sb 0 := ⟨h3, fun i hi => by unfold mixE; rw [if_neg (by omega)]; exact h4 i hi, fun i hi => by unfold mixE; rw [if_neg (by omega)]; exact h7 i hi, Chg.refl _ _ _⟩
    have Hst0 := hide hst0
    have H5 := hide h5
    have H6 := hide h6
    have Hset := hide hset
    clear hc h3 h4 h5 h6 h7 hst0 hset
    go_enter Tryz.func23, Tryz.ntmps23
    go_wp2
    go_loopw [1, 5] (fun q i wr => ∃ m : Nat, m ≤ xs.length ∧ i = .int .i64 m ∧ q = .int .i64 (endE k (xs.take m)) ∧ Mk lo n w wr k xs b off sv sb m) (fun _ i _ => xs.length - (intOf i).toNat)
    case atStart => exact ⟨0, Nat.zero_le _, rfl, by simp [endE], unhide Hst0⟩
    case round =>
      obtain ⟨m, hm, rfl, rfl, hmk⟩ := hrel
      have Hmk := hide hmk
      have hbd := endE_bd k (xs.take m)
      have hbk : bulk (xs.take m) ≤ bulk xs := by
        have hb : ∀ (l : List El) (j : Nat), bulk (l.take j) ≤ bulk l := by
          intro l
          induction l with
          | nil => intro j; simp [bulk]
          | cons x r ih => intro j; cases j with
            | zero => simp [bulk]
            | succ j => have := ih j; simp only [List.take_succ_cons, bulk]; omega
        exact hb xs m
      have hbl : (xs.take m).length ≤ m := List.length_take_le _ _
      have hK1 : 0 ≤ endE k (xs.take m) := by omega
      have hK2 : endE k (xs.take m) ≤ 4194304 := by omega
      clear hbd hbk hbl
      by_cases hlt : m < xs.length
      · obtain ⟨hu, hq4, hq7, -⟩ := hmk
        have hc4 := hq4 m hlt
        have hc7 := hq7 m hlt
        unfold mixE at hc4 hc7
        rw [if_neg (by omega)] at hc4 hc7
        obtain ⟨g0, g1, g2, g3⟩ := hc4
        have f0 := frz (j := off + m * 4) hu
        have f2 := frz (j := off + m * 4 + 2) hu
        have f3 := frz (j := off + m * 4 + 3) hu
        have hlt' : (m : Int) < (xs.length : Int) := by omega
        have hse := unhide Hset m
        have hstep := endE_step k xs m hlt
        have hxl : Hid ((xs[m]?.getD dE).set.length = (xs[m]?.getD dE).set.length) := rfl
        generalize hK : endE k (xs.take m) = K at *
        have HK := hide hK
        have Hstep := hide hstep
        have Hc7 := hide hc7
        obtain ⟨sa, sc, hsv⟩ : ∃ sa sc, sv m = .slice sa (xs[m]?.getD dE).set.length sc := by
          obtain ⟨sa, sc, e, -⟩ := hc7
          exact ⟨sa, sc, e⟩
        rw [hsv] at g1
        have Hu := hide hu
        have Hsv := hide hsv
        clear hq4 hq7 hK hstep hc7 hsv hxl hu
        generalize hX : xs[m]?.getD dE = x at *
        have HX := hide hX
        clear hX
        go_wp2_with fail
        have hbm := unhide H5 m hlt
        refine (markIntS_any _ x.set (K + 1) (sb m) (sb m + 1) _ (by rw [← unhide Hsv]; exact (unhide Hc7).same (SameB.put (SameB.refl _ _ _) (by omega) _)) (by omega) (by omega) (by omega)).mono ?_
        rintro e w1 ⟨rfl, hs1, hc1⟩
        have eb : w1.heap[b]? = (wr.setCell ⟨b, off + m * 4, none⟩ (.int .i64 K)).heap[b]? := hc1.block b (by omega)
        have r2 : w1.cell? ⟨b, off + m * 4 + 2, none⟩ = some (.int .i64 x.mn) := by rw [World.cell?_of_block (a := ⟨b, off + m * 4 + 2, none⟩) eb, put_other (Or.inr (by omega))]; exact g2
        have r3 : w1.cell? ⟨b, off + m * 4 + 3, none⟩ = some (.int .i64 x.mx) := by rw [World.cell?_of_block (a := ⟨b, off + m * 4 + 3, none⟩) eb, put_other (Or.inr (by omega))]; exact g3
        have hu1 : Unf w1 b := (unhide Hu).put.same eb
        have t2 := frz (j := off + m * 4 + 2) hu1
        have t3 := frz (j := off + m * 4 + 3) hu1
        have Hs1 := hide hs1
        have Hc1 := hide hc1
        clear hs1 hc1 eb hu1 g0 g1 g2 g3 f0 f2 f3
        go_wp2
        have hst := mk_step (unhide Hmk) hlt h1 h2 (unhide H5) (unhide H6) K (unhide HK).symm (x.set.length : Int) (by rw [unhide HX]) (unhide Hc1) (by rw [unhide HX, unhide Hsv]; exact unhide Hs1) _ rfl
        have e3 : K + 1 + (x.set.length : Int) + 1 = K + 2 + (x.set.length : Int) := by omega
        rw [e3]
        exact ⟨⟨m + 1, by omega, by go_num, by rw [unhide Hstep]; congr 1; omega, hst⟩, by simp [intOf]; omega⟩
      · obtain rfl : m = xs.length := by omega
        clear hK1 hK2
        go_wp2
        go_ret
        obtain ⟨q3, q4, q7, q8⟩ := unhide Hmk
        refine ⟨ret_int (by rw [List.take_length]), ⟨_, cap, by rw [marksE_len], by rw [marksE_len]; exact hl, fun _ => ⟨b, off, sv, sb, rfl, h1, h2, q3, fun i hi => ?_, fun i hi => unhide H5 i (by rwa [marksE_len] at hi), fun i j hi hj hne => unhide H6 i j (by rwa [marksE_len] at hi) (by rwa [marksE_len] at hj) hne, fun i hi => ?_⟩⟩, q8⟩
        · rw [marksE_len] at hi
          have := q4 i hi
          unfold mixE at this
          rwa [if_pos hi] at this
        · rw [marksE_len] at hi
          have := q7 i hi
          unfold mixE at this
          rwa [if_pos hi] at this
  · obtain rfl : xs = [] := List.eq_nil_of_length_eq_zero (by omega)
    clear hc
    go_enter Tryz.func23, Tryz.ntmps23
    go_wp2
    go_loop [1, 5] (fun q i => q = .int .i64 k ∧ i = .int .i64 0) (fun _ _ => 0)
    case atStart => exact ⟨rfl, rfl⟩
    case round =>
      obtain ⟨rfl, rfl⟩ := hrel
      go_wp2
      go_ret
      exact ⟨rfl, ⟨a, cap, rfl, hl, fun h => absurd h (by simp [marksE])⟩, Chg.refl _ _ _⟩

end Go.Proofs.YtjefklagedidmaaGreat

namespace Go.Proofs.YtjefklagedidmaaGreat
open Go.RowKit

/-- v is a slice of elements, xs, that owns its memory, in the blocks of S: the row of the elements and a row for each set, all apart. -/
def ElsF (S : Nat → Prop) (w : World) (v : Value) (xs : List El) : Prop :=
  ∃ a cap, v = .slice a xs.length cap ∧ (xs.length ≤ cap ∧ cap ≤ maxLen) ∧ (0 < xs.length → ∃ (b off : Nat) (sv : Nat → Value) (T : Nat → Nat → Prop), a = some ⟨b, off, none⟩ ∧ S b ∧ Free w b ∧
    (∀ i : Nat, i < xs.length → El4 w b (off + i * 4) (xs[i]?.getD dE) (sv i)) ∧ (∀ i : Nat, i < xs.length → SlF mI 0 (T i) w (sv i) (xs[i]?.getD dE).set) ∧
    (∀ i : Nat, i < xs.length → ∀ k, T i k → S k ∧ k ≠ b) ∧ ∀ i j : Nat, i < xs.length → j < xs.length → i ≠ j → ∀ k, T i k → ¬ T j k)

theorem ElsW.foot {lo n : Nat} {w : World} {v : Value} {xs : List El} (h : ElsW lo n w v xs) : ElsF (Rng lo n) w v xs := by
  obtain ⟨a, cap, rfl, hl, hc⟩ := h
  refine ⟨a, cap, rfl, hl, fun hp => ?_⟩
  obtain ⟨b, off, sv, sb, e, h1, h2, h3, h4, h5, h6, h7⟩ := hc hp
  exact ⟨b, off, sv, fun i => Rng (sb i) (sb i + 1), e, ⟨h1, h2⟩, h3, h4, fun i hi => (h7 i hi).foot, fun i hi k hk => by have := h5 i hi; unfold Rng at *; omega,
    fun i j hi hj hne k hk hk' => by have := h6 i j hi hj hne; unfold Rng at *; omega⟩
theorem ElsF.same {S : Nat → Prop} {w w' : World} {v : Value} {xs : List El} (h : ElsF S w v xs) (hs : ∀ k, S k → w'.heap[k]? = w.heap[k]?) : ElsF S w' v xs := by
  obtain ⟨a, cap, rfl, hl, hc⟩ := h
  refine ⟨a, cap, rfl, hl, fun hp => ?_⟩
  obtain ⟨b, off, sv, T, e, h1, h2, h3, h4, h5, h6⟩ := hc hp
  exact ⟨b, off, sv, T, e, h1, h2.same (hs b h1), fun i hi => (h3 i hi).same (hs b h1), fun i hi => (h4 i hi).same (fun k hk => hs k (h5 i hi k hk).1), h5, h6⟩
theorem ElsF.mono {S S' : Nat → Prop} {w : World} {v : Value} {xs : List El} (h : ElsF S w v xs) (hs : ∀ k, S k → S' k) : ElsF S' w v xs := by
  obtain ⟨a, cap, rfl, hl, hc⟩ := h
  refine ⟨a, cap, rfl, hl, fun hp => ?_⟩
  obtain ⟨b, off, sv, T, e, h1, h2, h3, h4, h5, h6⟩ := hc hp
  exact ⟨b, off, sv, T, e, hs b h1, h2, h3, h4, fun i hi k hk => ⟨hs k (h5 i hi k hk).1, (h5 i hi k hk).2⟩, h6⟩

/-- The numbers of an element lie within 64 bits. -/
def Num (xs : List El) : Prop := ∀ i : Nat, In64 (xs[i]?.getD dE).kind ∧ In64 (xs[i]?.getD dE).mn ∧ In64 (xs[i]?.getD dE).mx ∧ ∀ j : Nat, In64 ((xs[i]?.getD dE).set[j]?.getD 0)
theorem ElsF.at {S : Nat → Prop} {N : Nat} {w : World} {v : Value} {xs : List El} (h : ElsF S w v xs) (hs : ∀ k, S k → k < N) (hr : Num xs) : ElsAt 0 N w v xs := by
  obtain ⟨a, cap, rfl, hl, hc⟩ := h
  refine ⟨a, cap, rfl, hl, fun hp => ?_⟩
  obtain ⟨b, off, sv, T, e, h1, h2, h3, h4, h5, h6⟩ := hc hp
  refine ⟨b, off, e, Nat.zero_le _, hs b h1, fun i hi => ?_⟩
  obtain ⟨r1, r2, r3, r4⟩ := hr i
  obtain ⟨q0, q1, q2, q3⟩ := h3 i hi
  refine ⟨r1, r2, r3, sv i, q0, q1, q2, q3, ?_⟩
  obtain ⟨a', cap', e', hl', hc'⟩ := (h4 i hi).at (N := N) (fun k hk => hs k (h5 i hi k hk).1)
  refine ⟨a', cap', e', hl', r4, fun hp' => ?_⟩
  obtain ⟨b', off', e2, k1, k2, k4⟩ := hc' hp'
  exact ⟨b', off', e2, k1, k2, k4⟩

/-- An element, the value of its set, and the blocks of that. -/
structure Pc where
  x : El
  s : Value
  T : Nat → Prop
def cell4 (x : El) (s : Value) : List Value := [.int .i64 x.kind, s, .int .i64 x.mn, .int .i64 x.mx]
def cellsP : List Pc → List Value
  | [] => []
  | p :: r => cell4 p.x p.s ++ cellsP r
theorem cellsP_append (a b : List Pc) : cellsP (a ++ b) = cellsP a ++ cellsP b := by
  induction a with
  | nil => rfl
  | cons p r ih => simp [cellsP, ih]
theorem cellsP_len (a : List Pc) : (cellsP a).length = a.length * 4 := by
  induction a with
  | nil => rfl
  | cons p r ih => simp [cellsP, ih, cell4]; omega
theorem cellsP_get (a : List Pc) (i : Nat) (p : Pc) (h : a[i]? = some p) (j : Nat) (hj : j < 4) : (cellsP a)[i * 4 + j]? = (cell4 p.x p.s)[j]? := by
  induction a generalizing i with
  | nil => simp at h
  | cons q r ih =>
    cases i with
    | zero =>
      simp at h
      subst h
      rw [cellsP, List.getElem?_append_left (by simp [cell4]; omega)]
      simp
    | succ i =>
      rw [cellsP, List.getElem?_append_right (by simp [cell4]; omega), show (i + 1) * 4 + j - (cell4 q.x q.s).length = i * 4 + j by simp [cell4]; omega]
      exact ih i (by simpa using h)
theorem cellsP_one (a : List Pc) (hs : ∀ p ∈ a, p.s.oneCell' = true) : ∀ u ∈ cellsP a, u.oneCell' = true := by
  induction a with
  | nil => intro u hu; simp [cellsP] at hu
  | cons p r ih =>
    intro u hu
    simp only [cellsP, cell4, List.mem_append, List.mem_cons, List.not_mem_nil, or_false] at hu
    rcases hu with (rfl | rfl | rfl | rfl) | hu
    · rfl
    · exact hs p (by simp)
    · rfl
    · rfl
    · exact ih (fun q hq => hs q (by simp [hq])) u hu

def Apart (ps : List Pc) : Prop := ps.Pairwise (fun p q => ∀ k, p.T k → ¬ q.T k)
/-- v is a slice of its own, from block base on, of these elements. -/
structure GrowP (base : Nat) (w : World) (v : Value) (ps : List Pc) : Prop where
  own : w.ownsRow base 59 4 v ps.length (cellsP ps)
  set : ∀ p ∈ ps, SlF mI 0 p.T w p.s p.x.set
  blk : ∀ p ∈ ps, ∀ k, p.T k → base ≤ k ∧ k < w.heap.size ∧ v.ownBlock ≠ some k
  dis : Apart ps
def GrowE (base : Nat) (w : World) (v : Value) (xs : List El) : Prop := ∃ ps : List Pc, ps.map Pc.x = xs ∧ GrowP base w v ps

theorem GrowE.nil (base : Nat) (w : World) : GrowE base w (.slice none 0 0) [] := ⟨[], rfl, World.ownsRow_nil _ _ _ _, by simp, by simp, List.Pairwise.nil⟩
theorem GrowP.keep {base m : Nat} {w w' : World} {v : Value} {ps : List Pc} (h : GrowP base w v ps) (hb : Below m w w') (hm : w.heap.size ≤ m) : GrowP base w' v ps :=
  ⟨h.own.kept (show w.grownBy w' none from ⟨hb.os, hb.tape, hb.output, hb.size, fun k hk _ => hb.block k (by omega)⟩) (by cases v.ownBlock <;> simp),
   fun p hp => (h.set p hp).same (fun k hk => hb.block k (by have := (h.blk p hp k hk).2.1; omega)), fun p hp k hk => by have h1 := h.blk p hp k hk; have h2 := hb.size; exact ⟨h1.1, by omega, h1.2.2⟩, h.dis⟩
theorem GrowE.keep {base m : Nat} {w w' : World} {v : Value} {xs : List El} (h : GrowE base w v xs) (hb : Below m w w') (hm : w.heap.size ≤ m) : GrowE base w' v xs := by
  obtain ⟨ps, e, h1⟩ := h
  exact ⟨ps, e, h1.keep hb hm⟩

/-- What an append of further elements leaves. -/
theorem GrowP.app {base : Nat} {w0 w w' : World} {v v' : Value} {ps qs : List Pc} (h : GrowP base w0 v ps) (hbase : base ≤ w0.heap.size) (hb : Below w0.heap.size w0 w) (hq : ∀ p ∈ qs, SlF mI 0 p.T w p.s p.x.set) (hT : ∀ p ∈ qs, ∀ k, p.T k → w0.heap.size ≤ k ∧ k < w.heap.size) (hd : Apart qs)
    (h1 : w'.ownsRow base 59 4 v' (ps.length + qs.length) (cellsP ps ++ cellsP qs)) (hg : w.grownBy w' v.ownBlock) (ho : v'.ownBlock = v.ownBlock ∨ v'.ownBlock = some w.heap.size) : GrowP base w' v' (ps ++ qs) := by
  have hs := hb.size
  have hgz : w.heap.size ≤ w'.heap.size := hg.size
  have hvb : ∀ k, w0.heap.size ≤ k → v.ownBlock ≠ some k := fun k hk e => by have := (h.own.lt k e).2; omega
  have hv'b : ∀ k, k < w.heap.size → v.ownBlock ≠ some k → v'.ownBlock ≠ some k := fun k hk hne e => by
    rcases ho with ho | ho
    · exact hne (by rw [← ho, e])
    · rw [ho] at e; simp at e; omega
  have hblk : ∀ k, k < w.heap.size → v.ownBlock ≠ some k → w'.heap[k]? = w.heap[k]? := fun k hk hne => hg.block k hk (fun e => hne e.symm)
  refine ⟨by rw [List.length_append, cellsP_append]; exact h1, fun p hp => ?_, fun p hp k hk => ?_, List.pairwise_append.2 ⟨h.dis, hd, fun p hp q hq2 k hk hk' => ?_⟩⟩
  · rcases List.mem_append.1 hp with hp | hp
    · refine ((h.set p hp).same (w' := w) (fun k hk => hb.block k (h.blk p hp k hk).2.1)).same (fun k hk => ?_)
      have := h.blk p hp k hk
      exact hblk k (by omega) this.2.2
    · exact (hq p hp).same (fun k hk => hblk k (hT p hp k hk).2 (hvb k (hT p hp k hk).1))
  · rcases List.mem_append.1 hp with hp | hp
    · have := h.blk p hp k hk
      exact ⟨this.1, by omega, hv'b k (by omega) this.2.2⟩
    · have := hT p hp k hk
      exact ⟨by omega, by omega, hv'b k this.2 (hvb k this.1)⟩
  · have h3 := h.blk p hp k hk
    have h4 := hT q hq2 k hk'
    omega

theorem GrowP.foot {base : Nat} {w : World} {v : Value} {ps : List Pc} (h : GrowP base w v ps) : ElsF (Rng base w.heap.size) w v (ps.map Pc.x) := by
  rcases h.own.2 with ⟨rfl, hz⟩ | ⟨g, cap, cur, rfl, hbg, hgc, hnc, hcm, hcs, htake⟩
  · obtain rfl : ps = [] := List.eq_nil_of_length_eq_zero hz
    exact ⟨none, 0, rfl, ⟨Nat.le_refl _, by unfold maxLen; omega⟩, fun hp => absurd hp (by simp)⟩
  · have hlt := (h.own.lt g rfl).2
    refine ⟨_, cap, by simp, ⟨by simpa using hnc, hcm⟩, fun _ => ⟨g, 0, fun i => (ps[i]?.map Pc.s).getD undef, fun i k => ∃ p, ps[i]? = some p ∧ p.T k, rfl, ⟨hbg, hlt⟩, ⟨cur, _, hgc⟩, fun i hi => ?_, fun i hi => ?_, fun i hi k hk => ?_, fun i j hi hj hne k hk hk' => ?_⟩⟩
    · rw [List.length_map] at hi
      have hp : ps[i]? = some ps[i] := List.getElem?_eq_getElem hi
      have e : (ps.map Pc.x)[i]?.getD dE = ps[i].x := by rw [List.getElem?_map, hp]; rfl
      simp only [hp, Option.map_some, Option.getD_some, e, Nat.zero_add]
      have hc : ∀ j, j < 4 → w.cell? ⟨g, i * 4 + j, none⟩ = (cell4 ps[i].x ps[i].s)[j]? := fun j hj => by
        rw [h.own.cellAt (i * 4 + j) (by omega)]; exact cellsP_get ps i _ hp j hj
      exact ⟨hc 0 (by omega), hc 1 (by omega), hc 2 (by omega), hc 3 (by omega)⟩
    · rw [List.length_map] at hi
      have hp : ps[i]? = some ps[i] := List.getElem?_eq_getElem hi
      have e : (ps.map Pc.x)[i]?.getD dE = ps[i].x := by rw [List.getElem?_map, hp]; rfl
      simp only [hp, Option.map_some, Option.getD_some, e]
      exact (h.set _ (List.getElem_mem hi)).mono (fun k hk => ⟨_, rfl, hk⟩)
    · obtain ⟨p, hp, hk⟩ := hk
      have hm := List.mem_of_getElem? hp
      have := h.blk p hm k hk
      exact ⟨⟨this.1, this.2.1⟩, fun e => this.2.2 (by rw [e]; rfl)⟩
    · obtain ⟨p, hp, hk⟩ := hk
      obtain ⟨q, hq, hk'⟩ := hk'
      rw [List.length_map] at hi hj
      rw [List.getElem?_eq_getElem hi] at hp
      rw [List.getElem?_eq_getElem hj] at hq
      simp only [Option.some.injEq] at hp hq
      subst hp hq
      rcases Nat.lt_or_gt_of_ne hne with hlt | hgt
      · exact List.pairwise_iff_getElem.1 h.dis i j hi hj hlt k hk hk'
      · exact List.pairwise_iff_getElem.1 h.dis j i hj hi hgt k hk' hk
theorem GrowE.foot {base : Nat} {w : World} {v : Value} {xs : List El} (h : GrowE base w v xs) : ElsF (Rng base w.heap.size) w v xs := by
  obtain ⟨ps, rfl, h1⟩ := h
  exact h1.foot
theorem GrowE.base {base base' : Nat} {w : World} {v : Value} {xs : List El} (h : GrowE base w v xs) (hb : base' ≤ base) : GrowE base' w v xs := by
  obtain ⟨ps, e, h1⟩ := h
  refine ⟨ps, e, ⟨h1.own.1, h1.own.2.imp id (fun ⟨g, cap, cur, q1, q2, q3⟩ => ⟨g, cap, cur, q1, by omega, q3⟩)⟩, h1.set, fun p hp k hk => ⟨by have := (h1.blk p hp k hk).1; omega, (h1.blk p hp k hk).2⟩, h1.dis⟩
theorem GrowE.form {base : Nat} {w : World} {v : Value} {xs : List El} (h : GrowE base w v xs) : ∃ a c, v = .slice a xs.length c := by
  obtain ⟨ps, rfl, h1⟩ := h
  rcases h1.own.2 with ⟨rfl, hz⟩ | ⟨g, cap, cur, rfl, -⟩
  · exact ⟨none, 0, by rw [List.length_map, hz]⟩
  · exact ⟨_, cap, by rw [List.length_map]⟩

end Go.Proofs.YtjefklagedidmaaGreat

namespace Go.Proofs.YtjefklagedidmaaGreat
open Go.RowKit

/-- Is the byte in one of the first m ranges? -/
def InP (xs : List Int) : Nat → Nat → Bool
  | 0, _ => false
  | m + 1, b => InP xs m b || decide (xs[2 * m]?.getD 0 ≤ (b : Int) ∧ (b : Int) ≤ xs[2 * m + 1]?.getD 0)

/-- The words of the set of these ranges. -/
def WordsOf (xs : List Int) (g : Nat → Nat) : Prop := Fit g ∧ ∀ b : Nat, Bt g b = InP xs (xs.length / 2) b

theorem words_put {w1 : World} {N : Nat} {t : TypeId} {g : Nat → Nat} (h : w1.rowIs N t 4 (fun j => .int .u64 (g j : Nat))) (q : Nat → Nat) :
    ((((w1.setCell ⟨N, 0, none⟩ (.int .u64 (q 0 : Nat))).setCell ⟨N, 1, none⟩ (.int .u64 (q 1 : Nat))).setCell ⟨N, 2, none⟩ (.int .u64 (q 2 : Nat))).setCell ⟨N, 3, none⟩ (.int .u64 (q 3 : Nat))).rowIs N t 4 (fun j => .int .u64 (q j : Nat)) := by
  refine ((((h.set 0 _).set 1 _).set 2 _).set 3 _).congr ?_
  intro j hj
  match j, hj with
  | 0, _ => rfl
  | 1, _ => rfl
  | 2, _ => rfl
  | 3, _ => rfl

set_option maxHeartbeats 2000000 in
theorem setOf_w (v : Value) (xs : List Int) (w : World) (hv : IntsAt 0 w.heap.size w v xs) (hcn : Canon xs) :
    Calls Tryz.prog 89 #[v] w fun e w' => ∃ g : Nat → Nat, e = .returned (ws4 g) ∧ WordsOf xs g ∧ Below w.heap.size w w' := by
  obtain ⟨a, cap, rfl, hl, hr, hc⟩ := hv
  unfold maxLen at hl
  have Hcn := hide hcn
  clear hcn hr
  go_enter Tryz.func89, Tryz.ntmps89
  go_wp2
  go_loopw [4] (fun i wr => ∃ p : Nat, p ≤ xs.length ∧ p % 2 = 0 ∧ i = .int .i64 p ∧ (∃ g : Nat → Value, wr.rowIs w.heap.size 98 4 g) ∧ (∃ g : Nat → Nat, wr.rowIs (w.heap.size + 1) 98 4 (fun j => .int .u64 (g j : Nat)) ∧ Fit g ∧ ∀ b : Nat, Bt g b = InP xs (p / 2) b) ∧ Below w.heap.size w wr) (fun i _ => xs.length - (intOf i).toNat)
  case atStart =>
    refine ⟨0, Nat.zero_le _, rfl, rfl, ⟨_, (zero_row w 98).alloc _⟩, ⟨fun _ => 0, ?_, fun j => by show 0 < 18446744073709551616; omega, fun b => ?_⟩, below2 w _ _⟩
    · have h := zero_row (w.alloc (.cells #[.int .u64 0, .int .u64 0, .int .u64 0, .int .u64 0] 98)) 98
      rw [sz_alloc] at h; exact h
    · simp [Bt, InP]
  case round =>
    obtain ⟨p, hm, hp2, rfl, ⟨g2, hrow2⟩, ⟨g, hrow, hfit, hbt⟩, hb⟩ := hrel
    have hev := (unhide Hcn).1
    by_cases hlt2 : p < xs.length
    · obtain ⟨b, off, rfl, -, hbn, hcell⟩ := hc (by omega)
      have hx : wr.cell? ⟨b, off + p, none⟩ = some (.int .i64 (xs[p]?.getD 0)) := by rw [hb.cell (p := ⟨b, off + p, none⟩) hbn]; exact hcell _ hlt2
      have hy : wr.cell? ⟨b, off + (p + 1), none⟩ = some (.int .i64 (xs[p + 1]?.getD 0)) := by rw [hb.cell (p := ⟨b, off + (p + 1), none⟩) hbn]; exact hcell _ (by omega)
      have hlt2' : (p : Int) < (xs.length : Int) := by omega
      have hlt3' : (p : Int) + 1 < (xs.length : Int) := by omega
      have bx := ((unhide Hcn).2.1 (p) hlt2).1
      have byy := ((unhide Hcn).2.1 (p + 1) (by omega)).2
      have bxy : xs[p]?.getD 0 ≤ xs[p + 1]?.getD 0 := by
        have := ((unhide Hcn).2.2 (p / 2) (by omega)).1
        rwa [show 2 * (p / 2) = p by omega] at this
      have Hstep : Hid (∀ c : Nat, InP xs ((p + 2) / 2) c = (InP xs (p / 2) c || decide (xs[p]?.getD 0 ≤ (c : Int) ∧ (c : Int) ≤ xs[p + 1]?.getD 0))) := fun c => by
        rw [show (p + 2) / 2 = p / 2 + 1 by omega]
        simp only [InP]
        rw [show 2 * (p / 2) = p by omega]
      have Hbt := hide hbt
      have Hfit := hide hfit
      generalize xs[p]?.getD 0 = x at *
      generalize xs[p + 1]?.getD 0 = y at *
      have c0 := hrow.cell (i := 0) (by omega)
      have c1 := hrow.cell (i := 1) (by omega)
      have c2 := hrow.cell (i := 2) (by omega)
      have c3 := hrow.cell (i := 3) (by omega)
      have hN := hrow.lt
      have f0 := hrow.frozen 0
      have f1 := hrow.frozen 1
      have f2 := hrow.frozen 2
      have f3 := hrow.frozen 3
      have hrow' := hide hrow
      have hrow2' := hide hrow2
      clear hrow hrow2 hcell hbt hfit hc
      go_wp2
      have hw2 : IntKind.i64.wrap ((p : Int) + 1) = (p : Int) + 1 := by rw [IntKind.wrap_i64]; omega
      have hw1 : wrap64 ((p : Int) + 1) = (p : Int) + 1 := by unfold wrap64; omega
      go_region_with (go_at_call 110; refine (with_w g x y _ (unhide Hfit) bx byy bxy).mono ?_; rintro e w1 ⟨g', rfl, hg1, hg2, hb1⟩; unfold ws4; have hb2 : Below wr.heap.size wr w1 := ⟨hb1.os, hb1.tape, hb1.output, hb1.size, hb1.block⟩; have Hg1 := hide hg1; have Hg2 := hide hg2; clear hb1 hg1 hg2; have hc1 := (bcell hb2).1; have hf1 := (bcell hb2).2)
      all_goals
        clear hc1 hf1 c0 c1 c2 c3 f0 f1 f2 f3 hx hy
        go_wp2
        have hr1 := (unhide hrow').of_block (hb2.block _ hN)
        have hr2 := (unhide hrow2').of_block (hb2.block _ (unhide hrow2').lt)
        refine ⟨⟨p + 2, by omega, by omega, by go_num, ⟨g2, ?_⟩, ⟨g', words_put hr1 g', unhide Hg1, fun c => ?_⟩, ?_⟩, by simp [intOf]; omega⟩
        · exact (((hr2.setOther (by show w.heap.size ≠ w.heap.size + 1; omega) _).setOther (by show w.heap.size ≠ w.heap.size + 1; omega) _).setOther (by show w.heap.size ≠ w.heap.size + 1; omega) _).setOther (by show w.heap.size ≠ w.heap.size + 1; omega) _
        · rw [unhide Hg2 c, unhide Hstep c, unhide Hbt c]
        · exact bput (bput (bput (bput (hb.trans (hb2.mono hb.size)) (by omega) _) (by omega) _) (by omega) _) (by omega) _
    · have c0 := hrow.cell (i := 0) (by omega)
      have c1 := hrow.cell (i := 1) (by omega)
      have c2 := hrow.cell (i := 2) (by omega)
      have c3 := hrow.cell (i := 3) (by omega)
      have d0 := hrow2.cell (i := 0) (by omega)
      have d1 := hrow2.cell (i := 1) (by omega)
      have d2 := hrow2.cell (i := 2) (by omega)
      have d3 := hrow2.cell (i := 3) (by omega)
      have f0 := hrow2.frozen 0
      have f1 := hrow2.frozen 1
      have f2 := hrow2.frozen 2
      have f3 := hrow2.frozen 3
      obtain rfl : p = xs.length := by omega
      have Hbt := hide hbt
      have Hfit := hide hfit
      clear hrow hrow2 hbt hfit hc
      go_wp2
      refine bodyPost_ret (v := .agg #[.int .u64 (g 0 : Nat), .int .u64 (g 1 : Nat), .int .u64 (g 2 : Nat), .int .u64 (g 3 : Nat)]) (by simp [results, Tryz.results89, go_sem, d0, d1, d2, d3]) rfl ⟨g, rfl, ⟨unhide Hfit, unhide Hbt⟩, ?_⟩
      exact bput (bput (bput (bput hb (by omega) _) (by omega) _) (by omega) _) (by omega) _

end Go.Proofs.YtjefklagedidmaaGreat

namespace Go.Proofs.YtjefklagedidmaaGreat
open Go.RowKit

theorem inP_iff (xs : List Int) (k b : Nat) : InP xs k b = true ↔ ∃ j : Nat, j < k ∧ xs[2 * j]?.getD 0 ≤ (b : Int) ∧ (b : Int) ≤ xs[2 * j + 1]?.getD 0 := by
  induction k with
  | zero => simp [InP]
  | succ k ih =>
    simp only [InP, Bool.or_eq_true, decide_eq_true_eq, ih]
    constructor
    · rintro (⟨j, h1, h2⟩ | h)
      · exact ⟨j, by omega, h2⟩
      · exact ⟨k, by omega, h⟩
    · rintro ⟨j, h1, h2⟩
      by_cases e : j = k
      · subst e; exact Or.inr h2
      · exact Or.inl ⟨j, by omega, h2⟩

theorem canon_mono {xs : List Int} (h : Canon xs) (j : Nat) : ∀ d : Nat, 2 * (j + d + 1) < xs.length → xs[2 * j + 1]?.getD 0 + 2 ≤ xs[2 * (j + d + 1)]?.getD 0 := by
  intro d
  induction d with
  | zero =>
    intro hlt
    have h1 := (h.2.2 (j + 1) (by omega)).2 (by omega)
    rw [show 2 * (j + 1) - 1 = 2 * j + 1 by omega] at h1
    rw [show j + 0 + 1 = j + 1 by omega]
    omega
  | succ d ih =>
    intro hlt
    have h0 := ih (by omega)
    have h1 := (h.2.2 (j + d + 1 + 1) (by omega)).2 (by omega)
    have h2 := (h.2.2 (j + d + 1) (by omega)).1
    rw [show 2 * (j + d + 1 + 1) - 1 = 2 * (j + d + 1) + 1 by omega] at h1
    rw [show j + (d + 1) + 1 = j + d + 1 + 1 by omega]
    omega

/-- The first m ranges, the last of them cut off ahead of b. -/
def cut (xs : List Int) (m b : Nat) : List Int := (xs.take (2 * m)).set (2 * m - 1) (min (xs[2 * m - 1]?.getD 0) ((b : Int) - 1))
structure Cut (xs : List Int) (m b : Nat) : Prop where
  le : 2 * m ≤ xs.length
  lo : 0 < m → xs[2 * (m - 1)]?.getD 0 < (b : Int)
  nx : 2 * m < xs.length → (b : Int) ≤ xs[2 * m]?.getD 0

theorem cut_len (xs : List Int) (m b : Nat) (h : 2 * m ≤ xs.length) : (cut xs m b).length = 2 * m := by simp [cut]; omega

theorem cut_last {xs : List Int} {m b : Nat} (h : 2 * m ≤ xs.length) (hm : 0 < m) : (cut xs m b)[2 * m - 1]?.getD 0 = min (xs[2 * m - 1]?.getD 0) ((b : Int) - 1) := by
  unfold cut
  rw [List.getElem?_set_self (by simp; omega)]
  rfl

theorem cut_same {xs : List Int} {m b : Nat} (h : 2 * m ≤ xs.length) (hl : 0 < m → xs[2 * m - 1]?.getD 0 < (b : Int)) : cut xs m b = xs.take (2 * m) := by
  unfold cut
  by_cases hm : 0 < m
  · have h1 := hl hm
    rw [show min (xs[2 * m - 1]?.getD 0) ((b : Int) - 1) = xs[2 * m - 1]?.getD 0 by omega]
    apply List.ext_getElem?
    intro i
    by_cases e : 2 * m - 1 = i
    · subst e
      rw [List.getElem?_set_self (by simp; omega), List.getElem?_take_of_lt (by omega), ← getD_of_lt (by omega)]
    · rw [List.getElem?_set_ne e]
  · obtain rfl : m = 0 := by omega
    simp

/-- One byte more. -/
theorem cut_step {xs : List Int} (hcn : Canon xs) {m b : Nat} (h : Cut xs m b) :
    (InP xs (xs.length / 2) b = false ∧ Cut xs m (b + 1) ∧ cut xs m (b + 1) = cut xs m b) ∨
    (InP xs (xs.length / 2) b = true ∧ 0 < m ∧ (cut xs m b)[2 * m - 1]?.getD 0 = (b : Int) - 1 ∧ Cut xs m (b + 1) ∧ cut xs m (b + 1) = (cut xs m b).set (2 * m - 1) b) ∨
    (InP xs (xs.length / 2) b = true ∧ (0 < m → (cut xs m b)[2 * m - 1]?.getD 0 ≠ (b : Int) - 1) ∧ Cut xs (m + 1) (b + 1) ∧ cut xs (m + 1) (b + 1) = cut xs m b ++ [(b : Int), b]) := by
  have hev := hcn.1
  have hle := h.le
  by_cases c1 : 0 < m ∧ (b : Int) ≤ xs[2 * m - 1]?.getD 0
  · obtain ⟨hm, hb⟩ := c1
    have hlo := h.lo hm
    refine Or.inr (Or.inl ⟨(inP_iff _ _ _).2 ⟨m - 1, by omega, by omega, by rw [show 2 * (m - 1) + 1 = 2 * m - 1 by omega]; exact hb⟩, hm, ?_, ⟨hle, fun _ => by have := h.lo hm; omega, fun hlt => ?_⟩, ?_⟩)
    · rw [cut_last hle hm]; omega
    · have := canon_mono hcn (m - 1) 0 (by omega)
      rw [show 2 * (m - 1) + 1 = 2 * m - 1 by omega, show m - 1 + 0 + 1 = m by omega] at this
      omega
    · unfold cut
      rw [List.set_set]
      congr 1
      omega
  · have hl : 0 < m → xs[2 * m - 1]?.getD 0 < (b : Int) := fun hm => by
      by_cases q : (b : Int) ≤ xs[2 * m - 1]?.getD 0
      · exact absurd ⟨hm, q⟩ c1
      · omega
    by_cases c2 : 2 * m < xs.length ∧ xs[2 * m]?.getD 0 = (b : Int)
    · obtain ⟨hlt, hb⟩ := c2
      have hp := (hcn.2.2 m hlt).1
      refine Or.inr (Or.inr ⟨(inP_iff _ _ _).2 ⟨m, by omega, by omega, by omega⟩, fun hm => ?_, ⟨by omega, fun _ => by rw [show m + 1 - 1 = m by omega]; omega, fun hlt2 => ?_⟩, ?_⟩)
      · rw [cut_last hle hm]
        have := canon_mono hcn (m - 1) 0 (by omega)
        rw [show 2 * (m - 1) + 1 = 2 * m - 1 by omega, show m - 1 + 0 + 1 = m by omega] at this
        omega
      · have := canon_mono hcn m 0 (by omega)
        rw [show m + 0 + 1 = m + 1 by omega] at this
        omega
      · rw [cut_same hle hl]
        unfold cut
        apply List.ext_getElem?
        intro i
        rw [show 2 * (m + 1) - 1 = 2 * m + 1 by omega, show 2 * (m + 1) = 2 * m + 2 by omega]
        by_cases e1 : i < 2 * m
        · rw [List.getElem?_set_ne (by omega), List.getElem?_take_of_lt (by omega), List.getElem?_append_left (by simp; omega), List.getElem?_take_of_lt e1]
        · rw [List.getElem?_append_right (by simp; omega), List.length_take, Nat.min_eq_left hle]
          by_cases e2 : i = 2 * m
          · subst e2
            rw [List.getElem?_set_ne (by omega), List.getElem?_take_of_lt (by omega), getD_of_lt (by omega), hb]
            simp
          · by_cases e3 : i = 2 * m + 1
            · subst e3
              rw [List.getElem?_set_self (by simp; omega), show 2 * m + 1 - 2 * m = 1 by omega, show min (xs[2 * m + 1]?.getD 0) (((b + 1 : Nat) : Int) - 1) = (b : Int) by omega]
              rfl
            · rw [List.getElem?_eq_none (by simp; omega), List.getElem?_eq_none (by simp; omega)]
    · refine Or.inl ⟨?_, ⟨hle, fun hm => by have := h.lo hm; omega, fun hlt => ?_⟩, ?_⟩
      · rw [Bool.eq_false_iff]
        intro hin
        obtain ⟨j, h1, h2, h3⟩ := (inP_iff _ _ _).1 hin
        by_cases e1 : j < m
        · by_cases e2 : j = m - 1
          · subst e2
            have := hl (by omega)
            rw [show 2 * (m - 1) + 1 = 2 * m - 1 by omega] at h3
            omega
          · have := canon_mono hcn j (m - 1 - j - 1) (by omega)
            rw [show j + (m - 1 - j - 1) + 1 = m - 1 by omega] at this
            have := h.lo (by omega)
            omega
        · by_cases e2 : j = m
          · subst e2
            have := h.nx (by omega)
            exact c2 ⟨by omega, by omega⟩
          · have h4 := canon_mono hcn m (j - m - 1) (by omega)
            rw [show m + (j - m - 1) + 1 = j by omega] at h4
            have h5 := h.nx (by omega)
            have h6 := (hcn.2.2 m (by omega)).1
            omega
      · have := h.nx hlt
        by_cases q : xs[2 * m]?.getD 0 = (b : Int)
        · exact absurd ⟨hlt, q⟩ c2
        · omega
      · rw [cut_same hle hl, cut_same hle (fun hm => by have := hl hm; omega)]

theorem cut_all {xs : List Int} (hcn : Canon xs) {m : Nat} (h : Cut xs m 256) : cut xs m 256 = xs := by
  have hev := hcn.1
  have hle := h.le
  have e : 2 * m = xs.length := by
    by_cases q : 2 * m < xs.length
    · have h1 := h.nx q
      have h2 := (hcn.2.1 (2 * m) q).2
      omega
    · omega
  rw [cut_same hle (fun hm => by have := (hcn.2.1 (2 * m - 1) (by omega)).2; omega), e, List.take_length]

theorem shr_bit (a i : Nat) (ha : a < 18446744073709551616) : (bits .and .u64 ((a : Int) / 2 ^ i) 1 == 1) = a.testBit i := by
  have h1 : (a : Int) / 2 ^ i = ((a / 2 ^ i : Nat) : Int) := by rw [Int.natCast_ediv, Int.natCast_pow]; rfl
  have h2 : a / 2 ^ i < 18446744073709551616 := Nat.lt_of_le_of_lt (Nat.div_le_self _ _) ha
  rw [h1, show (1 : Int) = ((1 : Nat) : Int) from rfl, bits_and_u64_nat _ _ h2 (by omega), Nat.and_one_is_mod, Nat.testBit_eq_decide_div_mod_eq]
  by_cases e : a / 2 ^ i % 2 = 1
  · simp [e]
  · have e0 : a / 2 ^ i % 2 = 0 := by omega
    simp [e0]

end Go.Proofs.YtjefklagedidmaaGreat
