import Derived.Test.YtijejbdpagbmpaaDoorP6
import Derived.Test.YtijejbdpagbmpaaDoorP5
import Derived.Maps.AppendAt
import Derived.Test.YtijejbdpagbmpaaDoorP2
namespace Go.Proofs.YtijejbdpagbmpaaDoor
open Go.RowKit

theorem ints_sl {lo n : Nat} {w : World} {v : Value} {xs : List Int} (h : IntsAt lo n w v xs) : SlAt mI 0 lo n w v xs := by
  obtain ⟨a, cap, rfl, hl, hr, hc⟩ := h
  exact ⟨a, cap, rfl, hl, hc⟩

/-- The part of the copy that is made. -/
def Part (N : Nat) (w : World) (xs : List El) (k : Nat) : Prop :=
  (∃ f, w.rowIs N 44 (xs.length * 4) f) ∧ ∃ (sv : Nat → Value) (sb : Nat → Nat), (∀ i : Nat, i < k → El4 w N (i * 4) (xs[i]?.getD dE) (sv i)) ∧ (∀ i : Nat, i < k → N < sb i ∧ sb i < w.heap.size) ∧
    (∀ i j : Nat, i < k → j < k → i ≠ j → sb i ≠ sb j) ∧ ∀ i : Nat, i < k → SlW mI 0 (sb i) (sb i + 1) w (sv i) (xs[i]?.getD dE).set

theorem part_step {N k : Nat} {wr w1 : World} {xs : List El} {vs : Value} (h : Part N wr xs k) (hk : k < xs.length) (hb : Below wr.heap.size wr w1) (hlt : wr.heap.size < w1.heap.size) (hN : N < wr.heap.size)
    (hv : SlW mI 0 wr.heap.size w1.heap.size w1 vs (xs[k]?.getD dE).set) (w2 : World)
    (hw : w2 = (((w1.setCell ⟨N, k * 4, none⟩ (.int .i64 (xs[k]?.getD dE).kind)).setCell ⟨N, k * 4 + 1, none⟩ vs).setCell ⟨N, k * 4 + 2, none⟩ (.int .i64 (xs[k]?.getD dE).mn)).setCell ⟨N, k * 4 + 3, none⟩ (.int .i64 (xs[k]?.getD dE).mx)) :
    Part N w2 xs (k + 1) := by
  subst hw
  obtain ⟨⟨f, hrow⟩, sv, sb, h4, h5, h6, h7⟩ := h
  have hrow1 := hrow.of_block (hb.block N hN)
  have hr := (((hrow1.set (k * 4) (.int .i64 (xs[k]?.getD dE).kind)).set (k * 4 + 1) vs).set (k * 4 + 2) (.int .i64 (xs[k]?.getD dE).mn)).set (k * 4 + 3) (.int .i64 (xs[k]?.getD dE).mx)
  obtain ⟨bk, g1, g2, g3⟩ := hv.pin hlt
  refine ⟨⟨_, hr⟩, fun i => if i = k then vs else sv i, fun i => if i = k then bk else sb i, fun i hi => ?_, fun i hi => ?_, fun i j hi hj hne => ?_, fun i hi => ?_⟩
  · by_cases e : i = k
    · subst e
      simp only [if_true]
      refine ⟨?_, ?_, ?_, ?_⟩
      · rw [hr.cell (by omega)]; simp
      · rw [hr.cell (by omega)]; simp
      · rw [hr.cell (by omega)]; simp
      · rw [hr.cell (by omega)]; simp
    · simp only [e, if_false]
      exact (((((h4 i (by omega)).same (hb.block N hN)).put (by omega)).put (by omega)).put (by omega)).put (by omega)
  · simp only [sz_put]
    by_cases e : i = k
    · simp only [e, if_true]; omega
    · simp only [e, if_false]
      have := h5 i (by omega)
      have := hb.size
      omega
  · by_cases e1 : i = k
    · by_cases e2 : j = k
      · omega
      · simp only [e1, e2, if_true, if_false]
        have := h5 j (by omega)
        omega
    · by_cases e2 : j = k
      · simp only [e1, e2, if_true, if_false]
        have := h5 i (by omega)
        omega
      · simp only [e1, e2, if_false]
        exact h6 i j (by omega) (by omega) hne
  · by_cases e : i = k
    · subst e
      simp only [if_true]
      exact g3.same (SameB.put (SameB.put (SameB.put (SameB.put (SameB.refl _ _ _) (Or.inl (by omega)) _) (Or.inl (by omega)) _) (Or.inl (by omega)) _) (Or.inl (by omega)) _)
    · simp only [e, if_false]
      have := h5 i (by omega)
      exact ((h7 i (by omega)).keep' hb (by omega)).same (SameB.put (SameB.put (SameB.put (SameB.put (SameB.refl _ _ _) (Or.inl (by omega)) _) (Or.inl (by omega)) _) (Or.inl (by omega)) _) (Or.inl (by omega)) _)

set_option maxHeartbeats 400000 in
set_option maxRecDepth 100000 in
theorem toOpS_w (v : Value) (xs : List El) (w : World) (hv : ElsAt 0 w.heap.size w v xs) (hlen : xs.length ≤ 1048576) (hset : ∀ i : Nat, (xs[i]?.getD dE).set.length ≤ 1048576) :
    Calls Tryd.prog 19 #[v] w fun e w' => ∃ v', e = .returned v' ∧ ElsW w.heap.size w'.heap.size w' v' xs ∧ Below w.heap.size w w' := by
  obtain ⟨a, cap, rfl, hl, hc⟩ := hv
  have hmk := run_make_els xs.length hlen
  go_enter Tryd.func19, Tryd.ntmps19
  go_wp2
  go_loopw [4] (fun i wr => ∃ k : Nat, k ≤ xs.length ∧ i = .int .i64 k ∧ Part w.heap.size wr xs k ∧ Below w.heap.size w wr) (fun i _ => xs.length - (intOf i).toNat)
  case atStart => exact ⟨0, Nat.zero_le _, rfl, ⟨row_start w _ _ (size_madeCells _ _), fun _ => undef, fun _ => 0, by intro i hi; omega, by intro i hi; omega, by intro i j hi; omega, by intro i hi; omega⟩, below1 w _⟩
  case round =>
    obtain ⟨k, hk, rfl, hpart, hb⟩ := hrel
    have Hpart := hide hpart
    obtain ⟨⟨f, hrow⟩, -⟩ := hpart
    by_cases hlt : k < xs.length
    · obtain ⟨b, off, rfl, -, hbn, hel⟩ := hc (by omega)
      obtain ⟨i1, i2, i3, v, c0, c1, c2, c3, hints⟩ := (hel k hlt).same (Same.of_below hb (Nat.le_refl _)) (Nat.zero_le _) hbn
      have hsk := hset k
      generalize hX : xs[k]?.getD dE = x at *
      have HX := hide hX
      have hlt' : (k : Int) < (xs.length : Int) := by omega
      have hrow' := hide hrow
      clear hmk hX hrow
      obtain ⟨a', cap', rfl, -, -, -⟩ := id hints
      go_wp2_with fail
      refine (toOp_w _ x _ (ints_sl (hints.mono (Nat.le_refl _) hb.size)) hsk).mono ?_
      rintro e w1 ⟨v', rfl, hv', hb1, hgt1⟩
      have hN := (unhide hrow').lt
      have hrow := (unhide hrow').of_block (hb1.block _ hN)
      have d0 := hrow.cell (i := k * 4) (by omega)
      have d1 := hrow.cell (i := k * 4 + 1) (by omega)
      have d2 := hrow.cell (i := k * 4 + 2) (by omega)
      have d3 := hrow.cell (i := k * 4 + 3) (by omega)
      have e0 := hrow.frozen (k * 4)
      have e1 := hrow.frozen (k * 4 + 1)
      have e2 := hrow.frozen (k * 4 + 2)
      have e3 := hrow.frozen (k * 4 + 3)
      obtain ⟨a2, cap2, rfl⟩ : ∃ a2 c2, v' = .slice a2 x.set.length c2 := by
        obtain ⟨a2, c2, e, -⟩ := hv'
        exact ⟨a2, c2, e⟩
      have Hv' := hide hv'
      have hz1 := hb1.size
      clear hrow hv'
      go_wp2
      have hst := part_step (unhide Hpart) hlt hb1 hgt1 hN (by rw [unhide HX]; exact unhide Hv') _ rfl
      rw [unhide HX] at hst
      exact ⟨⟨k + 1, by omega, by go_num, hst, bput (bput (bput (bput (hb.trans (hb1.mono hb.size)) (Nat.le_refl _) _) (Nat.le_refl _) _) (Nat.le_refl _) _) (Nat.le_refl _) _⟩, by simp [intOf]; omega⟩
    · obtain rfl : k = xs.length := by omega
      clear hmk hrow
      go_wp2
      go_ret
      obtain ⟨⟨f, hrow⟩, sv, sb, h4, h5, h6, h7⟩ := unhide Hpart
      have hN := hrow.lt
      obtain ⟨c, hcb, -⟩ := hrow
      exact ⟨_, rfl, ⟨some ⟨w.heap.size, 0, none⟩, xs.length, rfl, ⟨Nat.le_refl _, by unfold maxLen; omega⟩, fun _ => ⟨w.heap.size, 0, sv, sb, rfl, Nat.le_refl _, hN, ⟨c, 44, hcb⟩, fun i hi => by rw [Nat.zero_add]; exact h4 i hi, fun i hi => by have := h5 i hi; omega, h6, h7⟩⟩, hb⟩

/-- The marks of a list of elements, and the number behind them. -/
def endE (k : Int) : List El → Int
  | [] => k
  | x :: r => endE (k + 3 + x.set.length) r
def marksE (k : Int) : List El → List El
  | [] => []
  | x :: r => ⟨k, cnts (k + 1) x.set.length, k + 1 + x.set.length, k + 2 + x.set.length⟩ :: marksE (k + 3 + x.set.length) r
theorem marksE_len (k : Int) (xs : List El) : (marksE k xs).length = xs.length := by
  induction xs generalizing k with
  | nil => rfl
  | cons x r ih => simp [marksE, ih]
theorem marksE_get (k : Int) (xs : List El) (i : Nat) (h : i < xs.length) : (marksE k xs)[i]?.getD dE = ⟨endE k (xs.take i), cnts (endE k (xs.take i) + 1) (xs[i]?.getD dE).set.length, endE k (xs.take i) + 1 + (xs[i]?.getD dE).set.length, endE k (xs.take i) + 2 + (xs[i]?.getD dE).set.length⟩ := by
  induction xs generalizing k i with
  | nil => simp at h
  | cons x r ih =>
    cases i with
    | zero => simp [marksE, endE]
    | succ i => simp only [marksE, List.getElem?_cons_succ, List.take_succ_cons, endE]; exact ih _ i (by simpa using h)
theorem endE_step (k : Int) (xs : List El) (i : Nat) (h : i < xs.length) : endE k (xs.take (i + 1)) = endE k (xs.take i) + 3 + (xs[i]?.getD dE).set.length := by
  induction xs generalizing k i with
  | nil => simp at h
  | cons x r ih =>
    cases i with
    | zero => simp [endE]
    | succ i => simp only [List.take_succ_cons, endE, List.getElem?_cons_succ]; exact ih _ i (by simpa using h)
theorem endE_bd (k : Int) (xs : List El) : k ≤ endE k xs ∧ endE k xs = k + 3 * xs.length + bulk xs := by
  induction xs generalizing k with
  | nil => simp [endE, bulk]
  | cons x r ih => have := ih (k + 3 + x.set.length); simp only [endE, bulk, List.length_cons]; omega

end Go.Proofs.YtijejbdpagbmpaaDoor

namespace Go.Proofs.YtijejbdpagbmpaaDoor
open Go.RowKit

/-- Element i behind m marked ones. -/
def mixE (k : Int) (xs : List El) (m i : Nat) : El := if i < m then (marksE k xs)[i]?.getD dE else xs[i]?.getD dE

def Mk (lo n : Nat) (w0 w : World) (k : Int) (xs : List El) (b off : Nat) (sv : Nat → Value) (sb : Nat → Nat) (m : Nat) : Prop :=
  Unf w b ∧ (∀ i : Nat, i < xs.length → El4 w b (off + i * 4) (mixE k xs m i) (sv i)) ∧ (∀ i : Nat, i < xs.length → SlW mI 0 (sb i) (sb i + 1) w (sv i) (mixE k xs m i).set) ∧ Chg lo n w0 w

theorem El4.putK {w : World} {b o : Nat} {x : El} {sv : Value} (h : El4 w b o x sv) (k : Int) : El4 (w.setCell ⟨b, o, none⟩ (.int .i64 k)) b o ⟨k, x.set, x.mn, x.mx⟩ sv := by
  obtain ⟨h0, h1, h2, h3⟩ := h
  exact ⟨put_same h0, by rw [put_other (Or.inr (by omega))]; exact h1, by rw [put_other (Or.inr (by omega))]; exact h2, by rw [put_other (Or.inr (by omega))]; exact h3⟩
theorem El4.putM {w : World} {b o : Nat} {x : El} {sv : Value} (h : El4 w b o x sv) (k : Int) : El4 (w.setCell ⟨b, o + 2, none⟩ (.int .i64 k)) b o ⟨x.kind, x.set, k, x.mx⟩ sv := by
  obtain ⟨h0, h1, h2, h3⟩ := h
  exact ⟨by rw [put_other (Or.inr (by omega))]; exact h0, by rw [put_other (Or.inr (by omega))]; exact h1, put_same h2, by rw [put_other (Or.inr (by omega))]; exact h3⟩
theorem El4.putX {w : World} {b o : Nat} {x : El} {sv : Value} (h : El4 w b o x sv) (k : Int) : El4 (w.setCell ⟨b, o + 3, none⟩ (.int .i64 k)) b o ⟨x.kind, x.set, x.mn, k⟩ sv := by
  obtain ⟨h0, h1, h2, h3⟩ := h
  exact ⟨by rw [put_other (Or.inr (by omega))]; exact h0, by rw [put_other (Or.inr (by omega))]; exact h1, by rw [put_other (Or.inr (by omega))]; exact h2, put_same h3⟩
theorem Unf.put {w : World} {b b' o : Nat} {u : Value} (h : Unf w b) : Unf (w.setCell ⟨b', o, none⟩ u) b := by
  by_cases e : b = b'
  · subst e; exact own_put h
  · exact h.same (Below.heap_setCell _ _ _ _ (by exact e))

theorem mk_step {lo n : Nat} {w0 wr w1 : World} {k : Int} {xs : List El} {b off : Nat} {sv : Nat → Value} {sb : Nat → Nat} {m : Nat} (h : Mk lo n w0 wr k xs b off sv sb m) (hm : m < xs.length) (hlo : lo ≤ b) (hn : b < n)
    (h5 : ∀ i : Nat, i < xs.length → lo ≤ sb i ∧ sb i < n ∧ sb i ≠ b) (h6 : ∀ i j : Nat, i < xs.length → j < xs.length → i ≠ j → sb i ≠ sb j) (K : Int) (hK : K = endE k (xs.take m)) (L : Int) (hL : L = (xs[m]?.getD dE).set.length)
    (hc : Chg (sb m) (sb m + 1) (wr.setCell ⟨b, off + m * 4, none⟩ (.int .i64 K)) w1) (hs : SlW mI 0 (sb m) (sb m + 1) w1 (sv m) (cnts (K + 1) (xs[m]?.getD dE).set.length)) (w2 : World)
    (hw : w2 = (w1.setCell ⟨b, off + m * 4 + 2, none⟩ (.int .i64 (K + 1 + L))).setCell ⟨b, off + m * 4 + 3, none⟩ (.int .i64 (K + 2 + L))) : Mk lo n w0 w2 k xs b off sv sb (m + 1) := by
  subst hw
  obtain ⟨hu, h4, h7, hch⟩ := h
  have hbm := h5 m hm
  have eb : w1.heap[b]? = (wr.setCell ⟨b, off + m * 4, none⟩ (.int .i64 K)).heap[b]? := hc.block b (by omega)
  have hmark := marksE_get k xs m hm
  rw [← hK, ← hL] at hmark
  refine ⟨((hu.put.same eb).put).put, fun i hi => ?_, fun i hi => ?_, ?_⟩
  · by_cases e : i = m
    · subst e
      have q := h4 i hi
      unfold mixE at q ⊢
      rw [if_neg (by omega)] at q
      rw [if_pos (by omega), hmark]
      exact (((q.putK K).same eb).putM (K + 1 + L)).putX (K + 2 + L)
    · have q := h4 i hi
      have e2 : mixE k xs (m + 1) i = mixE k xs m i := by
        unfold mixE
        by_cases e3 : i < m
        · rw [if_pos e3, if_pos (by omega)]
        · rw [if_neg e3, if_neg (by omega)]
      rw [e2]
      exact (((q.put (by omega)).same eb).put (by omega)).put (by omega)
  · by_cases e : i = m
    · subst e
      unfold mixE
      rw [if_pos (by omega), hmark]
      exact hs.same (SameB.put (SameB.put (SameB.refl _ _ _) (by omega) _) (by omega) _)
    · have q := h7 i hi
      have e2 : mixE k xs (m + 1) i = mixE k xs m i := by
        unfold mixE
        by_cases e3 : i < m
        · rw [if_pos e3, if_pos (by omega)]
        · rw [if_neg e3, if_neg (by omega)]
      rw [e2]
      have hbi := h5 i hi
      have hne := h6 i m hi hm e
      exact q.same (SameB.put (SameB.put ((SameB.put (SameB.refl _ _ _) (by omega) _).trans (SameB.of_chg hc (by omega))) (by omega) _) (by omega) _)
  · exact (((hch.put hlo hn _).trans (hc.mono hbm.1 (by omega))).put hlo hn _).put hlo hn _

set_option maxHeartbeats 1000000 in
set_option maxRecDepth 100000 in
theorem markOpS_any (v : Value) (xs : List El) (k : Int) (lo n : Nat) (w : World) (hv : ElsW lo n w v xs) (k0 : 0 ≤ k) (k1 : k ≤ 1048576) (hlen : xs.length + bulk xs ≤ 1048576) (hset : ∀ i : Nat, (xs[i]?.getD dE).set.length ≤ 1048576) :
    Calls Tryd.prog 27 #[v, .int .i64 k] w fun e w' => e = .returned (.int .i64 (endE k xs)) ∧ ElsW lo n w' v (marksE k xs) ∧ Chg lo n w w' := by
  obtain ⟨a, cap, rfl, hl, hc⟩ := hv
  by_cases hp : 0 < xs.length
  · obtain ⟨b, off, sv, sb, rfl, h1, h2, h3, h4, h5, h6, h7⟩ := hc hp
    have hst0 : Mk lo n w w k xs b off sv sb 0 := ⟨h3, fun i hi => by unfold mixE; rw [if_neg (by omega)]; exact h4 i hi, fun i hi => by unfold mixE; rw [if_neg (by omega)]; exact h7 i hi, Chg.refl _ _ _⟩
    have Hst0 := hide hst0
    have H5 := hide h5
    have H6 := hide h6
    have Hset := hide hset
    clear hc h3 h4 h5 h6 h7 hst0 hset
    go_enter Tryd.func27, Tryd.ntmps27
    go_wp2
    go_loopw [1, 5] (fun q i wr => ∃ m : Nat, m ≤ xs.length ∧ i = .int .i64 m ∧ q = .int .i64 (endE k (xs.take m)) ∧ Mk lo n w wr k xs b off sv sb m) (fun _ i _ => xs.length - (intOf i).toNat)
    case atStart => exact ⟨0, Nat.zero_le _, rfl, by simp [endE], unhide Hst0⟩
    case round =>
      obtain ⟨m, hm, rfl, rfl, hmk⟩ := hrel
      have Hmk := hide hmk
      have hbd := endE_bd k (xs.take m)
      have hbk : bulk (xs.take m) ≤ bulk xs := by
        have hb : ∀ (l : List El) (j : Nat), bulk (l.take j) ≤ bulk l := by
          intro l
          induction l with
          | nil => intro j; simp [bulk]
          | cons x r ih => intro j; cases j with
            | zero => simp [bulk]
            | succ j => have := ih j; simp only [List.take_succ_cons, bulk]; omega
        exact hb xs m
      have hbl : (xs.take m).length ≤ m := List.length_take_le _ _
      have hK1 : 0 ≤ endE k (xs.take m) := by omega
      have hK2 : endE k (xs.take m) ≤ 4194304 := by omega
      clear hbd hbk hbl
      by_cases hlt : m < xs.length
      · obtain ⟨hu, hq4, hq7, -⟩ := hmk
        have hc4 := hq4 m hlt
        have hc7 := hq7 m hlt
        unfold mixE at hc4 hc7
        rw [if_neg (by omega)] at hc4 hc7
        obtain ⟨g0, g1, g2, g3⟩ := hc4
        have f0 := frz (j := off + m * 4) hu
        have f2 := frz (j := off + m * 4 + 2) hu
        have f3 := frz (j := off + m * 4 + 3) hu
        have hlt' : (m : Int) < (xs.length : Int) := by omega
        have hse := unhide Hset m
        have hstep := endE_step k xs m hlt
        have hxl : Hid ((xs[m]?.getD dE).set.length = (xs[m]?.getD dE).set.length) := rfl
        generalize hK : endE k (xs.take m) = K at *
        have HK := hide hK
        have Hstep := hide hstep
        have Hc7 := hide hc7
        obtain ⟨sa, sc, hsv⟩ : ∃ sa sc, sv m = .slice sa (xs[m]?.getD dE).set.length sc := by
          obtain ⟨sa, sc, e, -⟩ := hc7
          exact ⟨sa, sc, e⟩
        rw [hsv] at g1
        have Hu := hide hu
        have Hsv := hide hsv
        clear hq4 hq7 hK hstep hc7 hsv hxl hu
        generalize hX : xs[m]?.getD dE = x at *
        have HX := hide hX
        clear hX
        go_wp2_with fail
        have hbm := unhide H5 m hlt
        refine (markIntS_any _ x.set (K + 1) (sb m) (sb m + 1) _ (by rw [← unhide Hsv]; exact (unhide Hc7).same (SameB.put (SameB.refl _ _ _) (by omega) _)) (by omega) (by omega) (by omega)).mono ?_
        rintro e w1 ⟨rfl, hs1, hc1⟩
        have eb : w1.heap[b]? = (wr.setCell ⟨b, off + m * 4, none⟩ (.int .i64 K)).heap[b]? := hc1.block b (by omega)
        have r2 : w1.cell? ⟨b, off + m * 4 + 2, none⟩ = some (.int .i64 x.mn) := by rw [World.cell?_of_block (a := ⟨b, off + m * 4 + 2, none⟩) eb, put_other (Or.inr (by omega))]; exact g2
        have r3 : w1.cell? ⟨b, off + m * 4 + 3, none⟩ = some (.int .i64 x.mx) := by rw [World.cell?_of_block (a := ⟨b, off + m * 4 + 3, none⟩) eb, put_other (Or.inr (by omega))]; exact g3
        have hu1 : Unf w1 b := (unhide Hu).put.same eb
        have t2 := frz (j := off + m * 4 + 2) hu1
        have t3 := frz (j := off + m * 4 + 3) hu1
        have Hs1 := hide hs1
        have Hc1 := hide hc1
        clear hs1 hc1 eb hu1 g0 g1 g2 g3 f0 f2 f3
        go_wp2
        have hst := mk_step (unhide Hmk) hlt h1 h2 (unhide H5) (unhide H6) K (unhide HK).symm (x.set.length : Int) (by rw [unhide HX]) (unhide Hc1) (by rw [unhide HX, unhide Hsv]; exact unhide Hs1) _ rfl
        have e3 : K + 1 + (x.set.length : Int) + 1 = K + 2 + (x.set.length : Int) := by omega
        rw [e3]
        exact ⟨⟨m + 1, by omega, by go_num, by rw [unhide Hstep]; congr 1; omega, hst⟩, by simp [intOf]; omega⟩
      · obtain rfl : m = xs.length := by omega
        clear hK1 hK2
        go_wp2
        go_ret
        obtain ⟨q3, q4, q7, q8⟩ := unhide Hmk
        refine ⟨ret_int (by rw [List.take_length]), ⟨_, cap, by rw [marksE_len], by rw [marksE_len]; exact hl, fun _ => ⟨b, off, sv, sb, rfl, h1, h2, q3, fun i hi => ?_, fun i hi => unhide H5 i (by rwa [marksE_len] at hi), fun i j hi hj hne => unhide H6 i j (by rwa [marksE_len] at hi) (by rwa [marksE_len] at hj) hne, fun i hi => ?_⟩⟩, q8⟩
        · rw [marksE_len] at hi
          have := q4 i hi
          unfold mixE at this
          rwa [if_pos hi] at this
        · rw [marksE_len] at hi
          have := q7 i hi
          unfold mixE at this
          rwa [if_pos hi] at this
  · obtain rfl : xs = [] := List.eq_nil_of_length_eq_zero (by omega)
    clear hc
    go_enter Tryd.func27, Tryd.ntmps27
    go_wp2
    go_loop [1, 5] (fun q i => q = .int .i64 k ∧ i = .int .i64 0) (fun _ _ => 0)
    case atStart => exact ⟨rfl, rfl⟩
    case round =>
      obtain ⟨rfl, rfl⟩ := hrel
      go_wp2
      go_ret
      exact ⟨rfl, ⟨a, cap, rfl, hl, fun h => absurd h (by simp [marksE])⟩, Chg.refl _ _ _⟩

end Go.Proofs.YtijejbdpagbmpaaDoor

namespace Go.Proofs.YtijejbdpagbmpaaDoor
open Go.RowKit

/-- Nothing of the block is frozen. -/
def Free (w : World) (b : Nat) : Prop := ∃ c t, w.heap[b]? = some (.cells c t (0, 0))
theorem Free.same {w w' : World} {b : Nat} (h : Free w b) (e : w'.heap[b]? = w.heap[b]?) : Free w' b := by
  obtain ⟨c, t, hb⟩ := h
  exact ⟨c, t, e.trans hb⟩
theorem Free.put {w : World} {b b' o : Nat} {u : Value} (h : Free w b) : Free (w.setCell ⟨b', o, none⟩ u) b := by
  by_cases e : b = b'
  · subst e; exact own_put h
  · exact h.same (Below.heap_setCell _ _ _ _ (by exact e))

/-- The blocks from lo on and below n. -/
def Rng (lo n : Nat) (k : Nat) : Prop := lo ≤ k ∧ k < n

/-- Outside the blocks of S the world w' is as w was. -/
structure ChgF (S : Nat → Prop) (w w' : World) : Prop where
  os : w'.os = w.os
  tape : w'.tape = w.tape
  output : w'.output = w.output
  size : w'.heap.size = w.heap.size
  block : ∀ k, ¬ S k → w'.heap[k]? = w.heap[k]?
theorem ChgF.refl (S : Nat → Prop) (w : World) : ChgF S w w := ⟨rfl, rfl, rfl, rfl, fun _ _ => rfl⟩
theorem ChgF.trans {S : Nat → Prop} {a b c : World} (h : ChgF S a b) (k : ChgF S b c) : ChgF S a c :=
  ⟨k.os.trans h.os, k.tape.trans h.tape, k.output.trans h.output, k.size.trans h.size, fun i hi => (k.block i hi).trans (h.block i hi)⟩
theorem ChgF.mono {S T : Nat → Prop} {a b : World} (h : ChgF S a b) (hs : ∀ k, S k → T k) : ChgF T a b := ⟨h.os, h.tape, h.output, h.size, fun k hk => h.block k (fun q => hk (hs k q))⟩
theorem Chg.foot {lo n : Nat} {S : Nat → Prop} {a b : World} (h : Chg lo n a b) (hs : ∀ k, lo ≤ k → k < n → S k) : ChgF S a b := ⟨h.os, h.tape, h.output, h.size, fun k hk => h.block k (by
  by_cases e : lo ≤ k ∧ k < n
  · exact absurd (hs k e.1 e.2) hk
  · omega)⟩
theorem ChgF.chg {lo n : Nat} {a b : World} (h : ChgF (Rng lo n) a b) : Chg lo n a b := ⟨h.os, h.tape, h.output, h.size, fun k hk => h.block k (by unfold Rng; omega)⟩
theorem ChgF.below {S : Nat → Prop} {lo : Nat} {w w' : World} (h : ChgF S w w') (hs : ∀ k, S k → lo ≤ k) : Below lo w w' := ⟨h.os, h.tape, h.output, by rw [h.size]; exact Nat.le_refl _, fun k hk => h.block k (fun q => by have := hs k q; omega)⟩
theorem ChgF.put {S : Nat → Prop} {a w : World} (h : ChgF S a w) {b o : Nat} (h1 : S b) (u : Value) : ChgF S a (w.setCell ⟨b, o, none⟩ u) :=
  h.trans ⟨rfl, rfl, rfl, by simp [World.setCell], fun k hk => Below.heap_setCell _ _ _ _ (by show k ≠ b; intro e; subst e; exact hk h1)⟩

/-- v is a slice, element by element mk of xs, in the blocks of S, which nothing has frozen. -/
def SlF {α : Type} (mk : α → Value) (d : α) (S : Nat → Prop) (w : World) (v : Value) (xs : List α) : Prop :=
  ∃ lo n, SlW mk d lo n w v xs ∧ ∀ k, lo ≤ k → k < n → S k
theorem SlW.foot {α : Type} {mk : α → Value} {d : α} {lo n : Nat} {w : World} {v : Value} {xs : List α} (h : SlW mk d lo n w v xs) : SlF mk d (Rng lo n) w v xs := ⟨lo, n, h, fun _ h1 h2 => ⟨h1, h2⟩⟩
theorem SlF.same {α : Type} {mk : α → Value} {d : α} {S : Nat → Prop} {w w' : World} {v : Value} {xs : List α} (h : SlF mk d S w v xs) (hs : ∀ k, S k → w'.heap[k]? = w.heap[k]?) : SlF mk d S w' v xs := by
  obtain ⟨lo, n, h1, h2⟩ := h
  exact ⟨lo, n, h1.same (fun k k1 k2 => hs k (h2 k k1 k2)), h2⟩
theorem SlF.mono {α : Type} {mk : α → Value} {d : α} {S T : Nat → Prop} {w : World} {v : Value} {xs : List α} (h : SlF mk d S w v xs) (hs : ∀ k, S k → T k) : SlF mk d T w v xs := by
  obtain ⟨lo, n, h1, h2⟩ := h
  exact ⟨lo, n, h1, fun k k1 k2 => hs k (h2 k k1 k2)⟩
theorem SlF.at {α : Type} {mk : α → Value} {d : α} {S : Nat → Prop} {N : Nat} {w : World} {v : Value} {xs : List α} (h : SlF mk d S w v xs) (hs : ∀ k, S k → k < N) : SlAt mk d 0 N w v xs := by
  obtain ⟨lo, n, ⟨a, cap, rfl, hl, hc⟩, h2⟩ := h
  refine ⟨a, cap, rfl, hl, fun hp => ?_⟩
  obtain ⟨b, off, rfl, h3, h4, h5, hcell⟩ := hc hp
  exact ⟨b, off, rfl, Nat.zero_le _, hs b (h2 b h3 h4), hcell⟩
theorem SlF.val {α : Type} {mk : α → Value} {d : α} {S : Nat → Prop} {w : World} {v : Value} {xs : List α} (h : SlF mk d S w v xs) : ∃ a cap, v = .slice a xs.length cap := by
  obtain ⟨lo, n, ⟨a, cap, e, -⟩, -⟩ := h
  exact ⟨a, cap, e⟩

/-- v is a slice of slices that reads as xss, in blocks below N. -/
def SsAt {α : Type} (mk : α → Value) (d : α) (N : Nat) (w : World) (v : Value) (xss : List (List α)) : Prop :=
  ∃ a cap, v = .slice a xss.length cap ∧ (xss.length ≤ cap ∧ cap ≤ maxLen) ∧
    (0 < xss.length → ∃ b off, a = some ⟨b, off, none⟩ ∧ b < N ∧ ∀ i : Nat, i < xss.length → ∃ s, w.cell? ⟨b, off + i, none⟩ = some s ∧ SlAt mk d 0 N w s (xss[i]?.getD []) ∧ CapOk s)
theorem SsAt.below {α : Type} {mk : α → Value} {d : α} {m : Nat} {w w' : World} {v : Value} {xss : List (List α)} (h : SsAt mk d w.heap.size w v xss) (hb : Below m w w') (hm : w.heap.size ≤ m) : SsAt mk d w'.heap.size w' v xss := by
  obtain ⟨a, cap, rfl, hl, hc⟩ := h
  refine ⟨a, cap, rfl, hl, fun hp => ?_⟩
  obtain ⟨b, off, rfl, h1, h2⟩ := hc hp
  refine ⟨b, off, rfl, by have := hb.size; omega, fun i hi => ?_⟩
  obtain ⟨s, h3, h4, h5⟩ := h2 i hi
  exact ⟨s, by rw [hb.cell (p := ⟨b, off + i, none⟩) (by show b < m; omega)]; exact h3, h4.below hb hm, h5⟩
theorem SsAt.drewN {α : Type} {mk : α → Value} {d : α} {n : Nat} {w : World} {v : Value} {xss : List (List α)} (h : SsAt mk d n w v xss) (q : Nat) : SsAt mk d n (w.drewN q) v xss := h

/-- v is a slice of slices, xss, that owns its memory, in the blocks of S: the row of the slices and one for each slice, all apart. -/
def SsF {α : Type} (mk : α → Value) (d : α) (S : Nat → Prop) (w : World) (v : Value) (xss : List (List α)) : Prop :=
  ∃ a cap, v = .slice a xss.length cap ∧ (xss.length ≤ cap ∧ cap ≤ maxLen) ∧ (0 < xss.length → ∃ (b off : Nat) (sv : Nat → Value) (T : Nat → Nat → Prop), a = some ⟨b, off, none⟩ ∧ S b ∧ Free w b ∧
    (∀ i : Nat, i < xss.length → w.cell? ⟨b, off + i, none⟩ = some (sv i)) ∧ (∀ i : Nat, i < xss.length → SlF mk d (T i) w (sv i) (xss[i]?.getD []) ∧ CapOk (sv i)) ∧
    (∀ i : Nat, i < xss.length → ∀ k, T i k → S k ∧ k ≠ b) ∧ ∀ i j : Nat, i < xss.length → j < xss.length → i ≠ j → ∀ k, T i k → ¬ T j k)
theorem SsF.same {α : Type} {mk : α → Value} {d : α} {S : Nat → Prop} {w w' : World} {v : Value} {xss : List (List α)} (h : SsF mk d S w v xss) (hs : ∀ k, S k → w'.heap[k]? = w.heap[k]?) : SsF mk d S w' v xss := by
  obtain ⟨a, cap, rfl, hl, hc⟩ := h
  refine ⟨a, cap, rfl, hl, fun hp => ?_⟩
  obtain ⟨b, off, sv, T, e, h1, h2, h3, h4, h5, h6⟩ := hc hp
  exact ⟨b, off, sv, T, e, h1, h2.same (hs b h1), fun i hi => by rw [World.cell?_of_block (w := w) (a := ⟨b, off + i, none⟩) (hs b h1)]; exact h3 i hi, fun i hi => ⟨(h4 i hi).1.same (fun k hk => hs k (h5 i hi k hk).1), (h4 i hi).2⟩, h5, h6⟩
theorem SsF.mono {α : Type} {mk : α → Value} {d : α} {S S' : Nat → Prop} {w : World} {v : Value} {xss : List (List α)} (h : SsF mk d S w v xss) (hs : ∀ k, S k → S' k) : SsF mk d S' w v xss := by
  obtain ⟨a, cap, rfl, hl, hc⟩ := h
  refine ⟨a, cap, rfl, hl, fun hp => ?_⟩
  obtain ⟨b, off, sv, T, e, h1, h2, h3, h4, h5, h6⟩ := hc hp
  exact ⟨b, off, sv, T, e, hs b h1, h2, h3, h4, fun i hi k hk => ⟨hs k (h5 i hi k hk).1, (h5 i hi k hk).2⟩, h6⟩
theorem SsF.at {α : Type} {mk : α → Value} {d : α} {S : Nat → Prop} {N : Nat} {w : World} {v : Value} {xss : List (List α)} (h : SsF mk d S w v xss) (hs : ∀ k, S k → k < N) : SsAt mk d N w v xss := by
  obtain ⟨a, cap, rfl, hl, hc⟩ := h
  refine ⟨a, cap, rfl, hl, fun hp => ?_⟩
  obtain ⟨b, off, sv, T, e, h1, h2, h3, h4, h5, h6⟩ := hc hp
  exact ⟨b, off, e, hs b h1, fun i hi => ⟨sv i, h3 i hi, (h4 i hi).1.at (fun k hk => hs k (h5 i hi k hk).1), (h4 i hi).2⟩⟩
theorem SsF.keep {α : Type} {mk : α → Value} {d : α} {lo n m : Nat} {w w' : World} {v : Value} {xss : List (List α)} (h : SsF mk d (Rng lo n) w v xss) (hb : Below m w w') (hn : n ≤ m) : SsF mk d (Rng lo n) w' v xss := h.same (fun k hk => hb.block k (by unfold Rng at hk; omega))
theorem SsF.all {α : Type} {mk : α → Value} {d : α} {lo n : Nat} {w : World} {v : Value} {xss : List (List α)} (h : SsF mk d (Rng lo n) w v xss) (hn : n ≤ w.heap.size) : SsAt mk d w.heap.size w v xss := h.at (fun k hk => by unfold Rng at hk; omega)
theorem SsF.nil {α : Type} (mk : α → Value) (d : α) (S : Nat → Prop) (w : World) (a : Option Addr) (cap : Nat) (hc : cap ≤ maxLen) : SsF mk d S w (.slice a 0 cap) ([] : List (List α)) := ⟨a, cap, rfl, ⟨Nat.zero_le _, hc⟩, fun h => absurd h (by simp)⟩

/-- The part of a copy that is made. -/
def PartS {α : Type} (mk : α → Value) (d : α) (t : TypeId) (N : Nat) (w : World) (xss : List (List α)) (k : Nat) : Prop :=
  ∃ (f : Nat → Value) (T : Nat → Nat → Prop), w.rowIs N t xss.length f ∧ (∀ i : Nat, i < k → SlF mk d (T i) w (f i) (xss[i]?.getD []) ∧ CapOk (f i)) ∧ (∀ i : Nat, i < k → ∀ j, T i j → N < j ∧ j < w.heap.size) ∧
    ∀ i j : Nat, i < k → j < k → i ≠ j → ∀ q, T i q → ¬ T j q
theorem partS_step {α : Type} {mk : α → Value} {d : α} {t : TypeId} {N k : Nat} {wr w1 : World} {xss : List (List α)} {v : Value} (h : PartS mk d t N wr xss k) (hk : k < xss.length) (hb : Below wr.heap.size wr w1)
    (hv : SlW mk d wr.heap.size w1.heap.size w1 v (xss[k]?.getD [])) (hcv : CapOk v) : PartS mk d t N (w1.setCell ⟨N, k, none⟩ v) xss (k + 1) := by
  obtain ⟨f, T, hrow, h4, h5, h6⟩ := h
  have hN := hrow.lt
  have hz := hb.size
  have hrow1 := hrow.of_block (hb.block N hN)
  have hput : ∀ k', k' ≠ N → (w1.setCell ⟨N, k, none⟩ v).heap[k']? = w1.heap[k']? := fun k' hne => Below.heap_setCell _ _ _ _ (by exact hne)
  refine ⟨_, fun i => if i = k then Rng wr.heap.size w1.heap.size else T i, hrow1.set k v, fun i hi => ?_, fun i hi j hj => ?_, fun i j hi hj hne q hq hq' => ?_⟩
  · by_cases e : i = k
    · subst e
      simp only [if_true]
      exact ⟨hv.foot.same (fun k' hk' => hput k' (by unfold Rng at hk'; omega)), hcv⟩
    · simp only [e, if_false]
      refine ⟨((h4 i (by omega)).1.same (w' := w1) (fun k' hk' => hb.block k' (h5 i (by omega) k' hk').2)).same (fun k' hk' => hput k' ?_), (h4 i (by omega)).2⟩
      have := h5 i (by omega) k' hk'
      omega
  · rw [sz_put]
    by_cases e : i = k
    · simp only [e, if_true] at hj; unfold Rng at hj; omega
    · simp only [e, if_false] at hj
      have := h5 i (by omega) j hj
      omega
  · by_cases e1 : i = k
    · by_cases e2 : j = k
      · omega
      · simp only [e1, e2, if_true, if_false] at hq hq'
        have := h5 j (by omega) q hq'
        unfold Rng at hq
        omega
    · by_cases e2 : j = k
      · simp only [e1, e2, if_true, if_false] at hq hq'
        have := h5 i (by omega) q hq
        unfold Rng at hq'
        omega
      · simp only [e1, e2, if_false] at hq hq'
        exact h6 i j (by omega) (by omega) hne q hq hq'
theorem partS_done {α : Type} {mk : α → Value} {d : α} {t : TypeId} {N cap : Nat} {w : World} {xss : List (List α)} (h : PartS mk d t N w xss xss.length) (hl : xss.length ≤ cap ∧ cap ≤ maxLen) : SsF mk d (Rng N w.heap.size) w (.slice (some ⟨N, 0, none⟩) xss.length cap) xss := by
  obtain ⟨f, T, hrow, h4, h5, h6⟩ := h
  have hN := hrow.lt
  have hfr : Free w N := by obtain ⟨c, hcb, -⟩ := hrow; exact ⟨c, t, hcb⟩
  exact ⟨_, cap, rfl, hl, fun _ => ⟨N, 0, f, T, rfl, ⟨Nat.le_refl _, hN⟩, hfr, fun i hi => by rw [Nat.zero_add]; exact hrow.cell hi, h4, fun i hi k hk => by have := h5 i hi k hk; unfold Rng; omega, h6⟩⟩

/-- How many elements all lists have, and the marks. -/
def tot {α : Type} : List (List α) → Nat
  | [] => 0
  | x :: r => x.length + tot r
def marksL {α β : Type} (c : Int → Nat → List β) (k : Int) : List (List α) → List (List β)
  | [] => []
  | x :: r => c k x.length :: marksL c (k + x.length) r
theorem marksL_len {α β : Type} (c : Int → Nat → List β) (k : Int) (xss : List (List α)) : (marksL c k xss).length = xss.length := by
  induction xss generalizing k with
  | nil => rfl
  | cons x r ih => simp [marksL, ih]
theorem marksL_get {α β : Type} (c : Int → Nat → List β) (k : Int) (xss : List (List α)) (i : Nat) (h : i < xss.length) : (marksL c k xss)[i]?.getD [] = c (k + tot (xss.take i)) (xss[i]?.getD []).length := by
  induction xss generalizing k i with
  | nil => simp at h
  | cons x r ih =>
    cases i with
    | zero => simp [marksL, tot]
    | succ i => simp only [marksL, List.getElem?_cons_succ, List.take_succ_cons, tot]; rw [ih _ i (by simpa using h)]; congr 1; omega
theorem tot_step {α : Type} (xss : List (List α)) (i : Nat) (h : i < xss.length) : tot (xss.take (i + 1)) = tot (xss.take i) + (xss[i]?.getD []).length := by
  induction xss generalizing i with
  | nil => simp at h
  | cons x r ih =>
    cases i with
    | zero => simp [tot]
    | succ i => simp only [List.take_succ_cons, tot, List.getElem?_cons_succ]; rw [ih i (by simpa using h)]; omega
theorem tot_take {α : Type} (xss : List (List α)) (i : Nat) : tot (xss.take i) ≤ tot xss := by
  induction xss generalizing i with
  | nil => simp [tot]
  | cons x r ih => cases i with
    | zero => simp [tot]
    | succ i => have := ih i; simp only [List.take_succ_cons, tot]; omega
theorem tot_get {α : Type} (xss : List (List α)) (i : Nat) : (xss[i]?.getD []).length ≤ tot xss := by
  by_cases h : i < xss.length
  · have h1 := tot_step xss i h
    have h2 := tot_take xss (i + 1)
    omega
  · rw [List.getElem?_eq_none (by omega)]; simp

/-- While the lists are marked: the first m are. -/
def mixL {α : Type} (ys xss : List (List α)) (m i : Nat) : List α := if i < m then ys[i]?.getD [] else xss[i]?.getD []
def MkS {α : Type} (mk : α → Value) (d : α) (S : Nat → Prop) (w0 w : World) (ys xss : List (List α)) (b off : Nat) (sv : Nat → Value) (T : Nat → Nat → Prop) (m : Nat) : Prop :=
  Free w b ∧ (∀ i : Nat, i < xss.length → w.cell? ⟨b, off + i, none⟩ = some (sv i)) ∧ (∀ i : Nat, i < xss.length → SlF mk d (T i) w (sv i) (mixL ys xss m i) ∧ CapOk (sv i)) ∧ ChgF S w0 w
theorem mkS_step {α : Type} {mk : α → Value} {d : α} {S : Nat → Prop} {w0 wr w1 : World} {ys xss : List (List α)} {b off : Nat} {sv : Nat → Value} {T : Nat → Nat → Prop} {m : Nat} (h : MkS mk d S w0 wr ys xss b off sv T m) (hm : m < xss.length)
    (h5 : ∀ i : Nat, i < xss.length → ∀ k, T i k → S k ∧ k ≠ b) (h6 : ∀ i j : Nat, i < xss.length → j < xss.length → i ≠ j → ∀ k, T i k → ¬ T j k)
    (hc : ChgF (T m) wr w1) (hs : SlF mk d (T m) w1 (sv m) (ys[m]?.getD [])) : MkS mk d S w0 w1 ys xss b off sv T (m + 1) := by
  obtain ⟨hu, h3, h4, hch⟩ := h
  have eb : w1.heap[b]? = wr.heap[b]? := hc.block b (fun q => (h5 m hm b q).2 rfl)
  refine ⟨hu.same eb, fun i hi => by rw [World.cell?_of_block (w := wr) (a := ⟨b, off + i, none⟩) eb]; exact h3 i hi, fun i hi => ?_, hch.trans (hc.mono (fun k hk => (h5 m hm k hk).1))⟩
  by_cases e : i = m
  · subst e
    unfold mixL
    rw [if_pos (by omega)]
    exact ⟨hs, (h4 i hi).2⟩
  · have e2 : mixL ys xss (m + 1) i = mixL ys xss m i := by
      unfold mixL
      by_cases e3 : i < m
      · rw [if_pos e3, if_pos (by omega)]
      · rw [if_neg e3, if_neg (by omega)]
    rw [e2]
    exact ⟨(h4 i hi).1.same (fun k hk => hc.block k (h6 i m hi hm e k hk)), (h4 i hi).2⟩

theorem SsAt.take {α : Type} {mk : α → Value} {d : α} {N k cap b off : Nat} {w : World} {xss : List (List α)} (hk : k ≤ xss.length) (hl : xss.length ≤ cap ∧ cap ≤ maxLen) (hb : b < N)
    (hc : ∀ i : Nat, i < xss.length → ∃ s, w.cell? ⟨b, off + i, none⟩ = some s ∧ SlAt mk d 0 N w s (xss[i]?.getD []) ∧ CapOk s) : SsAt mk d N w (.slice (some ⟨b, off, none⟩) k cap) (xss.take k) := by
  have e : (xss.take k).length = k := by simp; omega
  refine ⟨_, cap, by rw [e], ⟨by omega, hl.2⟩, fun _ => ⟨b, off, rfl, hb, fun i hi => ?_⟩⟩
  rw [e] at hi
  obtain ⟨s, h1, h2⟩ := hc i (by omega)
  exact ⟨s, h1, by rw [List.getElem?_take, if_pos hi]; exact h2⟩
theorem SsAt.drop {α : Type} {mk : α → Value} {d : α} {N k m cap b off : Nat} {w : World} {xss : List (List α)} (hk : k + m = xss.length) (hl : m ≤ cap ∧ cap ≤ maxLen) (hb : b < N)
    (hc : ∀ i : Nat, i < xss.length → ∃ s, w.cell? ⟨b, off + i, none⟩ = some s ∧ SlAt mk d 0 N w s (xss[i]?.getD []) ∧ CapOk s) : SsAt mk d N w (.slice (some ⟨b, off + k, none⟩) m cap) (xss.drop k) := by
  have e : (xss.drop k).length = m := by simp; omega
  refine ⟨_, cap, by rw [e], ⟨by omega, hl.2⟩, fun _ => ⟨b, off + k, rfl, hb, fun i hi => ?_⟩⟩
  rw [e] at hi
  obtain ⟨s, h1, h2⟩ := hc (k + i) (by omega)
  exact ⟨s, by rw [Nat.add_assoc]; exact h1, by rw [List.getElem?_drop]; exact h2⟩

theorem tot_drop {α : Type} (xss : List (List α)) (i : Nat) : tot (xss.drop i) ≤ tot xss := by
  induction xss generalizing i with
  | nil => simp [tot]
  | cons x r ih => cases i with
    | zero => simp
    | succ i => have := ih i; simp only [List.drop_succ_cons, tot]; omega


end Go.Proofs.YtijejbdpagbmpaaDoor

namespace Go.Proofs.YtijejbdpagbmpaaDoor
open Go.RowKit

/-- v is a slice of elements, xs, that owns its memory, in the blocks of S: the row of the elements and a row for each set, all apart. -/
def ElsF (S : Nat → Prop) (w : World) (v : Value) (xs : List El) : Prop :=
  ∃ a cap, v = .slice a xs.length cap ∧ (xs.length ≤ cap ∧ cap ≤ maxLen) ∧ (0 < xs.length → ∃ (b off : Nat) (sv : Nat → Value) (T : Nat → Nat → Prop), a = some ⟨b, off, none⟩ ∧ S b ∧ Free w b ∧
    (∀ i : Nat, i < xs.length → El4 w b (off + i * 4) (xs[i]?.getD dE) (sv i)) ∧ (∀ i : Nat, i < xs.length → SlF mI 0 (T i) w (sv i) (xs[i]?.getD dE).set) ∧
    (∀ i : Nat, i < xs.length → ∀ k, T i k → S k ∧ k ≠ b) ∧ ∀ i j : Nat, i < xs.length → j < xs.length → i ≠ j → ∀ k, T i k → ¬ T j k)

theorem ElsW.foot {lo n : Nat} {w : World} {v : Value} {xs : List El} (h : ElsW lo n w v xs) : ElsF (Rng lo n) w v xs := by
  obtain ⟨a, cap, rfl, hl, hc⟩ := h
  refine ⟨a, cap, rfl, hl, fun hp => ?_⟩
  obtain ⟨b, off, sv, sb, e, h1, h2, h3, h4, h5, h6, h7⟩ := hc hp
  exact ⟨b, off, sv, fun i => Rng (sb i) (sb i + 1), e, ⟨h1, h2⟩, h3, h4, fun i hi => (h7 i hi).foot, fun i hi k hk => by have := h5 i hi; unfold Rng at *; omega,
    fun i j hi hj hne k hk hk' => by have := h6 i j hi hj hne; unfold Rng at *; omega⟩
theorem ElsF.same {S : Nat → Prop} {w w' : World} {v : Value} {xs : List El} (h : ElsF S w v xs) (hs : ∀ k, S k → w'.heap[k]? = w.heap[k]?) : ElsF S w' v xs := by
  obtain ⟨a, cap, rfl, hl, hc⟩ := h
  refine ⟨a, cap, rfl, hl, fun hp => ?_⟩
  obtain ⟨b, off, sv, T, e, h1, h2, h3, h4, h5, h6⟩ := hc hp
  exact ⟨b, off, sv, T, e, h1, h2.same (hs b h1), fun i hi => (h3 i hi).same (hs b h1), fun i hi => (h4 i hi).same (fun k hk => hs k (h5 i hi k hk).1), h5, h6⟩
theorem ElsF.mono {S S' : Nat → Prop} {w : World} {v : Value} {xs : List El} (h : ElsF S w v xs) (hs : ∀ k, S k → S' k) : ElsF S' w v xs := by
  obtain ⟨a, cap, rfl, hl, hc⟩ := h
  refine ⟨a, cap, rfl, hl, fun hp => ?_⟩
  obtain ⟨b, off, sv, T, e, h1, h2, h3, h4, h5, h6⟩ := hc hp
  exact ⟨b, off, sv, T, e, hs b h1, h2, h3, h4, fun i hi k hk => ⟨hs k (h5 i hi k hk).1, (h5 i hi k hk).2⟩, h6⟩

/-- The numbers of an element lie within 64 bits. -/
def Num (xs : List El) : Prop := ∀ i : Nat, In64 (xs[i]?.getD dE).kind ∧ In64 (xs[i]?.getD dE).mn ∧ In64 (xs[i]?.getD dE).mx ∧ ∀ j : Nat, In64 ((xs[i]?.getD dE).set[j]?.getD 0)
theorem ElsF.at {S : Nat → Prop} {N : Nat} {w : World} {v : Value} {xs : List El} (h : ElsF S w v xs) (hs : ∀ k, S k → k < N) (hr : Num xs) : ElsAt 0 N w v xs := by
  obtain ⟨a, cap, rfl, hl, hc⟩ := h
  refine ⟨a, cap, rfl, hl, fun hp => ?_⟩
  obtain ⟨b, off, sv, T, e, h1, h2, h3, h4, h5, h6⟩ := hc hp
  refine ⟨b, off, e, Nat.zero_le _, hs b h1, fun i hi => ?_⟩
  obtain ⟨r1, r2, r3, r4⟩ := hr i
  obtain ⟨q0, q1, q2, q3⟩ := h3 i hi
  refine ⟨r1, r2, r3, sv i, q0, q1, q2, q3, ?_⟩
  obtain ⟨a', cap', e', hl', hc'⟩ := (h4 i hi).at (N := N) (fun k hk => hs k (h5 i hi k hk).1)
  refine ⟨a', cap', e', hl', r4, fun hp' => ?_⟩
  obtain ⟨b', off', e2, k1, k2, k4⟩ := hc' hp'
  exact ⟨b', off', e2, k1, k2, k4⟩

/-- An element, the value of its set, and the blocks of that. -/
structure Pc where
  x : El
  s : Value
  T : Nat → Prop
def cell4 (x : El) (s : Value) : List Value := [.int .i64 x.kind, s, .int .i64 x.mn, .int .i64 x.mx]
def cellsP : List Pc → List Value
  | [] => []
  | p :: r => cell4 p.x p.s ++ cellsP r
theorem cellsP_append (a b : List Pc) : cellsP (a ++ b) = cellsP a ++ cellsP b := by
  induction a with
  | nil => rfl
  | cons p r ih => simp [cellsP, ih]
theorem cellsP_len (a : List Pc) : (cellsP a).length = a.length * 4 := by
  induction a with
  | nil => rfl
  | cons p r ih => simp [cellsP, ih, cell4]; omega
theorem cellsP_get (a : List Pc) (i : Nat) (p : Pc) (h : a[i]? = some p) (j : Nat) (hj : j < 4) : (cellsP a)[i * 4 + j]? = (cell4 p.x p.s)[j]? := by
  induction a generalizing i with
  | nil => simp at h
  | cons q r ih =>
    cases i with
    | zero =>
      simp at h
      subst h
      rw [cellsP, List.getElem?_append_left (by simp [cell4]; omega)]
      simp
    | succ i =>
      rw [cellsP, List.getElem?_append_right (by simp [cell4]; omega), show (i + 1) * 4 + j - (cell4 q.x q.s).length = i * 4 + j by simp [cell4]; omega]
      exact ih i (by simpa using h)
theorem cellsP_one (a : List Pc) (hs : ∀ p ∈ a, p.s.oneCell' = true) : ∀ u ∈ cellsP a, u.oneCell' = true := by
  induction a with
  | nil => intro u hu; simp [cellsP] at hu
  | cons p r ih =>
    intro u hu
    simp only [cellsP, cell4, List.mem_append, List.mem_cons, List.not_mem_nil, or_false] at hu
    rcases hu with (rfl | rfl | rfl | rfl) | hu
    · rfl
    · exact hs p (by simp)
    · rfl
    · rfl
    · exact ih (fun q hq => hs q (by simp [hq])) u hu

def Apart (ps : List Pc) : Prop := ps.Pairwise (fun p q => ∀ k, p.T k → ¬ q.T k)
/-- v is a slice of its own, from block base on, of these elements. -/
structure GrowP (base : Nat) (w : World) (v : Value) (ps : List Pc) : Prop where
  own : w.ownsRow base 44 4 v ps.length (cellsP ps)
  set : ∀ p ∈ ps, SlF mI 0 p.T w p.s p.x.set
  blk : ∀ p ∈ ps, ∀ k, p.T k → base ≤ k ∧ k < w.heap.size ∧ v.ownBlock ≠ some k
  dis : Apart ps
def GrowE (base : Nat) (w : World) (v : Value) (xs : List El) : Prop := ∃ ps : List Pc, ps.map Pc.x = xs ∧ GrowP base w v ps

theorem GrowE.nil (base : Nat) (w : World) : GrowE base w (.slice none 0 0) [] := ⟨[], rfl, World.ownsRow_nil _ _ _ _, by simp, by simp, List.Pairwise.nil⟩
theorem GrowP.keep {base m : Nat} {w w' : World} {v : Value} {ps : List Pc} (h : GrowP base w v ps) (hb : Below m w w') (hm : w.heap.size ≤ m) : GrowP base w' v ps :=
  ⟨h.own.kept (show w.grownBy w' none from ⟨hb.os, hb.tape, hb.output, hb.size, fun k hk _ => hb.block k (by omega)⟩) (by cases v.ownBlock <;> simp),
   fun p hp => (h.set p hp).same (fun k hk => hb.block k (by have := (h.blk p hp k hk).2.1; omega)), fun p hp k hk => by have h1 := h.blk p hp k hk; have h2 := hb.size; exact ⟨h1.1, by omega, h1.2.2⟩, h.dis⟩
theorem GrowE.keep {base m : Nat} {w w' : World} {v : Value} {xs : List El} (h : GrowE base w v xs) (hb : Below m w w') (hm : w.heap.size ≤ m) : GrowE base w' v xs := by
  obtain ⟨ps, e, h1⟩ := h
  exact ⟨ps, e, h1.keep hb hm⟩

/-- What an append of further elements leaves. -/
theorem GrowP.app {base : Nat} {w0 w w' : World} {v v' : Value} {ps qs : List Pc} (h : GrowP base w0 v ps) (hbase : base ≤ w0.heap.size) (hb : Below w0.heap.size w0 w) (hq : ∀ p ∈ qs, SlF mI 0 p.T w p.s p.x.set) (hT : ∀ p ∈ qs, ∀ k, p.T k → w0.heap.size ≤ k ∧ k < w.heap.size) (hd : Apart qs)
    (h1 : w'.ownsRow base 44 4 v' (ps.length + qs.length) (cellsP ps ++ cellsP qs)) (hg : w.grownBy w' v.ownBlock) (ho : v'.ownBlock = v.ownBlock ∨ v'.ownBlock = some w.heap.size) : GrowP base w' v' (ps ++ qs) := by
  have hs := hb.size
  have hgz : w.heap.size ≤ w'.heap.size := hg.size
  have hvb : ∀ k, w0.heap.size ≤ k → v.ownBlock ≠ some k := fun k hk e => by have := (h.own.lt k e).2; omega
  have hv'b : ∀ k, k < w.heap.size → v.ownBlock ≠ some k → v'.ownBlock ≠ some k := fun k hk hne e => by
    rcases ho with ho | ho
    · exact hne (by rw [← ho, e])
    · rw [ho] at e; simp at e; omega
  have hblk : ∀ k, k < w.heap.size → v.ownBlock ≠ some k → w'.heap[k]? = w.heap[k]? := fun k hk hne => hg.block k hk (fun e => hne e.symm)
  refine ⟨by rw [List.length_append, cellsP_append]; exact h1, fun p hp => ?_, fun p hp k hk => ?_, List.pairwise_append.2 ⟨h.dis, hd, fun p hp q hq2 k hk hk' => ?_⟩⟩
  · rcases List.mem_append.1 hp with hp | hp
    · refine ((h.set p hp).same (w' := w) (fun k hk => hb.block k (h.blk p hp k hk).2.1)).same (fun k hk => ?_)
      have := h.blk p hp k hk
      exact hblk k (by omega) this.2.2
    · exact (hq p hp).same (fun k hk => hblk k (hT p hp k hk).2 (hvb k (hT p hp k hk).1))
  · rcases List.mem_append.1 hp with hp | hp
    · have := h.blk p hp k hk
      exact ⟨this.1, by omega, hv'b k (by omega) this.2.2⟩
    · have := hT p hp k hk
      exact ⟨by omega, by omega, hv'b k this.2 (hvb k this.1)⟩
  · have h3 := h.blk p hp k hk
    have h4 := hT q hq2 k hk'
    omega

theorem GrowP.foot {base : Nat} {w : World} {v : Value} {ps : List Pc} (h : GrowP base w v ps) : ElsF (Rng base w.heap.size) w v (ps.map Pc.x) := by
  rcases h.own.2 with ⟨rfl, hz⟩ | ⟨g, cap, cur, rfl, hbg, hgc, hnc, hcm, hcs, htake⟩
  · obtain rfl : ps = [] := List.eq_nil_of_length_eq_zero hz
    exact ⟨none, 0, rfl, ⟨Nat.le_refl _, by unfold maxLen; omega⟩, fun hp => absurd hp (by simp)⟩
  · have hlt := (h.own.lt g rfl).2
    refine ⟨_, cap, by simp, ⟨by simpa using hnc, hcm⟩, fun _ => ⟨g, 0, fun i => (ps[i]?.map Pc.s).getD undef, fun i k => ∃ p, ps[i]? = some p ∧ p.T k, rfl, ⟨hbg, hlt⟩, ⟨cur, _, hgc⟩, fun i hi => ?_, fun i hi => ?_, fun i hi k hk => ?_, fun i j hi hj hne k hk hk' => ?_⟩⟩
    · rw [List.length_map] at hi
      have hp : ps[i]? = some ps[i] := List.getElem?_eq_getElem hi
      have e : (ps.map Pc.x)[i]?.getD dE = ps[i].x := by rw [List.getElem?_map, hp]; rfl
      simp only [hp, Option.map_some, Option.getD_some, e, Nat.zero_add]
      have hc : ∀ j, j < 4 → w.cell? ⟨g, i * 4 + j, none⟩ = (cell4 ps[i].x ps[i].s)[j]? := fun j hj => by
        rw [h.own.cellAt (i * 4 + j) (by omega)]; exact cellsP_get ps i _ hp j hj
      exact ⟨hc 0 (by omega), hc 1 (by omega), hc 2 (by omega), hc 3 (by omega)⟩
    · rw [List.length_map] at hi
      have hp : ps[i]? = some ps[i] := List.getElem?_eq_getElem hi
      have e : (ps.map Pc.x)[i]?.getD dE = ps[i].x := by rw [List.getElem?_map, hp]; rfl
      simp only [hp, Option.map_some, Option.getD_some, e]
      exact (h.set _ (List.getElem_mem hi)).mono (fun k hk => ⟨_, rfl, hk⟩)
    · obtain ⟨p, hp, hk⟩ := hk
      have hm := List.mem_of_getElem? hp
      have := h.blk p hm k hk
      exact ⟨⟨this.1, this.2.1⟩, fun e => this.2.2 (by rw [e]; rfl)⟩
    · obtain ⟨p, hp, hk⟩ := hk
      obtain ⟨q, hq, hk'⟩ := hk'
      rw [List.length_map] at hi hj
      rw [List.getElem?_eq_getElem hi] at hp
      rw [List.getElem?_eq_getElem hj] at hq
      simp only [Option.some.injEq] at hp hq
      subst hp hq
      rcases Nat.lt_or_gt_of_ne hne with hlt | hgt
      · exact List.pairwise_iff_getElem.1 h.dis i j hi hj hlt k hk hk'
      · exact List.pairwise_iff_getElem.1 h.dis j i hj hi hgt k hk' hk
theorem GrowE.foot {base : Nat} {w : World} {v : Value} {xs : List El} (h : GrowE base w v xs) : ElsF (Rng base w.heap.size) w v xs := by
  obtain ⟨ps, rfl, h1⟩ := h
  exact h1.foot
theorem GrowE.base {base base' : Nat} {w : World} {v : Value} {xs : List El} (h : GrowE base w v xs) (hb : base' ≤ base) : GrowE base' w v xs := by
  obtain ⟨ps, e, h1⟩ := h
  refine ⟨ps, e, ⟨h1.own.1, h1.own.2.imp id (fun ⟨g, cap, cur, q1, q2, q3⟩ => ⟨g, cap, cur, q1, by omega, q3⟩)⟩, h1.set, fun p hp k hk => ⟨by have := (h1.blk p hp k hk).1; omega, (h1.blk p hp k hk).2⟩, h1.dis⟩
theorem GrowE.form {base : Nat} {w : World} {v : Value} {xs : List El} (h : GrowE base w v xs) : ∃ a c, v = .slice a xs.length c := by
  obtain ⟨ps, rfl, h1⟩ := h
  rcases h1.own.2 with ⟨rfl, hz⟩ | ⟨g, cap, cur, rfl, -⟩
  · exact ⟨none, 0, by rw [List.length_map, hz]⟩
  · exact ⟨_, cap, by rw [List.length_map]⟩

end Go.Proofs.YtijejbdpagbmpaaDoor

namespace Go.Proofs.YtijejbdpagbmpaaDoor
open Go.RowKit

/-- Is the byte in one of the first m ranges? -/
def InP (xs : List Int) : Nat → Nat → Bool
  | 0, _ => false
  | m + 1, b => InP xs m b || decide (xs[2 * m]?.getD 0 ≤ (b : Int) ∧ (b : Int) ≤ xs[2 * m + 1]?.getD 0)

/-- The words of the set of these ranges. -/
def WordsOf (xs : List Int) (g : Nat → Nat) : Prop := Fit g ∧ ∀ b : Nat, Bt g b = InP xs (xs.length / 2) b

theorem words_put {w1 : World} {N : Nat} {t : TypeId} {g : Nat → Nat} (h : w1.rowIs N t 4 (fun j => .int .u64 (g j : Nat))) (q : Nat → Nat) :
    ((((w1.setCell ⟨N, 0, none⟩ (.int .u64 (q 0 : Nat))).setCell ⟨N, 1, none⟩ (.int .u64 (q 1 : Nat))).setCell ⟨N, 2, none⟩ (.int .u64 (q 2 : Nat))).setCell ⟨N, 3, none⟩ (.int .u64 (q 3 : Nat))).rowIs N t 4 (fun j => .int .u64 (q j : Nat)) := by
  refine ((((h.set 0 _).set 1 _).set 2 _).set 3 _).congr ?_
  intro j hj
  match j, hj with
  | 0, _ => rfl
  | 1, _ => rfl
  | 2, _ => rfl
  | 3, _ => rfl

set_option maxHeartbeats 2000000 in
theorem setOf_w (v : Value) (xs : List Int) (w : World) (hv : IntsAt 0 w.heap.size w v xs) (hcn : Canon xs) :
    Calls Tryd.prog 70 #[v] w fun e w' => ∃ g : Nat → Nat, e = .returned (ws4 g) ∧ WordsOf xs g ∧ Below w.heap.size w w' := by
  obtain ⟨a, cap, rfl, hl, hr, hc⟩ := hv
  unfold maxLen at hl
  have Hcn := hide hcn
  clear hcn hr
  go_enter Tryd.func70, Tryd.ntmps70
  go_wp2
  go_loopw [4] (fun i wr => ∃ p : Nat, p ≤ xs.length ∧ p % 2 = 0 ∧ i = .int .i64 p ∧ (∃ g : Nat → Value, wr.rowIs w.heap.size 68 4 g) ∧ (∃ g : Nat → Nat, wr.rowIs (w.heap.size + 1) 68 4 (fun j => .int .u64 (g j : Nat)) ∧ Fit g ∧ ∀ b : Nat, Bt g b = InP xs (p / 2) b) ∧ Below w.heap.size w wr) (fun i _ => xs.length - (intOf i).toNat)
  case atStart =>
    refine ⟨0, Nat.zero_le _, rfl, rfl, ⟨_, (zero_row w 68).alloc _⟩, ⟨fun _ => 0, ?_, fun j => by show 0 < 18446744073709551616; omega, fun b => ?_⟩, below2 w _ _⟩
    · have h := zero_row (w.alloc (.cells #[.int .u64 0, .int .u64 0, .int .u64 0, .int .u64 0] 68)) 68
      rw [sz_alloc] at h; exact h
    · simp [Bt, InP]
  case round =>
    obtain ⟨p, hm, hp2, rfl, ⟨g2, hrow2⟩, ⟨g, hrow, hfit, hbt⟩, hb⟩ := hrel
    have hev := (unhide Hcn).1
    by_cases hlt2 : p < xs.length
    · obtain ⟨b, off, rfl, -, hbn, hcell⟩ := hc (by omega)
      have hx : wr.cell? ⟨b, off + p, none⟩ = some (.int .i64 (xs[p]?.getD 0)) := by rw [hb.cell (p := ⟨b, off + p, none⟩) hbn]; exact hcell _ hlt2
      have hy : wr.cell? ⟨b, off + (p + 1), none⟩ = some (.int .i64 (xs[p + 1]?.getD 0)) := by rw [hb.cell (p := ⟨b, off + (p + 1), none⟩) hbn]; exact hcell _ (by omega)
      have hlt2' : (p : Int) < (xs.length : Int) := by omega
      have hlt3' : (p : Int) + 1 < (xs.length : Int) := by omega
      have bx := ((unhide Hcn).2.1 (p) hlt2).1
      have byy := ((unhide Hcn).2.1 (p + 1) (by omega)).2
      have bxy : xs[p]?.getD 0 ≤ xs[p + 1]?.getD 0 := by
        have := ((unhide Hcn).2.2 (p / 2) (by omega)).1
        rwa [show 2 * (p / 2) = p by omega] at this
      have Hstep : Hid (∀ c : Nat, InP xs ((p + 2) / 2) c = (InP xs (p / 2) c || decide (xs[p]?.getD 0 ≤ (c : Int) ∧ (c : Int) ≤ xs[p + 1]?.getD 0))) := fun c => by
        rw [show (p + 2) / 2 = p / 2 + 1 by omega]
        simp only [InP]
        rw [show 2 * (p / 2) = p by omega]
      have Hbt := hide hbt
      have Hfit := hide hfit
      generalize xs[p]?.getD 0 = x at *
      generalize xs[p + 1]?.getD 0 = y at *
      have c0 := hrow.cell (i := 0) (by omega)
      have c1 := hrow.cell (i := 1) (by omega)
      have c2 := hrow.cell (i := 2) (by omega)
      have c3 := hrow.cell (i := 3) (by omega)
      have hN := hrow.lt
      have f0 := hrow.frozen 0
      have f1 := hrow.frozen 1
      have f2 := hrow.frozen 2
      have f3 := hrow.frozen 3
      have hrow' := hide hrow
      have hrow2' := hide hrow2
      clear hrow hrow2 hcell hbt hfit hc
      go_wp2
      have hw2 : IntKind.i64.wrap ((p : Int) + 1) = (p : Int) + 1 := by rw [IntKind.wrap_i64]; omega
      have hw1 : wrap64 ((p : Int) + 1) = (p : Int) + 1 := by unfold wrap64; omega
      go_region_with (go_at_call 75; refine (with_w g x y _ (unhide Hfit) bx byy bxy).mono ?_; rintro e w1 ⟨g', rfl, hg1, hg2, hb1⟩; unfold ws4; have hb2 : Below wr.heap.size wr w1 := ⟨hb1.os, hb1.tape, hb1.output, hb1.size, hb1.block⟩; have Hg1 := hide hg1; have Hg2 := hide hg2; clear hb1 hg1 hg2; have hc1 := (bcell hb2).1; have hf1 := (bcell hb2).2)
      all_goals
        clear hc1 hf1 c0 c1 c2 c3 f0 f1 f2 f3 hx hy
        go_wp2
        have hr1 := (unhide hrow').of_block (hb2.block _ hN)
        have hr2 := (unhide hrow2').of_block (hb2.block _ (unhide hrow2').lt)
        refine ⟨⟨p + 2, by omega, by omega, by go_num, ⟨g2, ?_⟩, ⟨g', words_put hr1 g', unhide Hg1, fun c => ?_⟩, ?_⟩, by simp [intOf]; omega⟩
        · exact (((hr2.setOther (by show w.heap.size ≠ w.heap.size + 1; omega) _).setOther (by show w.heap.size ≠ w.heap.size + 1; omega) _).setOther (by show w.heap.size ≠ w.heap.size + 1; omega) _).setOther (by show w.heap.size ≠ w.heap.size + 1; omega) _
        · rw [unhide Hg2 c, unhide Hstep c, unhide Hbt c]
        · exact bput (bput (bput (bput (hb.trans (hb2.mono hb.size)) (by omega) _) (by omega) _) (by omega) _) (by omega) _
    · have c0 := hrow.cell (i := 0) (by omega)
      have c1 := hrow.cell (i := 1) (by omega)
      have c2 := hrow.cell (i := 2) (by omega)
      have c3 := hrow.cell (i := 3) (by omega)
      have d0 := hrow2.cell (i := 0) (by omega)
      have d1 := hrow2.cell (i := 1) (by omega)
      have d2 := hrow2.cell (i := 2) (by omega)
      have d3 := hrow2.cell (i := 3) (by omega)
      have f0 := hrow2.frozen 0
      have f1 := hrow2.frozen 1
      have f2 := hrow2.frozen 2
      have f3 := hrow2.frozen 3
      obtain rfl : p = xs.length := by omega
      have Hbt := hide hbt
      have Hfit := hide hfit
      clear hrow hrow2 hbt hfit hc
      go_wp2
      refine bodyPost_ret (v := .agg #[.int .u64 (g 0 : Nat), .int .u64 (g 1 : Nat), .int .u64 (g 2 : Nat), .int .u64 (g 3 : Nat)]) (by simp [results, Tryd.results70, go_sem, d0, d1, d2, d3]) rfl ⟨g, rfl, ⟨unhide Hfit, unhide Hbt⟩, ?_⟩
      exact bput (bput (bput (bput hb (by omega) _) (by omega) _) (by omega) _) (by omega) _

end Go.Proofs.YtijejbdpagbmpaaDoor
