import Derived.Test.YtjjmgegbeccjoaaPk4
import Derived.Test.YtjjmgegbeccjoaaPk1
namespace Go.Proofs.Ytjjmgegbeccjoaa
open Go.RowKit

theorem ints_sl {lo n : Nat} {w : World} {v : Value} {xs : List Int} (h : IntsAt lo n w v xs) : SlAt mI 0 lo n w v xs := by
  obtain ⟨a, cap, rfl, hl, hr, hc⟩ := h
  exact ⟨a, cap, rfl, hl, hc⟩

/-- The part of the copy that is made. -/
def Part (N : Nat) (w : World) (xs : List El) (k : Nat) : Prop :=
  (∃ f, w.rowIs N 71 (xs.length * 4) f) ∧ ∃ (sv : Nat → Value) (sb : Nat → Nat), (∀ i : Nat, i < k → El4 w N (i * 4) (xs[i]?.getD dE) (sv i)) ∧ (∀ i : Nat, i < k → N < sb i ∧ sb i < w.heap.size) ∧
    (∀ i j : Nat, i < k → j < k → i ≠ j → sb i ≠ sb j) ∧ ∀ i : Nat, i < k → SlW mI 0 (sb i) (sb i + 1) w (sv i) (xs[i]?.getD dE).set

theorem part_step {N k : Nat} {wr w1 : World} {xs : List El} {vs : Value} (h : Part N wr xs k) (hk : k < xs.length) (hb : Below wr.heap.size wr w1) (hlt : wr.heap.size < w1.heap.size) (hN : N < wr.heap.size)
    (hv : SlW mI 0 wr.heap.size w1.heap.size w1 vs (xs[k]?.getD dE).set) (w2 : World)
    (hw : w2 = (((w1.setCell ⟨N, k * 4, none⟩ (.int .i64 (xs[k]?.getD dE).kind)).setCell ⟨N, k * 4 + 1, none⟩ vs).setCell ⟨N, k * 4 + 2, none⟩ (.int .i64 (xs[k]?.getD dE).mn)).setCell ⟨N, k * 4 + 3, none⟩ (.int .i64 (xs[k]?.getD dE).mx)) :
    Part N w2 xs (k + 1) := by
  subst hw
  obtain ⟨⟨f, hrow⟩, sv, sb, h4, h5, h6, h7⟩ := h
  have hrow1 := hrow.of_block (hb.block N hN)
  have hr := (((hrow1.set (k * 4) (.int .i64 (xs[k]?.getD dE).kind)).set (k * 4 + 1) vs).set (k * 4 + 2) (.int .i64 (xs[k]?.getD dE).mn)).set (k * 4 + 3) (.int .i64 (xs[k]?.getD dE).mx)
  obtain ⟨bk, g1, g2, g3⟩ := hv.pin hlt
  refine ⟨⟨_, hr⟩, fun i => if i = k then vs else sv i, fun i => if i = k then bk else sb i, fun i hi => ?_, fun i hi => ?_, fun i j hi hj hne => ?_, fun i hi => ?_⟩
  · by_cases e : i = k
    · subst e
      simp only [if_true]
      refine ⟨?_, ?_, ?_, ?_⟩
      · rw [hr.cell (by omega)]; simp
      · rw [hr.cell (by omega)]; simp
      · rw [hr.cell (by omega)]; simp
      · rw [hr.cell (by omega)]; simp
    · simp only [e, if_false]
      exact (((((h4 i (by omega)).same (hb.block N hN)).put (by omega)).put (by omega)).put (by omega)).put (by omega)
  · simp only [sz_put]
    by_cases e : i = k
    · simp only [e, if_true]; omega
    · simp only [e, if_false]
      have := h5 i (by omega)
      have := hb.size
      omega
  · by_cases e1 : i = k
    · by_cases e2 : j = k
      · omega
      · simp only [e1, e2, if_true, if_false]
        have := h5 j (by omega)
        omega
    · by_cases e2 : j = k
      · simp only [e1, e2, if_true, if_false]
        have := h5 i (by omega)
        omega
      · simp only [e1, e2, if_false]
        exact h6 i j (by omega) (by omega) hne
  · by_cases e : i = k
    · subst e
      simp only [if_true]
      exact g3.same (SameB.put (SameB.put (SameB.put (SameB.put (SameB.refl _ _ _) (Or.inl (by omega)) _) (Or.inl (by omega)) _) (Or.inl (by omega)) _) (Or.inl (by omega)) _)
    · simp only [e, if_false]
      have := h5 i (by omega)
      exact ((h7 i (by omega)).keep' hb (by omega)).same (SameB.put (SameB.put (SameB.put (SameB.put (SameB.refl _ _ _) (Or.inl (by omega)) _) (Or.inl (by omega)) _) (Or.inl (by omega)) _) (Or.inl (by omega)) _)

/-- The marks of a list of elements, and the number behind them. -/
def endE (k : Int) : List El → Int
  | [] => k
  | x :: r => endE (k + 3 + x.set.length) r
def marksE (k : Int) : List El → List El
  | [] => []
  | x :: r => ⟨k, cnts (k + 1) x.set.length, k + 1 + x.set.length, k + 2 + x.set.length⟩ :: marksE (k + 3 + x.set.length) r
theorem marksE_len (k : Int) (xs : List El) : (marksE k xs).length = xs.length := by
  induction xs generalizing k with
  | nil => rfl
  | cons x r ih => simp [marksE, ih]
theorem marksE_get (k : Int) (xs : List El) (i : Nat) (h : i < xs.length) : (marksE k xs)[i]?.getD dE = ⟨endE k (xs.take i), cnts (endE k (xs.take i) + 1) (xs[i]?.getD dE).set.length, endE k (xs.take i) + 1 + (xs[i]?.getD dE).set.length, endE k (xs.take i) + 2 + (xs[i]?.getD dE).set.length⟩ := by
  induction xs generalizing k i with
  | nil => simp at h
  | cons x r ih =>
    cases i with
    | zero => simp [marksE, endE]
    | succ i => simp only [marksE, List.getElem?_cons_succ, List.take_succ_cons, endE]; exact ih _ i (by simpa using h)
theorem endE_step (k : Int) (xs : List El) (i : Nat) (h : i < xs.length) : endE k (xs.take (i + 1)) = endE k (xs.take i) + 3 + (xs[i]?.getD dE).set.length := by
  induction xs generalizing k i with
  | nil => simp at h
  | cons x r ih =>
    cases i with
    | zero => simp [endE]
    | succ i => simp only [List.take_succ_cons, endE, List.getElem?_cons_succ]; exact ih _ i (by simpa using h)
theorem endE_bd (k : Int) (xs : List El) : k ≤ endE k xs ∧ endE k xs = k + 3 * xs.length + bulk xs := by
  induction xs generalizing k with
  | nil => simp [endE, bulk]
  | cons x r ih => have := ih (k + 3 + x.set.length); simp only [endE, bulk, List.length_cons]; omega


/-- Element i behind m marked ones. -/
def mixE (k : Int) (xs : List El) (m i : Nat) : El := if i < m then (marksE k xs)[i]?.getD dE else xs[i]?.getD dE

def Mk (lo n : Nat) (w0 w : World) (k : Int) (xs : List El) (b off : Nat) (sv : Nat → Value) (sb : Nat → Nat) (m : Nat) : Prop :=
  Unf w b ∧ (∀ i : Nat, i < xs.length → El4 w b (off + i * 4) (mixE k xs m i) (sv i)) ∧ (∀ i : Nat, i < xs.length → SlW mI 0 (sb i) (sb i + 1) w (sv i) (mixE k xs m i).set) ∧ Chg lo n w0 w

theorem El4.putK {w : World} {b o : Nat} {x : El} {sv : Value} (h : El4 w b o x sv) (k : Int) : El4 (w.setCell ⟨b, o, none⟩ (.int .i64 k)) b o ⟨k, x.set, x.mn, x.mx⟩ sv := by
  obtain ⟨h0, h1, h2, h3⟩ := h
  exact ⟨put_same h0, by rw [put_other (Or.inr (by omega))]; exact h1, by rw [put_other (Or.inr (by omega))]; exact h2, by rw [put_other (Or.inr (by omega))]; exact h3⟩
theorem El4.putM {w : World} {b o : Nat} {x : El} {sv : Value} (h : El4 w b o x sv) (k : Int) : El4 (w.setCell ⟨b, o + 2, none⟩ (.int .i64 k)) b o ⟨x.kind, x.set, k, x.mx⟩ sv := by
  obtain ⟨h0, h1, h2, h3⟩ := h
  exact ⟨by rw [put_other (Or.inr (by omega))]; exact h0, by rw [put_other (Or.inr (by omega))]; exact h1, put_same h2, by rw [put_other (Or.inr (by omega))]; exact h3⟩
theorem El4.putX {w : World} {b o : Nat} {x : El} {sv : Value} (h : El4 w b o x sv) (k : Int) : El4 (w.setCell ⟨b, o + 3, none⟩ (.int .i64 k)) b o ⟨x.kind, x.set, x.mn, k⟩ sv := by
  obtain ⟨h0, h1, h2, h3⟩ := h
  exact ⟨by rw [put_other (Or.inr (by omega))]; exact h0, by rw [put_other (Or.inr (by omega))]; exact h1, by rw [put_other (Or.inr (by omega))]; exact h2, put_same h3⟩
theorem Unf.put {w : World} {b b' o : Nat} {u : Value} (h : Unf w b) : Unf (w.setCell ⟨b', o, none⟩ u) b := by
  by_cases e : b = b'
  · subst e; exact own_put h
  · exact h.same (Below.heap_setCell _ _ _ _ (by exact e))

theorem mk_step {lo n : Nat} {w0 wr w1 : World} {k : Int} {xs : List El} {b off : Nat} {sv : Nat → Value} {sb : Nat → Nat} {m : Nat} (h : Mk lo n w0 wr k xs b off sv sb m) (hm : m < xs.length) (hlo : lo ≤ b) (hn : b < n)
    (h5 : ∀ i : Nat, i < xs.length → lo ≤ sb i ∧ sb i < n ∧ sb i ≠ b) (h6 : ∀ i j : Nat, i < xs.length → j < xs.length → i ≠ j → sb i ≠ sb j) (K : Int) (hK : K = endE k (xs.take m)) (L : Int) (hL : L = (xs[m]?.getD dE).set.length)
    (hc : Chg (sb m) (sb m + 1) (wr.setCell ⟨b, off + m * 4, none⟩ (.int .i64 K)) w1) (hs : SlW mI 0 (sb m) (sb m + 1) w1 (sv m) (cnts (K + 1) (xs[m]?.getD dE).set.length)) (w2 : World)
    (hw : w2 = (w1.setCell ⟨b, off + m * 4 + 2, none⟩ (.int .i64 (K + 1 + L))).setCell ⟨b, off + m * 4 + 3, none⟩ (.int .i64 (K + 2 + L))) : Mk lo n w0 w2 k xs b off sv sb (m + 1) := by
  subst hw
  obtain ⟨hu, h4, h7, hch⟩ := h
  have hbm := h5 m hm
  have eb : w1.heap[b]? = (wr.setCell ⟨b, off + m * 4, none⟩ (.int .i64 K)).heap[b]? := hc.block b (by omega)
  have hmark := marksE_get k xs m hm
  rw [← hK, ← hL] at hmark
  refine ⟨((hu.put.same eb).put).put, fun i hi => ?_, fun i hi => ?_, ?_⟩
  · by_cases e : i = m
    · subst e
      have q := h4 i hi
      unfold mixE at q ⊢
      rw [if_neg (by omega)] at q
      rw [if_pos (by omega), hmark]
      exact (((q.putK K).same eb).putM (K + 1 + L)).putX (K + 2 + L)
    · have q := h4 i hi
      have e2 : mixE k xs (m + 1) i = mixE k xs m i := by
        unfold mixE
        by_cases e3 : i < m
        · rw [if_pos e3, if_pos (by omega)]
        · rw [if_neg e3, if_neg (by omega)]
      rw [e2]
      exact (((q.put (by omega)).same eb).put (by omega)).put (by omega)
  · by_cases e : i = m
    · subst e
      unfold mixE
      rw [if_pos (by omega), hmark]
      exact hs.same (SameB.put (SameB.put (SameB.refl _ _ _) (by omega) _) (by omega) _)
    · have q := h7 i hi
      have e2 : mixE k xs (m + 1) i = mixE k xs m i := by
        unfold mixE
        by_cases e3 : i < m
        · rw [if_pos e3, if_pos (by omega)]
        · rw [if_neg e3, if_neg (by omega)]
      rw [e2]
      have hbi := h5 i hi
      have hne := h6 i m hi hm e
      exact q.same (SameB.put (SameB.put ((SameB.put (SameB.refl _ _ _) (by omega) _).trans (SameB.of_chg hc (by omega))) (by omega) _) (by omega) _)
  · exact (((hch.put hlo hn _).trans (hc.mono hbm.1 (by omega))).put hlo hn _).put hlo hn _

set_option maxHeartbeats 1000000 in
set_option maxRecDepth 100000 in
theorem markOpS_any (v : Value) (xs : List El) (k : Int) (lo n : Nat) (w : World) (hv : ElsW lo n w v xs) (k0 : 0 ≤ k) (k1 : k ≤ 1048576) (hlen : xs.length + bulk xs ≤ 1048576) (hset : ∀ i : Nat, (xs[i]?.getD dE).set.length ≤ 1048576) :
    Calls Try.prog 20 #[v, .int .i64 k] w fun e w' => e = .returned (.int .i64 (endE k xs)) ∧ ElsW lo n w' v (marksE k xs) ∧ Chg lo n w w' := by
  obtain ⟨a, cap, rfl, hl, hc⟩ := hv
  by_cases hp : 0 < xs.length
  · obtain ⟨b, off, sv, sb, rfl, h1, h2, h3, h4, h5, h6, h7⟩ := hc hp
    have hst0 : Mk lo n w w k xs b off sv sb 0 := ⟨h3, fun i hi => by unfold mixE; rw [if_neg (by omega)]; exact h4 i hi, fun i hi => by unfold mixE; rw [if_neg (by omega)]; exact h7 i hi, Chg.refl _ _ _⟩
    have Hst0 := hide hst0
    have H5 := hide h5
    have H6 := hide h6
    have Hset := hide hset
    clear hc h3 h4 h5 h6 h7 hst0 hset
    go_enter Try.func20, Try.ntmps20
    go_wp2
    go_loopw [1, 5] (fun q i wr => ∃ m : Nat, m ≤ xs.length ∧ i = .int .i64 m ∧ q = .int .i64 (endE k (xs.take m)) ∧ Mk lo n w wr k xs b off sv sb m) (fun _ i _ => xs.length - (intOf i).toNat)
    case atStart => exact ⟨0, Nat.zero_le _, rfl, by simp [endE], unhide Hst0⟩
    case round =>
      obtain ⟨m, hm, rfl, rfl, hmk⟩ := hrel
      have Hmk := hide hmk
      have hbd := endE_bd k (xs.take m)
      have hbk : bulk (xs.take m) ≤ bulk xs := by
        have hb : ∀ (l : List El) (j : Nat), bulk (l.take j) ≤ bulk l := by
          intro l
          induction l with
          | nil => intro j; simp [bulk]
          | cons x r ih => intro j; cases j with
            | zero => simp [bulk]
            | succ j => have := ih j; simp only [List.take_succ_cons, bulk]; omega
        exact hb xs m
      have hbl : (xs.take m).length ≤ m := List.length_take_le _ _
      have hK1 : 0 ≤ endE k (xs.take m) := by omega
      have hK2 : endE k (xs.take m) ≤ 4194304 := by omega
      clear hbd hbk hbl
      by_cases hlt : m < xs.length
      · obtain ⟨hu, hq4, hq7, -⟩ := hmk
        have hc4 := hq4 m hlt
        have hc7 := hq7 m hlt
        unfold mixE at hc4 hc7
        rw [if_neg (by omega)] at hc4 hc7
        obtain ⟨g0, g1, g2, g3⟩ := hc4
        have f0 := frz (j := off + m * 4) hu
        have f2 := frz (j := off + m * 4 + 2) hu
        have f3 := frz (j := off + m * 4 + 3) hu
        have hlt' : (m : Int) < (xs.length : Int) := by omega
        have hse := unhide Hset m
        have hstep := endE_step k xs m hlt
        have hxl : Hid ((xs[m]?.getD dE).set.length = (xs[m]?.getD dE).set.length) := rfl
        generalize hK : endE k (xs.take m) = K at *
        have HK := hide hK
        have Hstep := hide hstep
        have Hc7 := hide hc7
        obtain ⟨sa, sc, hsv⟩ : ∃ sa sc, sv m = .slice sa (xs[m]?.getD dE).set.length sc := by
          obtain ⟨sa, sc, e, -⟩ := hc7
          exact ⟨sa, sc, e⟩
        rw [hsv] at g1
        have Hu := hide hu
        have Hsv := hide hsv
        clear hq4 hq7 hK hstep hc7 hsv hxl hu
        generalize hX : xs[m]?.getD dE = x at *
        have HX := hide hX
        clear hX
        go_wp2_with fail
        have hbm := unhide H5 m hlt
        refine (markIntS_any _ x.set (K + 1) (sb m) (sb m + 1) _ (by rw [← unhide Hsv]; exact (unhide Hc7).same (SameB.put (SameB.refl _ _ _) (by omega) _)) (by omega) (by omega) (by omega)).mono ?_
        rintro e w1 ⟨rfl, hs1, hc1⟩
        have eb : w1.heap[b]? = (wr.setCell ⟨b, off + m * 4, none⟩ (.int .i64 K)).heap[b]? := hc1.block b (by omega)
        have r2 : w1.cell? ⟨b, off + m * 4 + 2, none⟩ = some (.int .i64 x.mn) := by rw [World.cell?_of_block (a := ⟨b, off + m * 4 + 2, none⟩) eb, put_other (Or.inr (by omega))]; exact g2
        have r3 : w1.cell? ⟨b, off + m * 4 + 3, none⟩ = some (.int .i64 x.mx) := by rw [World.cell?_of_block (a := ⟨b, off + m * 4 + 3, none⟩) eb, put_other (Or.inr (by omega))]; exact g3
        have hu1 : Unf w1 b := (unhide Hu).put.same eb
        have t2 := frz (j := off + m * 4 + 2) hu1
        have t3 := frz (j := off + m * 4 + 3) hu1
        have Hs1 := hide hs1
        have Hc1 := hide hc1
        clear hs1 hc1 eb hu1 g0 g1 g2 g3 f0 f2 f3
        go_wp2
        have hst := mk_step (unhide Hmk) hlt h1 h2 (unhide H5) (unhide H6) K (unhide HK).symm (x.set.length : Int) (by rw [unhide HX]) (unhide Hc1) (by rw [unhide HX, unhide Hsv]; exact unhide Hs1) _ rfl
        have e3 : K + 1 + (x.set.length : Int) + 1 = K + 2 + (x.set.length : Int) := by omega
        rw [e3]
        exact ⟨⟨m + 1, by omega, by go_num, by rw [unhide Hstep]; congr 1; omega, hst⟩, by simp [intOf]; omega⟩
      · obtain rfl : m = xs.length := by omega
        clear hK1 hK2
        go_wp2
        go_ret
        obtain ⟨q3, q4, q7, q8⟩ := unhide Hmk
        refine ⟨ret_int (by rw [List.take_length]), ⟨_, cap, by rw [marksE_len], by rw [marksE_len]; exact hl, fun _ => ⟨b, off, sv, sb, rfl, h1, h2, q3, fun i hi => ?_, fun i hi => unhide H5 i (by rwa [marksE_len] at hi), fun i j hi hj hne => unhide H6 i j (by rwa [marksE_len] at hi) (by rwa [marksE_len] at hj) hne, fun i hi => ?_⟩⟩, q8⟩
        · rw [marksE_len] at hi
          have := q4 i hi
          unfold mixE at this
          rwa [if_pos hi] at this
        · rw [marksE_len] at hi
          have := q7 i hi
          unfold mixE at this
          rwa [if_pos hi] at this
  · obtain rfl : xs = [] := List.eq_nil_of_length_eq_zero (by omega)
    clear hc
    go_enter Try.func20, Try.ntmps20
    go_wp2
    go_loop [1, 5] (fun q i => q = .int .i64 k ∧ i = .int .i64 0) (fun _ _ => 0)
    case atStart => exact ⟨rfl, rfl⟩
    case round =>
      obtain ⟨rfl, rfl⟩ := hrel
      go_wp2
      go_ret
      exact ⟨rfl, ⟨a, cap, rfl, hl, fun h => absurd h (by simp [marksE])⟩, Chg.refl _ _ _⟩

set_option maxHeartbeats 1000000 in
set_option maxRecDepth 100000 in
theorem heldOpS_any (v : Value) (xs : List El) (k : Int) (lo n : Nat) (w : World) (hv : ElsW lo n w v (marksE k xs)) (k0 : 0 ≤ k) (k1 : k ≤ 1048576) (hlen : xs.length + bulk xs ≤ 1048576) (hset : ∀ i : Nat, (xs[i]?.getD dE).set.length ≤ 1048576) :
    Calls Try.prog 21 #[v, .int .i64 k] w fun e w' => e = .returned (.int .i64 (endE k xs)) ∧ w' = w := by
  obtain ⟨a, cap, rfl, hl, hc⟩ := hv
  rw [marksE_len] at hc ⊢
  have Hset := hide hset
  have Hc := hide hc
  clear hc hset
  go_enter Try.func21, Try.ntmps21
  go_wp2
  go_loop [1, 5] (fun q i => ∃ m : Nat, m ≤ xs.length ∧ i = .int .i64 m ∧ q = .int .i64 (endE k (xs.take m))) (fun _ i => xs.length - (intOf i).toNat)
  case atStart => exact ⟨0, Nat.zero_le _, rfl, by simp [endE]⟩
  case round =>
    obtain ⟨m, hm, rfl, rfl⟩ := hrel
    have hbd := endE_bd k (xs.take m)
    have hbk : bulk (xs.take m) ≤ bulk xs := by
      have hb : ∀ (l : List El) (j : Nat), bulk (l.take j) ≤ bulk l := by
        intro l
        induction l with
        | nil => intro j; simp [bulk]
        | cons x r ih => intro j; cases j with
          | zero => simp [bulk]
          | succ j => have := ih j; simp only [List.take_succ_cons, bulk]; omega
      exact hb xs m
    have hbl : (xs.take m).length ≤ m := List.length_take_le _ _
    have hK1 : 0 ≤ endE k (xs.take m) := by omega
    have hK2 : endE k (xs.take m) ≤ 4194304 := by omega
    clear hbd hbk hbl
    by_cases hlt : m < xs.length
    · obtain ⟨b, off, sv, sb, rfl, h1, h2, -, h4, -, -, h7⟩ := unhide Hc (by omega)
      have hc4 := h4 m hlt
      have hc7 := h7 m hlt
      rw [marksE_get k xs m hlt] at hc4 hc7
      obtain ⟨g0, g1, g2, g3⟩ := hc4
      simp only at g0 g1 g2 g3 hc7
      have hlt' : (m : Int) < (xs.length : Int) := by omega
      have hse := unhide Hset m
      have hstep := endE_step k xs m hlt
      generalize hK : endE k (xs.take m) = K at *
      have Hstep := hide hstep
      have Hc7 := hide hc7
      obtain ⟨sa, sc, hsv⟩ : ∃ sa sc, sv m = .slice sa (xs[m]?.getD dE).set.length sc := by
        obtain ⟨sa, sc, e, -⟩ := hc7
        rw [cnts_len] at e
        exact ⟨sa, sc, e⟩
      rw [hsv] at g1
      have Hsv := hide hsv
      clear h4 h7 hK hstep hc7 hsv
      generalize xs[m]?.getD dE = x at *
      go_wp2_with fail
      refine (heldIntS_any _ x.set.length (K + 1) _ _ _ (by rw [← unhide Hsv]; exact (unhide Hc7).at) (by omega) (by omega) (by omega)).mono ?_
      rintro e w1 ⟨rfl, hw1⟩
      subst hw1
      have e2 : (K + 1 + (x.set.length : Int) + 1) = K + 2 + (x.set.length : Int) := by omega
      have E2 := hide e2
      clear e2
      rw [← unhide E2] at g3
      go_wp2
      go_round
      case rel => exact ⟨m + 1, by omega, by go_num, by rw [unhide Hstep]; congr 1; omega⟩
      case measure => simp [intOf]; omega
    · obtain rfl : m = xs.length := by omega
      clear hK1 hK2
      go_wp2
      go_ret
      exact ⟨rfl, rfl⟩

end Go.Proofs.Ytjjmgegbeccjoaa
