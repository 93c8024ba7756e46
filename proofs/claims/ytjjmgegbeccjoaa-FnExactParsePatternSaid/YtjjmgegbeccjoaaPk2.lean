import Derived.Test.YtjjmgegbeccjoaaB0
import Derived.Deep.OwnRows
import Derived.WalkSmall
import Derived.Deep.QuietTactic
import Derived.BigQuiet
namespace Go.Proofs.Ytjjmgegbeccjoaa
open Go.RowKit

/-- v is a slice, element by element mk of xs, in a block from lo on and below n that nothing has frozen. -/
def SlW {α : Type} (mk : α → Value) (d : α) (lo n : Nat) (w : World) (v : Value) (xs : List α) : Prop :=
  ∃ a cap, v = .slice a xs.length cap ∧ xs.length ≤ maxLen ∧
    (0 < xs.length → ∃ b off, a = some ⟨b, off, none⟩ ∧ lo ≤ b ∧ b < n ∧ (∃ c t, w.heap[b]? = some (.cells c t (0, 0))) ∧ ∀ i : Nat, i < xs.length → w.cell? ⟨b, off + i, none⟩ = some (mk (xs[i]?.getD d)))

/-- Outside the blocks from lo on and below n the world w' is as w was. -/
structure Chg (lo n : Nat) (w w' : World) : Prop where
  os : w'.os = w.os
  tape : w'.tape = w.tape
  output : w'.output = w.output
  size : w'.heap.size = w.heap.size
  block : ∀ k, (k < lo ∨ n ≤ k) → w'.heap[k]? = w.heap[k]?

theorem Chg.refl (lo n : Nat) (w : World) : Chg lo n w w := ⟨rfl, rfl, rfl, rfl, fun _ _ => rfl⟩
theorem Chg.trans {lo n : Nat} {a b c : World} (h : Chg lo n a b) (k : Chg lo n b c) : Chg lo n a c :=
  ⟨k.os.trans h.os, k.tape.trans h.tape, k.output.trans h.output, k.size.trans h.size, fun i hi => (k.block i hi).trans (h.block i hi)⟩
theorem Chg.mono {lo n lo' n' : Nat} {a b : World} (h : Chg lo n a b) (h1 : lo' ≤ lo) (h2 : n ≤ n') : Chg lo' n' a b := ⟨h.os, h.tape, h.output, h.size, fun k hk => h.block k (by omega)⟩
theorem Chg.put {lo n : Nat} {a w : World} (h : Chg lo n a w) {b o : Nat} (h1 : lo ≤ b) (h2 : b < n) (u : Value) : Chg lo n a (w.setCell ⟨b, o, none⟩ u) :=
  h.trans ⟨rfl, rfl, rfl, by simp [World.setCell], fun k hk => Below.heap_setCell _ _ _ _ (by show k ≠ b; omega)⟩
theorem Chg.drewN {lo n : Nat} {a w : World} (h : Chg lo n a w) (q : Nat) : Chg lo n a (w.drewN q) := ⟨h.os, h.tape, h.output, h.size, h.block⟩
theorem Chg.below {lo n : Nat} {w w' : World} (h : Chg lo n w w') : Below lo w w' := ⟨h.os, h.tape, h.output, by rw [h.size]; exact Nat.le_refl _, fun k hk => h.block k (Or.inl hk)⟩

/-- From block lo on and below n the blocks of w' are those of w. -/
def SameB (lo n : Nat) (w w' : World) : Prop := ∀ k, lo ≤ k → k < n → w'.heap[k]? = w.heap[k]?
theorem SameB.of_below {lo n m : Nat} {w w' : World} (hb : Below m w w') (hm : n ≤ m) : SameB lo n w w' := fun k _ h => hb.block k (by omega)
theorem SameB.of_chg {lo n lo' n' : Nat} {w w' : World} (hc : Chg lo' n' w w') (h : n ≤ lo' ∨ n' ≤ lo) : SameB lo n w w' := fun k h1 h2 => hc.block k (by omega)

theorem SlW.same {α : Type} {mk : α → Value} {d : α} {lo n : Nat} {w w' : World} {v : Value} {xs : List α} (h : SlW mk d lo n w v xs) (hs : SameB lo n w w') : SlW mk d lo n w' v xs := by
  obtain ⟨a, cap, rfl, hl, hc⟩ := h
  refine ⟨a, cap, rfl, hl, fun hp => ?_⟩
  obtain ⟨b, off, rfl, h1, h2, ⟨c, t, hb⟩, hcell⟩ := hc hp
  have e := hs b h1 h2
  exact ⟨b, off, rfl, h1, h2, ⟨c, t, e.trans hb⟩, fun i hi => by rw [World.cell?_of_block (w := w) (a := ⟨b, off + i, none⟩) e]; exact hcell i hi⟩
theorem SlW.mono {α : Type} {mk : α → Value} {d : α} {lo n lo' n' : Nat} {w : World} {v : Value} {xs : List α} (h : SlW mk d lo n w v xs) (h1 : lo' ≤ lo) (h2 : n ≤ n') : SlW mk d lo' n' w v xs := by
  obtain ⟨a, cap, rfl, hl, hc⟩ := h
  refine ⟨a, cap, rfl, hl, fun hp => ?_⟩
  obtain ⟨b, off, rfl, h3, h4, h5, hcell⟩ := hc hp
  exact ⟨b, off, rfl, by omega, by omega, h5, hcell⟩

/-- v is a slice, element by element mk of xs, in a block from lo on and below n. -/
def SlAt {α : Type} (mk : α → Value) (d : α) (lo n : Nat) (w : World) (v : Value) (xs : List α) : Prop :=
  ∃ a cap, v = .slice a xs.length cap ∧ xs.length ≤ maxLen ∧
    (0 < xs.length → ∃ b off, a = some ⟨b, off, none⟩ ∧ lo ≤ b ∧ b < n ∧ ∀ i : Nat, i < xs.length → w.cell? ⟨b, off + i, none⟩ = some (mk (xs[i]?.getD d)))
theorem SlW.at {α : Type} {mk : α → Value} {d : α} {lo n : Nat} {w : World} {v : Value} {xs : List α} (h : SlW mk d lo n w v xs) : SlAt mk d lo n w v xs := by
  obtain ⟨a, cap, rfl, hl, hc⟩ := h
  refine ⟨a, cap, rfl, hl, fun hp => ?_⟩
  obtain ⟨b, off, rfl, h3, h4, h5, hcell⟩ := hc hp
  exact ⟨b, off, rfl, h3, h4, hcell⟩
theorem SlAt.same {α : Type} {mk : α → Value} {d : α} {lo n : Nat} {w w' : World} {v : Value} {xs : List α} (h : SlAt mk d lo n w v xs) (hs : Same lo n w w') : SlAt mk d lo n w' v xs := by
  obtain ⟨a, cap, rfl, hl, hc⟩ := h
  refine ⟨a, cap, rfl, hl, fun hp => ?_⟩
  obtain ⟨b, off, rfl, hlo, hbn, hcell⟩ := hc hp
  exact ⟨b, off, rfl, hlo, hbn, fun i hi => by rw [hs b _ hlo hbn]; exact hcell i hi⟩
theorem SlAt.mono {α : Type} {mk : α → Value} {d : α} {lo n lo' n' : Nat} {w : World} {v : Value} {xs : List α} (h : SlAt mk d lo n w v xs) (h1 : lo' ≤ lo) (h2 : n ≤ n') : SlAt mk d lo' n' w v xs := by
  obtain ⟨a, cap, rfl, hl, hc⟩ := h
  refine ⟨a, cap, rfl, hl, fun hp => ?_⟩
  obtain ⟨b, off, rfl, h3, h4, hcell⟩ := hc hp
  exact ⟨b, off, rfl, by omega, by omega, hcell⟩
theorem SlAt.below {α : Type} {mk : α → Value} {d : α} {lo m : Nat} {w w' : World} {v : Value} {xs : List α} (h : SlAt mk d lo w.heap.size w v xs) (hb : Below m w w') (hm : w.heap.size ≤ m) : SlAt mk d lo w'.heap.size w' v xs :=
  (h.same (Same.of_below hb hm)).mono (Nat.le_refl _) hb.size

/-- A slice whose length is within its capacity. -/
def CapOk (v : Value) : Prop := ∃ a n c, v = .slice a n c ∧ n ≤ c ∧ c ≤ maxLen
theorem CapOk.le {a : Option Addr} {n c : Nat} (h : CapOk (.slice a n c)) : n ≤ c ∧ c ≤ maxLen := by
  obtain ⟨a', n', c', e, h1⟩ := h
  cases e
  exact h1
theorem CapOk.mk {a : Option Addr} {n c : Nat} (h : n ≤ c) (h2 : c ≤ maxLen) : CapOk (.slice a n c) := ⟨a, n, c, rfl, h, h2⟩

def mI (x : Int) : Value := .int .i64 x
def mB (x : Int) : Value := .int .u8 x
def mT (x : Bool) : Value := .bool x

theorem frz {w : World} {b j : Nat} (h : ∃ c t, w.heap[b]? = some (.cells c t (0, 0))) : w.frozen? ⟨b, j, none⟩ = false := by
  obtain ⟨c, t, hb⟩ := h
  simp [World.frozen?, hb]

/-- The numbers k, k + 1, .. -/
def cnts (k : Int) (n : Nat) : List Int := (List.range n).map (fun i : Nat => k + (i : Int))
theorem cnts_len (k : Int) (n : Nat) : (cnts k n).length = n := by simp [cnts]
theorem cnts_get (k : Int) (n i : Nat) (h : i < n) : (cnts k n)[i]?.getD 0 = k + i := by simp [cnts, h]

theorem put_same {w : World} {b o : Nat} {u v : Value} (h : w.cell? ⟨b, o, none⟩ = some u) : (w.setCell ⟨b, o, none⟩ v).cell? ⟨b, o, none⟩ = some v := by
  apply World.cell?_setCell_same
  exact h
theorem put_other {w : World} {b o b' o' : Nat} {v : Value} (h : b ≠ b' ∨ o ≠ o') : (w.setCell ⟨b, o, none⟩ v).cell? ⟨b', o', none⟩ = w.cell? ⟨b', o', none⟩ := by
  apply World.cell?_setCell_other
  intro e
  simp only [Addr.mk.injEq] at e
  omega

/-- One store more into a row of its own. -/
theorem own_put {w : World} {b j : Nat} {u : Value} (h : ∃ c t, w.heap[b]? = some (.cells c t (0, 0))) : ∃ c t, (w.setCell ⟨b, j, none⟩ u).heap[b]? = some (.cells c t (0, 0)) := by
  obtain ⟨c, t, hb⟩ := h
  exact ⟨c.setIfInBounds j u, t, by simp [World.setCell, Array.getElem?_modify, hb]⟩


set_option maxHeartbeats 400000 in
theorem markIntS_any (v : Value) (xs : List Int) (k : Int) (lo n : Nat) (w : World) (hv : SlW mI 0 lo n w v xs) (k0 : 0 ≤ k) (k1 : k ≤ 4611686018427387904) (hlen : xs.length ≤ 4194304) :
    Calls Try.prog 40 #[v, .int .i64 k] w fun e w' => e = .returned (.int .i64 (k + xs.length)) ∧ SlW mI 0 lo n w' v (cnts k xs.length) ∧ Chg lo n w w' := by
  obtain ⟨a, cap, rfl, hl, hc⟩ := hv
  go_enter Try.func40, Try.ntmps40
  go_wp2
  go_loopw [1, 5] (fun q i wr => ∃ m : Nat, m ≤ xs.length ∧ i = .int .i64 m ∧ q = .int .i64 (k + m) ∧ (0 < xs.length → ∃ b off, a = some ⟨b, off, none⟩ ∧ lo ≤ b ∧ b < n ∧ (∃ c t, wr.heap[b]? = some (.cells c t (0, 0))) ∧
    (∀ j : Nat, j < m → wr.cell? ⟨b, off + j, none⟩ = some (.int .i64 (k + j))) ∧ ∀ j : Nat, m ≤ j → j < xs.length → ∃ u, wr.cell? ⟨b, off + j, none⟩ = some u) ∧ Chg lo n w wr) (fun _ i _ => xs.length - (intOf i).toNat)
  case atStart =>
    refine ⟨0, Nat.zero_le _, rfl, by simp, fun hp => ?_, Chg.refl _ _ _⟩
    obtain ⟨b, off, e, h1, h2, h3, hcell⟩ := hc hp
    exact ⟨b, off, e, h1, h2, h3, fun j hj => absurd hj (Nat.not_lt_zero _), fun j _ hj => ⟨_, hcell j hj⟩⟩
  case round =>
    obtain ⟨m, hm, rfl, rfl, hrow, hch⟩ := hrel
    by_cases hlt : m < xs.length
    · obtain ⟨b, off, rfl, h1, h2, h3, hold, hnew⟩ := hrow (by omega)
      obtain ⟨u, hu⟩ := hnew m (Nat.le_refl _) hlt
      have hf := frz (j := off + m) h3
      have hlt' : (m : Int) < (xs.length : Int) := by omega
      have H3 := hide h3
      have Hold := hide hold
      have Hnew := hide hnew
      clear h3 hold hnew hc
      go_wp2
      refine ⟨⟨m + 1, by omega, by go_num, by congr 1; omega, fun _ => ⟨b, off, rfl, h1, h2, own_put (unhide H3), fun j hj => ?_, fun j hj1 hj2 => ?_⟩, hch.put h1 h2 _⟩, by simp [intOf]; omega⟩
      · by_cases e : j = m
        · subst e
          exact put_same hu
        · rw [put_other (Or.inr (by omega))]
          exact unhide Hold j (by omega)
      · rw [put_other (Or.inr (by omega))]
        exact unhide Hnew j (by omega) hj2
    · obtain rfl : m = xs.length := by omega
      have Hrow := hide hrow
      clear hrow hc
      go_wp2
      go_ret
      refine ⟨rfl, ⟨a, cap, by rw [cnts_len], by rw [cnts_len]; exact hl, fun hp => ?_⟩, hch⟩
      rw [cnts_len] at hp
      obtain ⟨b, off, e, h1, h2, h3, hold, -⟩ := unhide Hrow hp
      refine ⟨b, off, e, h1, h2, h3, fun i hi => ?_⟩
      rw [cnts_len] at hi
      rw [hold i hi, cnts_get k _ i hi]
      rfl

set_option maxHeartbeats 400000 in
theorem heldIntS_any (v : Value) (n : Nat) (k : Int) (lo hi : Nat) (w : World) (hv : SlAt mI 0 lo hi w v (cnts k n)) (k0 : 0 ≤ k) (k1 : k ≤ 4611686018427387904) (hlen : n ≤ 4194304) :
    Calls Try.prog 41 #[v, .int .i64 k] w fun e w' => e = .returned (.int .i64 (k + n)) ∧ w' = w := by
  obtain ⟨a, cap, rfl, hl, hc⟩ := hv
  rw [cnts_len] at hl hc ⊢
  go_enter Try.func41, Try.ntmps41
  go_wp2
  go_loop [1, 5] (fun q i => ∃ m : Nat, m ≤ n ∧ i = .int .i64 m ∧ q = .int .i64 (k + m)) (fun _ i => n - (intOf i).toNat)
  case atStart => exact ⟨0, Nat.zero_le _, rfl, by simp⟩
  case round =>
    obtain ⟨m, hm, rfl, rfl⟩ := hrel
    by_cases hlt : m < n
    · obtain ⟨b, off, rfl, -, -, hcell⟩ := hc (by omega)
      have hx := hcell m hlt
      rw [cnts_get k n m hlt] at hx
      unfold mI at hx
      have hlt' : (m : Int) < (n : Int) := by omega
      clear hcell hc
      go_wp2
      go_round
      case rel => exact ⟨m + 1, by omega, by go_num, by congr 1; omega⟩
      case measure => simp [intOf]; omega
    · obtain rfl : m = n := by omega
      clear hc
      go_wp2
      go_ret
      exact ⟨rfl, rfl⟩


theorem Try.zinInt : (Try.prog.info? 3).map (fun i => (i.zero, i.size, i.bytes)) = some (some (.int .i64 0), 1, 8) := by kernel_rfl

set_option maxHeartbeats 400000 in
theorem eqIntS_w (u v : Value) (xs : List Int) (w : World) (hu : SlAt mI 0 0 w.heap.size w u xs) (hv : SlAt mI 0 0 w.heap.size w v xs) :
    Calls Try.prog 50 #[u, v] w fun e w' => e = .returned (.bool true) ∧ ∃ n, w' = w.drewN n := by
  obtain ⟨a, cap, rfl, hl, hc⟩ := hu
  obtain ⟨a2, cap2, rfl, -, hc2⟩ := hv
  unfold maxLen at hl
  go_enter Try.func50, Try.ntmps50
  go_wp2
  go_loopw [5] (fun i wr => ∃ k : Nat, k ≤ xs.length ∧ i = .int .i64 k ∧ ∃ n, wr = w.drewN n) (fun i _ => xs.length - (intOf i).toNat)
  case atStart => exact ⟨0, Nat.zero_le _, rfl, 0, rfl⟩
  case round =>
    obtain ⟨k, hk, rfl, n, rfl⟩ := hrel
    by_cases hlt : k < xs.length
    · obtain ⟨b, off, rfl, -, hbn, hcell⟩ := hc (by omega)
      obtain ⟨b2, off2, rfl, -, hbn2, hcell2⟩ := hc2 (by omega)
      have hx : w.cell? ⟨b, off + k, none⟩ = some (.int .i64 (xs[k]?.getD 0)) := hcell k hlt
      have hx2 : w.cell? ⟨b2, off2 + k, none⟩ = some (.int .i64 (xs[k]?.getD 0)) := hcell2 k hlt
      have hlt' : (k : Int) < (xs.length : Int) := by omega
      clear hcell hcell2 hc hc2
      generalize xs[k]?.getD 0 = x at *
      go_wp2
      go_quiet (fail)
      go_wp2
      go_roundw
      case rel => exact ⟨k + 1, by omega, by go_num, _, rfl⟩
      case measure => simp [intOf]; omega
    · obtain rfl : k = xs.length := by omega
      clear hc hc2
      go_wp2
      go_ret
      exact ⟨rfl, _, rfl⟩

theorem Try.zinByte : (Try.prog.info? 5).map (fun i => (i.zero, i.size, i.bytes)) = some (some (.int .u8 0), 1, 1) := by kernel_rfl

set_option maxHeartbeats 400000 in
set_option maxRecDepth 100000 in
theorem toByteS_wc (v : Value) (xs : List Int) (w : World) (hv : SlAt mB 0 0 w.heap.size w v xs) (hlen : xs.length ≤ 1048576) :
    Calls Try.prog 5 #[v] w fun e w' => ∃ v', e = .returned v' ∧ SlW mB 0 w.heap.size w'.heap.size w' v' xs ∧ CapOk v' ∧ Below w.heap.size w w' := by
  obtain ⟨a, cap, rfl, hl, hc⟩ := hv
  have hmk := run_make_row' (P := Try.prog) 22 5 (.int .u8 0) 1 Try.underlying22 Try.zinByte rfl .i64 .i64 xs.length (by omega) (by omega)
  go_enter Try.func5, Try.ntmps5
  go_wp2
  go_loopw [4] (fun i wr => ∃ k : Nat, k ≤ xs.length ∧ i = .int .i64 k ∧ wr.rowIs w.heap.size 5 xs.length (fun j => if j < k then .int .u8 (xs[j]?.getD 0) else .int .u8 0) ∧ Below w.heap.size w wr) (fun i _ => xs.length - (intOf i).toNat)
  case atStart => exact ⟨0, Nat.zero_le _, rfl, (World.rowIs_made w (.int .u8 0) xs.length 5).congr (by simp), (Below.refl _ _).alloc (Nat.le_refl _) _⟩
  case round =>
    obtain ⟨k, hk, rfl, hrow, hb⟩ := hrel
    by_cases hlt : k < xs.length
    · obtain ⟨b, off, rfl, -, hbn, hcell⟩ := hc (by omega)
      have hx : wr.cell? ⟨b, off + k, none⟩ = some (.int .u8 (xs[k]?.getD 0)) := by rw [hb.cell (p := ⟨b, off + k, none⟩) hbn]; exact hcell k hlt
      have hlt' : (k : Int) < (xs.length : Int) := by omega
      have hw := hrow.cell hlt
      have hf := hrow.frozen k
      have hrow' := hide hrow
      clear hmk hrow hcell hc
      generalize hX : xs[k]?.getD 0 = x at *
      have HX := hide hX
      clear hX
      go_wp2
      refine ⟨⟨k + 1, by omega, by go_num, ?_, hb.setCell (Nat.le_refl _) _⟩, by simp [intOf]; omega⟩
      refine ((unhide hrow').set k _).congr ?_
      intro j hj
      by_cases e : j = k
      · subst e; simp only [if_true]; rw [if_pos (by omega), unhide HX]
      · have e2 : j < k + 1 ↔ j < k := by omega
        simp only [e, if_false, e2]
    · obtain rfl : k = xs.length := by omega
      have hrow' := hide hrow
      clear hmk hrow hc
      go_wp2
      go_ret
      have hrow := unhide hrow'
      refine ⟨_, rfl, ⟨some ⟨w.heap.size, 0, none⟩, xs.length, rfl, hl, fun _ => ⟨w.heap.size, 0, rfl, Nat.le_refl _, hrow.lt, ?_, fun i hi => by rw [Nat.zero_add, hrow.cell hi, if_pos hi]; rfl⟩⟩, CapOk.mk (Nat.le_refl _) hl, hb⟩
      obtain ⟨c, hcb, -⟩ := hrow
      exact ⟨c, _, hcb⟩
theorem toByteS_w (v : Value) (xs : List Int) (w : World) (hv : SlAt mB 0 0 w.heap.size w v xs) (hlen : xs.length ≤ 1048576) :
    Calls Try.prog 5 #[v] w fun e w' => ∃ v', e = .returned v' ∧ SlW mB 0 w.heap.size w'.heap.size w' v' xs ∧ Below w.heap.size w w' :=
  (toByteS_wc v xs w hv hlen).mono (fun _ _ ⟨v', h1, h2, _, h3⟩ => ⟨v', h1, h2, h3⟩)

set_option maxHeartbeats 400000 in
theorem eqByteS_w (u v : Value) (xs : List Int) (w : World) (hu : SlAt mB 0 0 w.heap.size w u xs) (hv : SlAt mB 0 0 w.heap.size w v xs) :
    Calls Try.prog 8 #[u, v] w fun e w' => e = .returned (.bool true) ∧ ∃ n, w' = w.drewN n := by
  obtain ⟨a, cap, rfl, hl, hc⟩ := hu
  obtain ⟨a2, cap2, rfl, -, hc2⟩ := hv
  unfold maxLen at hl
  go_enter Try.func8, Try.ntmps8
  go_wp2
  go_loopw [5] (fun i wr => ∃ k : Nat, k ≤ xs.length ∧ i = .int .i64 k ∧ ∃ n, wr = w.drewN n) (fun i _ => xs.length - (intOf i).toNat)
  case atStart => exact ⟨0, Nat.zero_le _, rfl, 0, rfl⟩
  case round =>
    obtain ⟨k, hk, rfl, n, rfl⟩ := hrel
    by_cases hlt : k < xs.length
    · obtain ⟨b, off, rfl, -, hbn, hcell⟩ := hc (by omega)
      obtain ⟨b2, off2, rfl, -, hbn2, hcell2⟩ := hc2 (by omega)
      have hx : w.cell? ⟨b, off + k, none⟩ = some (.int .u8 (xs[k]?.getD 0)) := hcell k hlt
      have hx2 : w.cell? ⟨b2, off2 + k, none⟩ = some (.int .u8 (xs[k]?.getD 0)) := hcell2 k hlt
      have hlt' : (k : Int) < (xs.length : Int) := by omega
      clear hcell hcell2 hc hc2
      generalize xs[k]?.getD 0 = x at *
      go_wp2
      go_quiet (fail)
      go_wp2
      go_roundw
      case rel => exact ⟨k + 1, by omega, by go_num, _, rfl⟩
      case measure => simp [intOf]; omega
    · obtain rfl : k = xs.length := by omega
      clear hc hc2
      go_wp2
      go_ret
      exact ⟨rfl, _, rfl⟩

theorem Try.zinBool : (Try.prog.info? 4).map (fun i => (i.zero, i.size, i.bytes)) = some (some (.bool false), 1, 1) := by kernel_rfl


/-- The marks of bytes and of bools. -/
def cntB (k : Int) (n : Nat) : List Int := (List.range n).map (fun i : Nat => (k + (i : Int)) % 256)
theorem cntB_len (k : Int) (n : Nat) : (cntB k n).length = n := by simp [cntB]
theorem cntB_get (k : Int) (n i : Nat) (h : i < n) : (cntB k n)[i]?.getD 0 = (k + i) % 256 := by simp [cntB, h]
def cntT (k : Int) (n : Nat) : List Bool := (List.range n).map (fun i : Nat => ((k + (i : Int)) % 3 == 0))
theorem cntT_len (k : Int) (n : Nat) : (cntT k n).length = n := by simp [cntT]
theorem cntT_get (k : Int) (n i : Nat) (h : i < n) : (cntT k n)[i]?.getD false = ((k + (i : Int)) % 3 == 0) := by simp [cntT, h]

set_option maxHeartbeats 400000 in
theorem markByteS_any (v : Value) (xs : List Int) (k : Int) (lo n : Nat) (w : World) (hv : SlW mB 0 lo n w v xs) (k0 : 0 ≤ k) (k1 : k ≤ 4611686018427387904) (hlen : xs.length ≤ 4194304) :
    Calls Try.prog 9 #[v, .int .i64 k] w fun e w' => e = .returned (.int .i64 (k + xs.length)) ∧ SlW mB 0 lo n w' v (cntB k xs.length) ∧ Chg lo n w w' := by
  obtain ⟨a, cap, rfl, hl, hc⟩ := hv
  go_enter Try.func9, Try.ntmps9
  go_wp2
  go_loopw [1, 5] (fun q i wr => ∃ m : Nat, m ≤ xs.length ∧ i = .int .i64 m ∧ q = .int .i64 (k + m) ∧ (0 < xs.length → ∃ b off, a = some ⟨b, off, none⟩ ∧ lo ≤ b ∧ b < n ∧ (∃ c t, wr.heap[b]? = some (.cells c t (0, 0))) ∧
    (∀ j : Nat, j < m → wr.cell? ⟨b, off + j, none⟩ = some (.int .u8 ((k + j) % 256))) ∧ ∀ j : Nat, m ≤ j → j < xs.length → ∃ u, wr.cell? ⟨b, off + j, none⟩ = some u) ∧ Chg lo n w wr) (fun _ i _ => xs.length - (intOf i).toNat)
  case atStart =>
    refine ⟨0, Nat.zero_le _, rfl, by simp, fun hp => ?_, Chg.refl _ _ _⟩
    obtain ⟨b, off, e, h1, h2, h3, hcell⟩ := hc hp
    exact ⟨b, off, e, h1, h2, h3, fun j hj => absurd hj (Nat.not_lt_zero _), fun j _ hj => ⟨_, hcell j hj⟩⟩
  case round =>
    obtain ⟨m, hm, rfl, rfl, hrow, hch⟩ := hrel
    by_cases hlt : m < xs.length
    · obtain ⟨b, off, rfl, h1, h2, h3, hold, hnew⟩ := hrow (by omega)
      obtain ⟨u, hu⟩ := hnew m (Nat.le_refl _) hlt
      have hf := frz (j := off + m) h3
      have hlt' : (m : Int) < (xs.length : Int) := by omega
      have H3 := hide h3
      have Hold := hide hold
      have Hnew := hide hnew
      clear h3 hold hnew hc
      go_wp2
      refine ⟨⟨m + 1, by omega, by go_num, by congr 1; omega, fun _ => ⟨b, off, rfl, h1, h2, own_put (unhide H3), fun j hj => ?_, fun j hj1 hj2 => ?_⟩, hch.put h1 h2 _⟩, by simp [intOf]; omega⟩
      · by_cases e : j = m
        · subst e
          exact put_same hu
        · rw [put_other (Or.inr (by omega))]
          exact unhide Hold j (by omega)
      · rw [put_other (Or.inr (by omega))]
        exact unhide Hnew j (by omega) hj2
    · obtain rfl : m = xs.length := by omega
      have Hrow := hide hrow
      clear hrow hc
      go_wp2
      go_ret
      refine ⟨rfl, ⟨a, cap, by rw [cntB_len], by rw [cntB_len]; exact hl, fun hp => ?_⟩, hch⟩
      rw [cntB_len] at hp
      obtain ⟨b, off, e, h1, h2, h3, hold, -⟩ := unhide Hrow hp
      refine ⟨b, off, e, h1, h2, h3, fun i hi => ?_⟩
      rw [cntB_len] at hi
      rw [hold i hi, cntB_get k _ i hi]
      rfl

end Go.Proofs.Ytjjmgegbeccjoaa
