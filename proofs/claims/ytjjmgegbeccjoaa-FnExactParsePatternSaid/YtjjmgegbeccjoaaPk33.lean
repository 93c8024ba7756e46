import Derived.Test.YtjjmgegbeccjoaaX1
import Derived.Test.YtjjmgegbeccjoaaPk5
import Derived.Test.YtjjmgegbeccjoaaPk1
import Derived.Test.YtjjmgegbeccjoaaB0
import Derived.Deep.QuietTactic
import Derived.BigQuiet
import Derived.WalkSmall
import Derived.Deep.RegionWith
import Derived.Test.YtjjmgegbeccjoaaPk32
import Derived.Lib.SmallJoins
import Derived.Deep.Slices
import Derived.OpenShut
import Derived.Test.YtjjmgegbeccjoaaPk3
import Derived.ShutString
import Derived.ChangeOld
namespace Go.Proofs.Ytjjmgegbeccjoaa
open Go.RowKit

def MkF (S : Nat → Prop) (w0 w : World) (k : Int) (xs : List El) (b off : Nat) (sv : Nat → Value) (T : Nat → Nat → Prop) (m : Nat) : Prop :=
  Free w b ∧ (∀ i : Nat, i < xs.length → El4 w b (off + i * 4) (mixE k xs m i) (sv i)) ∧ (∀ i : Nat, i < xs.length → SlF mI 0 (T i) w (sv i) (mixE k xs m i).set) ∧ ChgF S w0 w

theorem mkF_step {S : Nat → Prop} {w0 wr w1 : World} {k : Int} {xs : List El} {b off : Nat} {sv : Nat → Value} {T : Nat → Nat → Prop} {m : Nat} (h : MkF S w0 wr k xs b off sv T m) (hm : m < xs.length) (hS : S b)
    (h5 : ∀ i : Nat, i < xs.length → ∀ k, T i k → S k ∧ k ≠ b) (h6 : ∀ i j : Nat, i < xs.length → j < xs.length → i ≠ j → ∀ k, T i k → ¬ T j k) (K : Int) (hK : K = endE k (xs.take m)) (L : Int) (hL : L = (xs[m]?.getD dE).set.length)
    (hc : ChgF (T m) (wr.setCell ⟨b, off + m * 4, none⟩ (.int .i64 K)) w1) (hs : SlF mI 0 (T m) w1 (sv m) (cnts (K + 1) (xs[m]?.getD dE).set.length)) (w2 : World)
    (hw : w2 = (w1.setCell ⟨b, off + m * 4 + 2, none⟩ (.int .i64 (K + 1 + L))).setCell ⟨b, off + m * 4 + 3, none⟩ (.int .i64 (K + 2 + L))) : MkF S w0 w2 k xs b off sv T (m + 1) := by
  subst hw
  obtain ⟨hu, h4, h7, hch⟩ := h
  have eb : w1.heap[b]? = (wr.setCell ⟨b, off + m * 4, none⟩ (.int .i64 K)).heap[b]? := hc.block b (fun q => (h5 m hm b q).2 rfl)
  have hput : ∀ (w : World) (o : Nat) (u : Value) (j : Nat), j ≠ b → (w.setCell ⟨b, o, none⟩ u).heap[j]? = w.heap[j]? := fun w o u j hne => Below.heap_setCell _ _ _ _ (by exact hne)
  have hmark := marksE_get k xs m hm
  rw [← hK, ← hL] at hmark
  refine ⟨((hu.put.same eb).put).put, fun i hi => ?_, fun i hi => ?_, ?_⟩
  · by_cases e : i = m
    · subst e
      have q := h4 i hi
      unfold mixE at q ⊢
      rw [if_neg (by omega)] at q
      rw [if_pos (by omega), hmark]
      exact (((q.putK K).same eb).putM (K + 1 + L)).putX (K + 2 + L)
    · have q := h4 i hi
      have e2 : mixE k xs (m + 1) i = mixE k xs m i := by
        unfold mixE
        by_cases e3 : i < m
        · rw [if_pos e3, if_pos (by omega)]
        · rw [if_neg e3, if_neg (by omega)]
      rw [e2]
      exact (((q.put (by omega)).same eb).put (by omega)).put (by omega)
  · by_cases e : i = m
    · subst e
      unfold mixE
      rw [if_pos (by omega), hmark]
      exact hs.same (fun j hj => (hput _ _ _ j (h5 i hi j hj).2).trans (hput _ _ _ j (h5 i hi j hj).2))
    · have q := h7 i hi
      have e2 : mixE k xs (m + 1) i = mixE k xs m i := by
        unfold mixE
        by_cases e3 : i < m
        · rw [if_pos e3, if_pos (by omega)]
        · rw [if_neg e3, if_neg (by omega)]
      rw [e2]
      exact q.same (fun j hj => (hput _ _ _ j (h5 i hi j hj).2).trans ((hput _ _ _ j (h5 i hi j hj).2).trans ((hc.block j (h6 i m hi hm e j hj)).trans (hput _ _ _ j (h5 i hi j hj).2))))
  · exact (((hch.put hS _).trans (hc.mono (fun j hj => (h5 m hm j hj).1))).put hS _).put hS _

set_option maxHeartbeats 1000000 in
set_option maxRecDepth 100000 in
theorem markOpS_f (v : Value) (xs : List El) (k : Int) (S : Nat → Prop) (w : World) (hv : ElsF S w v xs) (k0 : 0 ≤ k) (k1 : k ≤ 1048576) (hlen : xs.length + bulk xs ≤ 1048576) (hset : ∀ i : Nat, (xs[i]?.getD dE).set.length ≤ 1048576) :
    Calls Try.prog 20 #[v, .int .i64 k] w fun e w' => e = .returned (.int .i64 (endE k xs)) ∧ ElsF S w' v (marksE k xs) ∧ ChgF S w w' := by
  obtain ⟨a, cap, rfl, hl, hc⟩ := hv
  by_cases hp : 0 < xs.length
  · obtain ⟨b, off, sv, T, rfl, h1, h3, h4, h7, h5, h6⟩ := hc hp
    have hst0 : MkF S w w k xs b off sv T 0 := ⟨h3, fun i hi => by unfold mixE; rw [if_neg (by omega)]; exact h4 i hi, fun i hi => by unfold mixE; rw [if_neg (by omega)]; exact h7 i hi, ChgF.refl _ _⟩
    have Hst0 := hide hst0
    have H5 := hide h5
    have H6 := hide h6
    have Hset := hide hset
    clear hc h3 h4 h5 h6 h7 hst0 hset
    go_enter Try.func20, Try.ntmps20
    go_wp2
    go_loopw [1, 5] (fun q i wr => ∃ m : Nat, m ≤ xs.length ∧ i = .int .i64 m ∧ q = .int .i64 (endE k (xs.take m)) ∧ MkF S w wr k xs b off sv T m) (fun _ i _ => xs.length - (intOf i).toNat)
    case atStart => exact ⟨0, Nat.zero_le _, rfl, by simp [endE], unhide Hst0⟩
    case round =>
      obtain ⟨m, hm, rfl, rfl, hmk⟩ := hrel
      have Hmk := hide hmk
      have hbd := endE_bd k (xs.take m)
      have hbk : bulk (xs.take m) ≤ bulk xs := by
        have hb : ∀ (l : List El) (j : Nat), bulk (l.take j) ≤ bulk l := by
          intro l
          induction l with
          | nil => intro j; simp [bulk]
          | cons x r ih => intro j; cases j with
            | zero => simp [bulk]
            | succ j => have := ih j; simp only [List.take_succ_cons, bulk]; omega
        exact hb xs m
      have hbl : (xs.take m).length ≤ m := List.length_take_le _ _
      have hK1 : 0 ≤ endE k (xs.take m) := by omega
      have hK2 : endE k (xs.take m) ≤ 4194304 := by omega
      clear hbd hbk hbl
      by_cases hlt : m < xs.length
      · obtain ⟨hu, hq4, hq7, -⟩ := hmk
        have hc4 := hq4 m hlt
        have hc7 := hq7 m hlt
        unfold mixE at hc4 hc7
        rw [if_neg (by omega)] at hc4 hc7
        obtain ⟨g0, g1, g2, g3⟩ := hc4
        have f0 := frz (j := off + m * 4) hu
        have f2 := frz (j := off + m * 4 + 2) hu
        have f3 := frz (j := off + m * 4 + 3) hu
        have hlt' : (m : Int) < (xs.length : Int) := by omega
        have hse := unhide Hset m
        have hstep := endE_step k xs m hlt
        have hxl : Hid ((xs[m]?.getD dE).set.length = (xs[m]?.getD dE).set.length) := rfl
        generalize hK : endE k (xs.take m) = K at *
        have HK := hide hK
        have Hstep := hide hstep
        have Hc7 := hide hc7
        obtain ⟨sa, sc, hsv⟩ : ∃ sa sc, sv m = .slice sa (xs[m]?.getD dE).set.length sc := by
          exact hc7.val
        rw [hsv] at g1
        have Hu := hide hu
        have Hsv := hide hsv
        clear hq4 hq7 hK hstep hc7 hsv hxl hu
        generalize hX : xs[m]?.getD dE = x at *
        have HX := hide hX
        clear hX
        go_wp2_with fail
        obtain ⟨lo, n, hw7, hT7⟩ := (unhide Hc7).same (w' := wr.setCell ⟨b, off + m * 4, none⟩ (.int .i64 K)) (fun j hj => Below.heap_setCell _ _ _ _ (by exact (unhide H5 m hlt j hj).2))
        rw [unhide Hsv] at hw7
        refine (markIntS_any _ x.set (K + 1) lo n _ hw7 (by omega) (by omega) (by omega)).mono ?_
        rintro e w1 ⟨rfl, hs0, hc0⟩
        have hc1 := hc0.foot hT7
        have hs1 : SlF mI 0 (T m) w1 _ _ := ⟨lo, n, hs0, hT7⟩
        clear hs0 hc0 hw7
        have eb : w1.heap[b]? = (wr.setCell ⟨b, off + m * 4, none⟩ (.int .i64 K)).heap[b]? := hc1.block b (fun q => (unhide H5 m hlt b q).2 rfl)
        have r2 : w1.cell? ⟨b, off + m * 4 + 2, none⟩ = some (.int .i64 x.mn) := by rw [World.cell?_of_block (a := ⟨b, off + m * 4 + 2, none⟩) eb, put_other (Or.inr (by omega))]; exact g2
        have r3 : w1.cell? ⟨b, off + m * 4 + 3, none⟩ = some (.int .i64 x.mx) := by rw [World.cell?_of_block (a := ⟨b, off + m * 4 + 3, none⟩) eb, put_other (Or.inr (by omega))]; exact g3
        have hu1 : Free w1 b := (unhide Hu).put.same eb
        have t2 := frz (j := off + m * 4 + 2) hu1
        have t3 := frz (j := off + m * 4 + 3) hu1
        have Hs1 := hide hs1
        have Hc1 := hide hc1
        clear hs1 hc1 eb hu1 g0 g1 g2 g3 f0 f2 f3
        go_wp2
        have hst := mkF_step (unhide Hmk) hlt h1 (unhide H5) (unhide H6) K (unhide HK).symm (x.set.length : Int) (by rw [unhide HX]) (unhide Hc1) (by rw [unhide HX, unhide Hsv]; exact unhide Hs1) _ rfl
        have e3 : K + 1 + (x.set.length : Int) + 1 = K + 2 + (x.set.length : Int) := by omega
        rw [e3]
        exact ⟨⟨m + 1, by omega, by go_num, by rw [unhide Hstep]; congr 1; omega, hst⟩, by simp [intOf]; omega⟩
      · obtain rfl : m = xs.length := by omega
        clear hK1 hK2
        go_wp2
        go_ret
        obtain ⟨q3, q4, q7, q8⟩ := unhide Hmk
        refine ⟨ret_int (by rw [List.take_length]), ⟨_, cap, by rw [marksE_len], by rw [marksE_len]; exact hl, fun _ => ⟨b, off, sv, T, rfl, h1, q3, fun i hi => ?_, fun i hi => ?_, fun i hi => unhide H5 i (by rwa [marksE_len] at hi), fun i j hi hj hne => unhide H6 i j (by rwa [marksE_len] at hi) (by rwa [marksE_len] at hj) hne⟩⟩, q8⟩
        · rw [marksE_len] at hi
          have := q4 i hi
          unfold mixE at this
          rwa [if_pos hi] at this
        · rw [marksE_len] at hi
          have := q7 i hi
          unfold mixE at this
          rwa [if_pos hi] at this
  · obtain rfl : xs = [] := List.eq_nil_of_length_eq_zero (by omega)
    clear hc
    go_enter Try.func20, Try.ntmps20
    go_wp2
    go_loop [1, 5] (fun q i => q = .int .i64 k ∧ i = .int .i64 0) (fun _ _ => 0)
    case atStart => exact ⟨rfl, rfl⟩
    case round =>
      obtain ⟨rfl, rfl⟩ := hrel
      go_wp2
      go_ret
      exact ⟨rfl, ⟨a, cap, rfl, hl, fun h => absurd h (by simp [marksE])⟩, ChgF.refl _ _⟩

set_option maxHeartbeats 1000000 in
set_option maxRecDepth 100000 in
theorem heldOpS_f (v : Value) (xs : List El) (k : Int) (S : Nat → Prop) (w : World) (hv : ElsF S w v (marksE k xs)) (k0 : 0 ≤ k) (k1 : k ≤ 1048576) (hlen : xs.length + bulk xs ≤ 1048576) (hset : ∀ i : Nat, (xs[i]?.getD dE).set.length ≤ 1048576) :
    Calls Try.prog 21 #[v, .int .i64 k] w fun e w' => e = .returned (.int .i64 (endE k xs)) ∧ w' = w := by
  obtain ⟨a, cap, rfl, hl, hc⟩ := hv
  rw [marksE_len] at hc ⊢
  have Hset := hide hset
  have Hc := hide hc
  clear hc hset
  go_enter Try.func21, Try.ntmps21
  go_wp2
  go_loop [1, 5] (fun q i => ∃ m : Nat, m ≤ xs.length ∧ i = .int .i64 m ∧ q = .int .i64 (endE k (xs.take m))) (fun _ i => xs.length - (intOf i).toNat)
  case atStart => exact ⟨0, Nat.zero_le _, rfl, by simp [endE]⟩
  case round =>
    obtain ⟨m, hm, rfl, rfl⟩ := hrel
    have hbd := endE_bd k (xs.take m)
    have hbk : bulk (xs.take m) ≤ bulk xs := by
      have hb : ∀ (l : List El) (j : Nat), bulk (l.take j) ≤ bulk l := by
        intro l
        induction l with
        | nil => intro j; simp [bulk]
        | cons x r ih => intro j; cases j with
          | zero => simp [bulk]
          | succ j => have := ih j; simp only [List.take_succ_cons, bulk]; omega
      exact hb xs m
    have hbl : (xs.take m).length ≤ m := List.length_take_le _ _
    have hK1 : 0 ≤ endE k (xs.take m) := by omega
    have hK2 : endE k (xs.take m) ≤ 4194304 := by omega
    clear hbd hbk hbl
    by_cases hlt : m < xs.length
    · obtain ⟨b, off, sv, T, rfl, h1, -, h4, h7, -, -⟩ := unhide Hc (by omega)
      have hc4 := h4 m hlt
      have hc7 := h7 m hlt
      rw [marksE_get k xs m hlt] at hc4 hc7
      obtain ⟨g0, g1, g2, g3⟩ := hc4
      simp only at g0 g1 g2 g3 hc7
      have hlt' : (m : Int) < (xs.length : Int) := by omega
      have hse := unhide Hset m
      have hstep := endE_step k xs m hlt
      generalize hK : endE k (xs.take m) = K at *
      have Hstep := hide hstep
      have Hc7 := hide hc7
      obtain ⟨sa, sc, hsv⟩ : ∃ sa sc, sv m = .slice sa (xs[m]?.getD dE).set.length sc := by
        obtain ⟨sa, sc, e⟩ := hc7.val
        rw [cnts_len] at e
        exact ⟨sa, sc, e⟩
      rw [hsv] at g1
      have Hsv := hide hsv
      clear h4 h7 hK hstep hc7 hsv
      generalize xs[m]?.getD dE = x at *
      go_wp2_with fail
      refine (heldIntS_any _ x.set.length (K + 1) _ _ _ (by rw [← unhide Hsv]; exact (unhide Hc7).choose_spec.choose_spec.1.at) (by omega) (by omega) (by omega)).mono ?_
      rintro e w1 ⟨rfl, hw1⟩
      subst hw1
      have e2 : (K + 1 + (x.set.length : Int) + 1) = K + 2 + (x.set.length : Int) := by omega
      have E2 := hide e2
      clear e2
      rw [← unhide E2] at g3
      go_wp2
      go_round
      case rel => exact ⟨m + 1, by omega, by go_num, by rw [unhide Hstep]; congr 1; omega⟩
      case measure => simp [intOf]; omega
    · obtain rfl : m = xs.length := by omega
      clear hK1 hK2
      go_wp2
      go_ret
      exact ⟨rfl, rfl⟩


set_option maxHeartbeats 1000000 in
theorem markPattern_f (l r : Bool) (v : Value) (xs : List El) (k : Int) (S : Nat → Prop) (w : World) (hv : ElsF S w v xs) (k0 : 0 ≤ k) (k1 : k ≤ 1048576) (hlen : xs.length + bulk xs ≤ 1048576) (hset : ∀ i : Nat, (xs[i]?.getD dE).set.length ≤ 1048576) (hS : ∀ j, S j → j < w.heap.size) :
    Calls Try.prog 10 #[.agg #[.bool l, .bool r, v], .int .i64 k] w fun e w' => e = .returned (.int .i64 (endE k xs)) ∧ ∃ W : World, Below w.heap.size w W ∧ ChgF S W w' := by
  obtain ⟨a, cp, rfl⟩ : ∃ a c, v = .slice a xs.length c := by obtain ⟨a, c, e, -⟩ := hv; exact ⟨a, c, e⟩
  have hb0 := below1 w (.cells #[.bool l, .bool r, .slice a xs.length cp] 25)
  have HA := hide (markOpS_f _ xs k S _ (hv.same (fun j hj => hb0.block j (hS j hj))) k0 k1 hlen hset)
  clear hv hset
  go_enter Try.func10, Try.ntmps10
  go_wp2_with fail
  refine (unhide HA).mono ?_
  rintro e w1 ⟨rfl, -, hc⟩
  have HC := hide hc
  obtain ⟨K, hK⟩ : ∃ K, K = endE k xs := ⟨_, rfl⟩
  rw [← hK]
  have HK := hide hK
  clear hc HA hK
  go_wp2
  go_ret
  exact ⟨by rw [← unhide HK]; rfl, _, hb0, unhide HC⟩

/-- A box of three cells. -/
def Bx3 (w : World) (b : Nat) (t : TypeId) (c0 c1 c2 : Value) : Prop := w.rowIs b t 3 (fun j => [c0, c1, c2].getD j undef)
theorem Bx3.new (w : World) (t : TypeId) (c0 c1 c2 : Value) : Bx3 (w.alloc (.cells #[c0, c1, c2] t)) w.heap.size t c0 c1 c2 :=
  World.rowIs_alloc w #[c0, c1, c2] t _ (fun i hi => by
    match i, hi with
    | 0, _ => rfl
    | 1, _ => rfl
    | 2, _ => rfl)
theorem Bx3.below {w w' : World} {b m : Nat} {t : TypeId} {c0 c1 c2 : Value} (h : Bx3 w b t c0 c1 c2) (hb : Below m w w') (hm : b < m) : Bx3 w' b t c0 c1 c2 := World.rowIs.of_block h (hb.block b hm)
theorem Bx3.blk {w w' : World} {b : Nat} {t : TypeId} {c0 c1 c2 : Value} (h : Bx3 w b t c0 c1 c2) (e : w'.heap[b]? = w.heap[b]?) : Bx3 w' b t c0 c1 c2 := World.rowIs.of_block h e
theorem Bx3.facts {w : World} {b : Nat} {t : TypeId} {c0 c1 c2 : Value} (h : Bx3 w b t c0 c1 c2) : w.cell? ⟨b, 0, none⟩ = some c0 ∧ w.cell? ⟨b, 1, none⟩ = some c1 ∧ w.cell? ⟨b, 2, none⟩ = some c2 :=
  ⟨World.rowIs.cell h (i := 0) (by omega), World.rowIs.cell h (i := 1) (by omega), World.rowIs.cell h (i := 2) (by omega)⟩
theorem el_is {S : Nat → Prop} {w : World} {v : Value} {xs : List El} (h : ElsF S w v xs) : ∃ a c, v = .slice a xs.length c := by obtain ⟨a, c, e, -⟩ := h; exact ⟨a, c, e⟩


set_option maxHeartbeats 400000 in
theorem eqIntS_same (u v : Value) (xs : List Int) (w : World) (hu : IntsAt 0 w.heap.size w u xs) (hv : IntsAt 0 w.heap.size w v xs) :
    Calls Try.prog 50 #[u, v] w fun e w' => e = .returned (.bool true) ∧ Below w.heap.size w w' := by
  obtain ⟨a, cap, rfl, hl, hr, hc⟩ := hu
  obtain ⟨a2, cap2, rfl, -, -, hc2⟩ := hv
  unfold maxLen at hl
  go_enter Try.func50, Try.ntmps50
  go_wp2
  go_loopw [5] (fun i wr => ∃ k : Nat, k ≤ xs.length ∧ i = .int .i64 k ∧ Below w.heap.size w wr) (fun i _ => xs.length - (intOf i).toNat)
  case atStart => exact ⟨0, Nat.zero_le _, rfl, Below.refl _ _⟩
  case round =>
    obtain ⟨k, hk, rfl, hb⟩ := hrel
    by_cases hlt : k < xs.length
    · obtain ⟨b, off, rfl, -, hbn, hcell⟩ := hc (by omega)
      obtain ⟨b2, off2, rfl, -, hbn2, hcell2⟩ := hc2 (by omega)
      have hx : wr.cell? ⟨b, off + k, none⟩ = some (.int .i64 (xs[k]?.getD 0)) := by rw [hb.cell (p := ⟨b, off + k, none⟩) hbn]; exact hcell k hlt
      have hx2 : wr.cell? ⟨b2, off2 + k, none⟩ = some (.int .i64 (xs[k]?.getD 0)) := by rw [hb.cell (p := ⟨b2, off2 + k, none⟩) hbn2]; exact hcell2 k hlt
      have hlt' : (k : Int) < (xs.length : Int) := by omega
      generalize xs[k]?.getD 0 = x at *
      go_wp2
      go_quiet (fail)
      go_wp2
      go_roundw
      case rel => exact ⟨k + 1, by omega, by go_num, below_drewN hb nq⟩
      case measure => simp [intOf]; omega
    · obtain rfl : k = xs.length := by omega
      go_wp2
      go_ret
      exact ⟨rfl, hb⟩

set_option maxHeartbeats 400000 in
theorem eqOp_same (u v : Value) (x : El) (w : World) (hu : IntsAt 0 w.heap.size w u x.set) (hv : IntsAt 0 w.heap.size w v x.set) :
    Calls Try.prog 39 #[.agg #[.int .i64 x.kind, u, .int .i64 x.mn, .int .i64 x.mx], .agg #[.int .i64 x.kind, v, .int .i64 x.mn, .int .i64 x.mx]] w fun e w' => e = .returned (.bool true) ∧ Below w.heap.size w w' := by
  obtain ⟨a, cap, rfl, -, -, -⟩ := id hu
  obtain ⟨a2, cap2, rfl, -, -, -⟩ := id hv
  go_enter Try.func39, Try.ntmps39
  go_wp2_with fail
  refine (eqIntS_same _ _ x.set _ (by exact hu.below (below2 w _ _) (Nat.le_refl _)) (by exact hv.below (below2 w _ _) (Nat.le_refl _))).mono ?_
  rintro e w1 ⟨rfl, hb1⟩
  obtain ⟨hc1, hf1⟩ := bcell hb1
  simp only [sz_alloc] at hc1 hf1
  go_wp2
  go_ret
  exact ⟨rfl, (below2 w _ _).trans (hb1.mono (by rw [sz_alloc, sz_alloc]; omega))⟩

set_option maxHeartbeats 1000000 in
theorem eqOpS_same (u v : Value) (xs : List El) (w : World) (hu : ElsAt 0 w.heap.size w u xs) (hv : ElsAt 0 w.heap.size w v xs) :
    Calls Try.prog 19 #[u, v] w fun e w' => e = .returned (.bool true) ∧ Below w.heap.size w w' := by
  obtain ⟨a, cap, rfl, hl, hc⟩ := hu
  obtain ⟨a2, cap2, rfl, -, hc2⟩ := hv
  unfold maxLen at hl
  go_enter Try.func19, Try.ntmps19
  go_wp2
  go_loopw [5] (fun i wr => ∃ k : Nat, k ≤ xs.length ∧ i = .int .i64 k ∧ Below w.heap.size w wr) (fun i _ => xs.length - (intOf i).toNat)
  case atStart => exact ⟨0, Nat.zero_le _, rfl, Below.refl _ _⟩
  case round =>
    obtain ⟨k, hk, rfl, hb⟩ := hrel
    by_cases hlt : k < xs.length
    · obtain ⟨b, off, rfl, -, hbn, hel⟩ := hc (by omega)
      obtain ⟨b2, off2, rfl, -, hbn2, hel2⟩ := hc2 (by omega)
      obtain ⟨i1, i2, i3, v, c0, c1, c2, c3, hints⟩ := (hel k hlt).same (Same.of_below hb (Nat.le_refl _)) (Nat.zero_le _) hbn
      obtain ⟨-, -, -, v2, d0, d1, d2, d3, hints2⟩ := (hel2 k hlt).same (Same.of_below hb (Nat.le_refl _)) (Nat.zero_le _) hbn2
      have hlt' : (k : Int) < (xs.length : Int) := by omega
      generalize xs[k]?.getD dE = x at *
      obtain ⟨a', cap', rfl, -, -, -⟩ := id hints
      obtain ⟨a2', cap2', rfl, -, -, -⟩ := id hints2
      have hi1 := hints.mono (Nat.le_refl _) hb.size
      have hi2 := hints2.mono (Nat.le_refl _) hb.size
      go_wp2
      go_region_with (go_at_call 39; refine (eqOp_same _ _ x _ (by exact hi1) (by exact hi2)).mono ?_; rintro e w1 ⟨rfl, hb1⟩)
      all_goals
        have hb2 : Below wr.heap.size wr w1 := ⟨hb1.os, hb1.tape, hb1.output, hb1.size, hb1.block⟩
        clear hb1
        go_wp2
        go_roundw
        case rel => exact ⟨k + 1, by omega, by go_num, hb.trans (hb2.mono hb.size)⟩
        case measure => simp [intOf]; omega
    · obtain rfl : k = xs.length := by omega
      go_wp2
      go_ret
      exact ⟨rfl, hb⟩

set_option maxHeartbeats 400000 in
theorem eqPattern_same (l r : Bool) (u v : Value) (xs : List El) (w : World) (hu : ElsAt 0 w.heap.size w u xs) (hv : ElsAt 0 w.heap.size w v xs) :
    Calls Try.prog 7 #[.agg #[.bool l, .bool r, u], .agg #[.bool l, .bool r, v]] w fun e w' => e = .returned (.bool true) ∧ Below w.heap.size w w' := by
  obtain ⟨a, cap, rfl, -, -⟩ := id hu
  obtain ⟨a2, cap2, rfl, -, -⟩ := id hv
  go_enter Try.func7, Try.ntmps7
  go_wp2_with fail
  refine (eqOpS_same _ _ xs _ (by exact hu.below (below2 w _ _) (Nat.le_refl _)) (by exact hv.below (below2 w _ _) (Nat.le_refl _))).mono ?_
  rintro e w1 ⟨rfl, hb1⟩
  go_wp2
  go_ret
  exact ⟨rfl, (below2 w _ _).trans (hb1.mono (by rw [sz_alloc, sz_alloc]; omega))⟩


/-- What nodeOf answers. -/
def NodeRet (e : Ending) (xs : List El) : Prop :=
  (∃ u, e = .returned (.tuple #[u, .bool true]) ∧ ValidT xs) ∨ (e = .returned (.tuple #[.nilIface, .bool false]) ∧ ¬ ValidT xs)

theorem NodeRet.no {xs : List El} (h : ¬ ValidT xs) : NodeRet (.returned (.tuple #[.nilIface, .bool false])) xs := Or.inr ⟨rfl, h⟩

theorem short_bad {xs : List El} {st : List (List El × Int)} {k : Nat} (hk : k < xs.length) (hst : flats st = xs.take k) (hw : ∀ s ∈ st, SegM s.1 s.2) (ok : ElOk (xs[k]?.getD dE)) (hlt : (st.length : Int) < cnt (xs[k]?.getD dE).kind) : ¬ ValidT xs := by
  intro hv
  have sh := hv.2.2.1
  have htk := take_next hk
  have h1 : wsum (xs.take (k + 1)) + wsum (xs.drop (k + 1)) = 1 := by rw [← wsum_append, List.take_append_drop]; exact sh.1
  have h2 := sh.2 (k + 1) (by omega) (by omega)
  have h3 := wsum_flats (fun s hs => (hw s hs).ws)
  rw [hst] at h3
  rw [htk, wsum_append, h3] at h1
  simp only [wsum] at h1
  generalize xs[k]?.getD dE = x at *
  rcases ok with ⟨q1, -⟩ | ⟨q1 | q1 | q1, -⟩ | ⟨q1, -⟩ <;> simp [cnt, wt, q1] at hlt h1 <;> omega

theorem own_slice {base n : Nat} {w : World} {v : Value} {vals : List Value} (hown : w.ownsRow base 48 1 v n vals) : ∃ ao c, v = .slice ao n c := by
  rcases hown.2 with ⟨rfl, hn⟩ | ⟨g, cap, cur, rfl, hbg, hg, hnc, hcm, hcs, htake⟩
  · exact ⟨none, 0, by rw [hn]⟩
  · exact ⟨_, _, rfl⟩

open Go.ChangeShapes Go.WideShapes Go.ChangeAt Go.RowKit

theorem Try.cells3 : Try.prog.cellsOf 3 = 1 := by kernel_rfl
theorem Try.cells40 : Try.prog.cellsOf 40 = 1 := by kernel_rfl

theorem in64_of_wf {n : Int} (h : (Lit.int .i64 n).wf = true) : In64 n := by
  simpa [Lit.wf, IntKind.min, IntKind.max, IntKind.signed, IntKind.bits, In64] using h

section
variable {H : Type} {enc : TypeId × Value → H} {W : World}

theorem ints_of {n : Nat} {v : Value} {y : DataW H × List MemPlace} (h : DataW.trod enc Try.prog W 0 (fun _ => true) true n 40 [v] = some y) : ∃ xs, IntsAt 0 W.heap.size W v xs := by
  rcases open_ints Try.underlying40 Try.underlying3 Try.cells3 h with ⟨hcs, -⟩ | ⟨a, len, cap, zs, hcs, -, hl, hm, hz, -, hcell, hwz⟩
  · simp only [List.cons.injEq, and_true] at hcs
    subst hcs
    exact ⟨[], none, 0, rfl, by simp, by intro i; simp [In64], by simp⟩
  · simp only [List.cons.injEq, and_true] at hcs
    subst hcs
    simp only [if_true] at hz
    have hlen : (zs.take len).length = len := by rw [List.length_take]; omega
    refine ⟨zs.take len, some a, cap, by rw [hlen], by omega, fun i => ?_, fun hp => ?_⟩
    · by_cases hi : i < (zs.take len).length
      · rw [List.getElem?_eq_getElem hi]
        exact in64_of_wf (hwz _ (List.mem_of_mem_take (List.getElem_mem hi)))
      · rw [List.getElem?_eq_none (by omega)]
        simp [In64]
    · obtain ⟨b, off, rfl, hc⟩ := ints_at hcell (by omega)
      refine ⟨b, off, rfl, Nat.zero_le _, World.block_lt_of_cell? _ _ (hc 0 (by omega)), fun i hi => ?_⟩
      rw [hlen] at hi
      rw [hc i (by omega), List.getElem?_take_of_lt hi]
      rfl

end

theorem Try.own : ownKnob Try.prog.godebug = none := by kernel_rfl
theorem Try.laidOut : laidOutB Try.prog = true := by kernel_rfl
theorem Try.cells5 : Try.prog.cellsOf 5 = 1 := by kernel_rfl
theorem IntsAt.sl {lo n : Nat} {w : World} {v : Value} {xs : List Int} (h : IntsAt lo n w v xs) : SlAt mI 0 lo n w v xs ∧ ∀ i : Nat, In64 (xs[i]?.getD 0) := by
  obtain ⟨a, cap, rfl, hl, hr, hc⟩ := h
  exact ⟨⟨a, cap, rfl, hl, hc⟩, hr⟩

section
variable {H : Type} {enc : TypeId × Value → H} {W : World}

theorem bytes_of {n : Nat} {v : Value} {y : DataW H × List MemPlace} (h : DataW.trod enc Try.prog W 0 (fun _ => true) true n 22 [v] = some y) : ∃ bs, SlAt mB 0 0 W.heap.size W v bs ∧ Bytes bs := by
  rcases open_ints Try.underlying22 Try.underlying5 Try.cells5 h with ⟨hcs, -⟩ | ⟨a, len, cap, zs, hcs, -, hl, hm, hz, -, hcell, hwz⟩
  · simp only [List.cons.injEq, and_true] at hcs
    subst hcs
    exact ⟨[], ⟨none, 0, rfl, by simp, by simp⟩, by intro i; simp⟩
  · simp only [List.cons.injEq, and_true] at hcs
    subst hcs
    simp only [if_true] at hz
    have hlen : (zs.take len).length = len := by rw [List.length_take]; omega
    refine ⟨zs.take len, ⟨some a, cap, by rw [hlen], by omega, fun hp => ?_⟩, fun i => ?_⟩
    · obtain ⟨b, off, rfl, hc⟩ := ints_at hcell (by omega)
      refine ⟨b, off, rfl, Nat.zero_le _, World.block_lt_of_cell? _ _ (hc 0 (by omega)), fun i hi => ?_⟩
      rw [hlen] at hi
      rw [hc i (by omega), List.getElem?_take_of_lt hi]
      rfl
    · by_cases hi : i < (zs.take len).length
      · rw [List.getElem?_eq_getElem hi]
        have := hwz _ (List.mem_of_mem_take (List.getElem_mem hi))
        simpa [Lit.wf, IntKind.min, IntKind.max, IntKind.signed, IntKind.bits] using this
      · rw [List.getElem?_eq_none (by omega)]
        simp

end
end Go.Proofs.Ytjjmgegbeccjoaa
