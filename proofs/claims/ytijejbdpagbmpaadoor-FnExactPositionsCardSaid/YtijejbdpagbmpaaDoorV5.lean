import Derived.Test.YtijejbdpagbmpaaDoorP7
namespace Go.Proofs.YtijejbdpagbmpaaDoor
open Go.RowKit

def MkF (S : Nat → Prop) (w0 w : World) (k : Int) (xs : List El) (b off : Nat) (sv : Nat → Value) (T : Nat → Nat → Prop) (m : Nat) : Prop :=
  Free w b ∧ (∀ i : Nat, i < xs.length → El4 w b (off + i * 4) (mixE k xs m i) (sv i)) ∧ (∀ i : Nat, i < xs.length → SlF mI 0 (T i) w (sv i) (mixE k xs m i).set) ∧ ChgF S w0 w

theorem mkF_step {S : Nat → Prop} {w0 wr w1 : World} {k : Int} {xs : List El} {b off : Nat} {sv : Nat → Value} {T : Nat → Nat → Prop} {m : Nat} (h : MkF S w0 wr k xs b off sv T m) (hm : m < xs.length) (hS : S b)
    (h5 : ∀ i : Nat, i < xs.length → ∀ k, T i k → S k ∧ k ≠ b) (h6 : ∀ i j : Nat, i < xs.length → j < xs.length → i ≠ j → ∀ k, T i k → ¬ T j k) (K : Int) (hK : K = endE k (xs.take m)) (L : Int) (hL : L = (xs[m]?.getD dE).set.length)
    (hc : ChgF (T m) (wr.setCell ⟨b, off + m * 4, none⟩ (.int .i64 K)) w1) (hs : SlF mI 0 (T m) w1 (sv m) (cnts (K + 1) (xs[m]?.getD dE).set.length)) (w2 : World)
    (hw : w2 = (w1.setCell ⟨b, off + m * 4 + 2, none⟩ (.int .i64 (K + 1 + L))).setCell ⟨b, off + m * 4 + 3, none⟩ (.int .i64 (K + 2 + L))) : MkF S w0 w2 k xs b off sv T (m + 1) := by
  subst hw
  obtain ⟨hu, h4, h7, hch⟩ := h
  have eb : w1.heap[b]? = (wr.setCell ⟨b, off + m * 4, none⟩ (.int .i64 K)).heap[b]? := hc.block b (fun q => (h5 m hm b q).2 rfl)
  have hput : ∀ (w : World) (o : Nat) (u : Value) (j : Nat), j ≠ b → (w.setCell ⟨b, o, none⟩ u).heap[j]? = w.heap[j]? := fun w o u j hne => Below.heap_setCell _ _ _ _ (by exact hne)
  have hmark := marksE_get k xs m hm
  rw [← hK, ← hL] at hmark
  refine ⟨((hu.put.same eb).put).put, fun i hi => ?_, fun i hi => ?_, ?_⟩
  · by_cases e : i = m
    · subst e
      have q := h4 i hi
      unfold mixE at q ⊢
      rw [if_neg (by omega)] at q
      rw [if_pos (by omega), hmark]
      exact (((q.putK K).same eb).putM (K + 1 + L)).putX (K + 2 + L)
    · have q := h4 i hi
      have e2 : mixE k xs (m + 1) i = mixE k xs m i := by
        unfold mixE
        by_cases e3 : i < m
        · rw [if_pos e3, if_pos (by omega)]
        · rw [if_neg e3, if_neg (by omega)]
      rw [e2]
      exact (((q.put (by omega)).same eb).put (by omega)).put (by omega)
  · by_cases e : i = m
    · subst e
      unfold mixE
      rw [if_pos (by omega), hmark]
      exact hs.same (fun j hj => (hput _ _ _ j (h5 i hi j hj).2).trans (hput _ _ _ j (h5 i hi j hj).2))
    · have q := h7 i hi
      have e2 : mixE k xs (m + 1) i = mixE k xs m i := by
        unfold mixE
        by_cases e3 : i < m
        · rw [if_pos e3, if_pos (by omega)]
        · rw [if_neg e3, if_neg (by omega)]
      rw [e2]
      exact q.same (fun j hj => (hput _ _ _ j (h5 i hi j hj).2).trans ((hput _ _ _ j (h5 i hi j hj).2).trans ((hc.block j (h6 i m hi hm e j hj)).trans (hput _ _ _ j (h5 i hi j hj).2))))
  · exact (((hch.put hS _).trans (hc.mono (fun j hj => (h5 m hm j hj).1))).put hS _).put hS _

set_option maxHeartbeats 1000000 in
set_option maxRecDepth 100000 in
theorem markOpS_f (v : Value) (xs : List El) (k : Int) (S : Nat → Prop) (w : World) (hv : ElsF S w v xs) (k0 : 0 ≤ k) (k1 : k ≤ 1048576) (hlen : xs.length + bulk xs ≤ 1048576) (hset : ∀ i : Nat, (xs[i]?.getD dE).set.length ≤ 1048576) :
    Calls Tryd.prog 27 #[v, .int .i64 k] w fun e w' => e = .returned (.int .i64 (endE k xs)) ∧ ElsF S w' v (marksE k xs) ∧ ChgF S w w' := by
  obtain ⟨a, cap, rfl, hl, hc⟩ := hv
  by_cases hp : 0 < xs.length
  · obtain ⟨b, off, sv, T, rfl, h1, h3, h4, h7, h5, h6⟩ := hc hp
    have hst0 : MkF S w w k xs b off sv T 0 := ⟨h3, fun i hi => by unfold mixE; rw [if_neg (by omega)]; exact h4 i hi, fun i hi => by unfold mixE; rw [if_neg (by omega)]; exact h7 i hi, ChgF.refl _ _⟩
    have Hst0 := hide hst0
    have H5 := hide h5
    have H6 := hide h6
    have Hset := hide hset
    clear hc h3 h4 h5 h6 h7 hst0 hset
    go_enter Tryd.func27, Tryd.ntmps27
    go_wp2
    go_loopw [1, 5] (fun q i wr => ∃ m : Nat, m ≤ xs.length ∧ i = .int .i64 m ∧ q = .int .i64 (endE k (xs.take m)) ∧ MkF S w wr k xs b off sv T m) (fun _ i _ => xs.length - (intOf i).toNat)
    case atStart => exact ⟨0, Nat.zero_le _, rfl, by simp [endE], unhide Hst0⟩
    case round =>
      obtain ⟨m, hm, rfl, rfl, hmk⟩ := hrel
      have Hmk := hide hmk
      have hbd := endE_bd k (xs.take m)
      have hbk : bulk (xs.take m) ≤ bulk xs := by
        have hb : ∀ (l : List El) (j : Nat), bulk (l.take j) ≤ bulk l := by
          intro l
          induction l with
          | nil => intro j; simp [bulk]
          | cons x r ih => intro j; cases j with
            | zero => simp [bulk]
            | succ j => have := ih j; simp only [List.take_succ_cons, bulk]; omega
        exact hb xs m
      have hbl : (xs.take m).length ≤ m := List.length_take_le _ _
      have hK1 : 0 ≤ endE k (xs.take m) := by omega
      have hK2 : endE k (xs.take m) ≤ 4194304 := by omega
      clear hbd hbk hbl
      by_cases hlt : m < xs.length
      · obtain ⟨hu, hq4, hq7, -⟩ := hmk
        have hc4 := hq4 m hlt
        have hc7 := hq7 m hlt
        unfold mixE at hc4 hc7
        rw [if_neg (by omega)] at hc4 hc7
        obtain ⟨g0, g1, g2, g3⟩ := hc4
        have f0 := frz (j := off + m * 4) hu
        have f2 := frz (j := off + m * 4 + 2) hu
        have f3 := frz (j := off + m * 4 + 3) hu
        have hlt' : (m : Int) < (xs.length : Int) := by omega
        have hse := unhide Hset m
        have hstep := endE_step k xs m hlt
        have hxl : Hid ((xs[m]?.getD dE).set.length = (xs[m]?.getD dE).set.length) := rfl
        generalize hK : endE k (xs.take m) = K at *
        have HK := hide hK
        have Hstep := hide hstep
        have Hc7 := hide hc7
        obtain ⟨sa, sc, hsv⟩ : ∃ sa sc, sv m = .slice sa (xs[m]?.getD dE).set.length sc := by
          exact hc7.val
        rw [hsv] at g1
        have Hu := hide hu
        have Hsv := hide hsv
        clear hq4 hq7 hK hstep hc7 hsv hxl hu
        generalize hX : xs[m]?.getD dE = x at *
        have HX := hide hX
        clear hX
        go_wp2_with fail
        obtain ⟨lo, n, hw7, hT7⟩ := (unhide Hc7).same (w' := wr.setCell ⟨b, off + m * 4, none⟩ (.int .i64 K)) (fun j hj => Below.heap_setCell _ _ _ _ (by exact (unhide H5 m hlt j hj).2))
        rw [unhide Hsv] at hw7
        refine (markIntS_any _ x.set (K + 1) lo n _ hw7 (by omega) (by omega) (by omega)).mono ?_
        rintro e w1 ⟨rfl, hs0, hc0⟩
        have hc1 := hc0.foot hT7
        have hs1 : SlF mI 0 (T m) w1 _ _ := ⟨lo, n, hs0, hT7⟩
        clear hs0 hc0 hw7
        have eb : w1.heap[b]? = (wr.setCell ⟨b, off + m * 4, none⟩ (.int .i64 K)).heap[b]? := hc1.block b (fun q => (unhide H5 m hlt b q).2 rfl)
        have r2 : w1.cell? ⟨b, off + m * 4 + 2, none⟩ = some (.int .i64 x.mn) := by rw [World.cell?_of_block (a := ⟨b, off + m * 4 + 2, none⟩) eb, put_other (Or.inr (by omega))]; exact g2
        have r3 : w1.cell? ⟨b, off + m * 4 + 3, none⟩ = some (.int .i64 x.mx) := by rw [World.cell?_of_block (a := ⟨b, off + m * 4 + 3, none⟩) eb, put_other (Or.inr (by omega))]; exact g3
        have hu1 : Free w1 b := (unhide Hu).put.same eb
        have t2 := frz (j := off + m * 4 + 2) hu1
        have t3 := frz (j := off + m * 4 + 3) hu1
        have Hs1 := hide hs1
        have Hc1 := hide hc1
        clear hs1 hc1 eb hu1 g0 g1 g2 g3 f0 f2 f3
        go_wp2
        have hst := mkF_step (unhide Hmk) hlt h1 (unhide H5) (unhide H6) K (unhide HK).symm (x.set.length : Int) (by rw [unhide HX]) (unhide Hc1) (by rw [unhide HX, unhide Hsv]; exact unhide Hs1) _ rfl
        have e3 : K + 1 + (x.set.length : Int) + 1 = K + 2 + (x.set.length : Int) := by omega
        rw [e3]
        exact ⟨⟨m + 1, by omega, by go_num, by rw [unhide Hstep]; congr 1; omega, hst⟩, by simp [intOf]; omega⟩
      · obtain rfl : m = xs.length := by omega
        clear hK1 hK2
        go_wp2
        go_ret
        obtain ⟨q3, q4, q7, q8⟩ := unhide Hmk
        refine ⟨ret_int (by rw [List.take_length]), ⟨_, cap, by rw [marksE_len], by rw [marksE_len]; exact hl, fun _ => ⟨b, off, sv, T, rfl, h1, q3, fun i hi => ?_, fun i hi => ?_, fun i hi => unhide H5 i (by rwa [marksE_len] at hi), fun i j hi hj hne => unhide H6 i j (by rwa [marksE_len] at hi) (by rwa [marksE_len] at hj) hne⟩⟩, q8⟩
        · rw [marksE_len] at hi
          have := q4 i hi
          unfold mixE at this
          rwa [if_pos hi] at this
        · rw [marksE_len] at hi
          have := q7 i hi
          unfold mixE at this
          rwa [if_pos hi] at this
  · obtain rfl : xs = [] := List.eq_nil_of_length_eq_zero (by omega)
    clear hc
    go_enter Tryd.func27, Tryd.ntmps27
    go_wp2
    go_loop [1, 5] (fun q i => q = .int .i64 k ∧ i = .int .i64 0) (fun _ _ => 0)
    case atStart => exact ⟨rfl, rfl⟩
    case round =>
      obtain ⟨rfl, rfl⟩ := hrel
      go_wp2
      go_ret
      exact ⟨rfl, ⟨a, cap, rfl, hl, fun h => absurd h (by simp [marksE])⟩, ChgF.refl _ _⟩

end Go.Proofs.YtijejbdpagbmpaaDoor
