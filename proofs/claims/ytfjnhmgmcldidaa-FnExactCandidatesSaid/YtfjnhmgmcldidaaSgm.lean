import Derived.Test.YtfjnhmgmcldidaaT2
import Derived.Test.YtfjnhmgmcldidaaS5
import Derived.Test.YtfjnhmgmcldidaaU0
import Derived.Deep.RegionWith
import Derived.Deep.RegionHeld3
namespace Go.Proofs.Ytfjnhmgmcldidaa
open Go.RowKit

theorem Row4.put3 {w : World} {b : Nat} {t : TypeId} {c0 c1 c2 c3 u : Value} (h : Row4 w b t c0 c1 c2 c3) : Row4 (w.setCell ⟨b, 3, none⟩ u) b t c0 c1 c2 u := (World.rowIs.set h 3 u).congr (fun i hi => by
    match i, hi with
    | 0, _ => rfl
    | 1, _ => rfl
    | 2, _ => rfl
    | 3, _ => rfl)
/-- A segment that owns its memory, from block lo on. -/
def SegF (lo hi : Nat) (w : World) (v : Value) (base : Int) (xss : List (List Int)) (ks : List Int) (pss : List (List Int)) : Prop :=
  ∃ (lv kv pv : Value) (S1 S2 S3 : Nat → Prop), v = .agg #[.int .i64 base, lv, kv, pv] ∧ SsF mB 0 S1 w lv xss ∧ SlF mI 0 S2 w kv ks ∧ SsF mI 0 S3 w pv pss ∧
    (∀ k, S1 k ∨ S2 k ∨ S3 k → lo ≤ k ∧ k < hi) ∧ (∀ k, S1 k → ¬ S2 k ∧ ¬ S3 k) ∧ ∀ k, S2 k → ¬ S3 k
theorem SegF.same {lo hi : Nat} {w w' : World} {v : Value} {base : Int} {xss pss : List (List Int)} {ks : List Int} (h : SegF lo hi w v base xss ks pss) (hs : ∀ k, lo ≤ k → k < hi → w'.heap[k]? = w.heap[k]?) : SegF lo hi w' v base xss ks pss := by
  obtain ⟨lv, kv, pv, S1, S2, S3, e, h1, h2, h3, h4, h5, h6⟩ := h
  exact ⟨lv, kv, pv, S1, S2, S3, e, h1.same (fun k hk => hs k (h4 k (Or.inl hk)).1 (h4 k (Or.inl hk)).2), h2.same (fun k hk => hs k (h4 k (Or.inr (Or.inl hk))).1 (h4 k (Or.inr (Or.inl hk))).2), h3.same (fun k hk => hs k (h4 k (Or.inr (Or.inr hk))).1 (h4 k (Or.inr (Or.inr hk))).2), h4, h5, h6⟩
theorem SegF.keep {lo hi m : Nat} {w w' : World} {v : Value} {base : Int} {xss pss : List (List Int)} {ks : List Int} (h : SegF lo hi w v base xss ks pss) (hb : Below m w w') (hm : hi ≤ m) : SegF lo hi w' v base xss ks pss := h.same (fun k _ h2 => hb.block k (by omega))
theorem SegF.put {lo hi b o : Nat} {w : World} {v u : Value} {base : Int} {xss pss : List (List Int)} {ks : List Int} (h : SegF lo hi w v base xss ks pss) (hb : b < lo) : SegF lo hi (w.setCell ⟨b, o, none⟩ u) v base xss ks pss := h.same (fun k k1 _ => Below.heap_setCell _ _ _ _ (by show k ≠ b; omega))
theorem SegF.low {lo lo' hi hi' : Nat} {w : World} {v : Value} {base : Int} {xss pss : List (List Int)} {ks : List Int} (h : SegF lo hi w v base xss ks pss) (hl : lo' ≤ lo) (hh : hi ≤ hi') : SegF lo' hi' w v base xss ks pss := by
  obtain ⟨lv, kv, pv, S1, S2, S3, e, h1, h2, h3, h4, h5, h6⟩ := h
  exact ⟨lv, kv, pv, S1, S2, S3, e, h1, h2, h3, fun k hk => ⟨Nat.le_trans hl (h4 k hk).1, Nat.lt_of_lt_of_le (h4 k hk).2 hh⟩, h5, h6⟩
/-- A segment that can be read. -/
def SegRd (w : World) (v : Value) (base : Int) (xss : List (List Int)) (ks : List Int) (pss : List (List Int)) : Prop :=
  ∃ lv kv pv, v = .agg #[.int .i64 base, lv, kv, pv] ∧ SsAt mB 0 w.heap.size w lv xss ∧ SlAt mI 0 0 w.heap.size w kv ks ∧ SsAt mI 0 w.heap.size w pv pss
theorem SegRd.below {w w' : World} {v : Value} {base : Int} {xss pss : List (List Int)} {ks : List Int} {m : Nat} (h : SegRd w v base xss ks pss) (hb : Below m w w') (hm : w.heap.size ≤ m) : SegRd w' v base xss ks pss := by
  obtain ⟨lv, kv, pv, e, h1, h2, h3⟩ := h
  exact ⟨lv, kv, pv, e, h1.below hb hm, h2.below hb hm, h3.below hb hm⟩
theorem SegF.rd {lo hi : Nat} {w : World} {v : Value} {base : Int} {xss pss : List (List Int)} {ks : List Int} (h : SegF lo hi w v base xss ks pss) (hh : hi ≤ w.heap.size) : SegRd w v base xss ks pss := by
  obtain ⟨lv, kv, pv, S1, S2, S3, e, h1, h2, h3, h4, h5, h6⟩ := h
  exact ⟨lv, kv, pv, e, h1.at (fun k hk => Nat.lt_of_lt_of_le (h4 k (Or.inl hk)).2 hh), h2.at (fun k hk => Nat.lt_of_lt_of_le (h4 k (Or.inr (Or.inl hk))).2 hh), h3.at (fun k hk => Nat.lt_of_lt_of_le (h4 k (Or.inr (Or.inr hk))).2 hh)⟩
theorem SegRd.zero (w : World) : SegRd w (.agg #[.int .i64 0, .slice none 0 0, .slice none 0 0, .slice none 0 0]) 0 [] [] [] :=
  ⟨_, _, _, rfl, ⟨none, 0, rfl, ⟨Nat.le_refl _, Nat.zero_le _⟩, fun h => absurd h (by simp)⟩, ⟨none, 0, rfl, Nat.zero_le _, fun h => absurd h (by simp)⟩, ⟨none, 0, rfl, ⟨Nat.le_refl _, Nat.zero_le _⟩, fun h => absurd h (by simp)⟩⟩
theorem SegF.zero (lo hi : Nat) (w : World) : SegF lo hi w (.agg #[.int .i64 0, .slice none 0 0, .slice none 0 0, .slice none 0 0]) 0 [] [] [] :=
  ⟨_, _, _, fun _ => False, fun _ => False, fun _ => False, rfl, SsF.nil _ _ _ _ _ _ (Nat.zero_le _), ⟨0, 0, ⟨none, 0, rfl, Nat.zero_le _, fun h => absurd h (by simp)⟩, fun k _ h => absurd h (by omega)⟩, SsF.nil _ _ _ _ _ _ (Nat.zero_le _), fun k h => by simp at h, fun k h => by simp at h, fun k h => by simp at h⟩
set_option maxHeartbeats 2000000 in
set_option maxRecDepth 100000 in
theorem eqSegment_w (u v : Value) (base : Int) (xss pss : List (List Int)) (ks : List Int) (w : World) (hu : SegRd w u base xss ks pss) (hv : SegRd w v base xss ks pss) :
    Calls Try.prog 11 #[u, v] w fun e w' => e = .returned (.bool true) ∧ Below w.heap.size w w' := by
  obtain ⟨lv, kv, pv, rfl, u1, u2, u3⟩ := hu
  obtain ⟨lv', kv', pv', rfl, v1, v2, v3⟩ := hv
  have U1 := hide u1
  have U2 := hide u2
  have U3 := hide u3
  have V1 := hide v1
  have V2 := hide v2
  have V3 := hide v3
  obtain ⟨a1, c1, rfl, -⟩ := u1
  obtain ⟨a2, c2, rfl, -⟩ := u2
  obtain ⟨a3, c3, rfl, -⟩ := u3
  obtain ⟨b1, d1, rfl, -⟩ := v1
  obtain ⟨b2, d2, rfl, -⟩ := v2
  obtain ⟨b3, d3, rfl, -⟩ := v3
  have hb0 := below2 w (.cells #[.int .i64 base, .slice a1 xss.length c1, .slice a2 ks.length c2, .slice a3 pss.length c3] 32) (.cells #[.int .i64 base, .slice b1 xss.length d1, .slice b2 ks.length d2, .slice b3 pss.length d3] 32)
  have RA := (Row4.new w 32 (.int .i64 base) (.slice a1 xss.length c1) (.slice a2 ks.length c2) (.slice a3 pss.length c3)).alloc (.cells #[.int .i64 base, .slice b1 xss.length d1, .slice b2 ks.length d2, .slice b3 pss.length d3] 32)
  have RB := Row4.new (w.alloc (.cells #[.int .i64 base, .slice a1 xss.length c1, .slice a2 ks.length c2, .slice a3 pss.length c3] 32)) 32 (.int .i64 base) (.slice b1 xss.length d1) (.slice b2 ks.length d2) (.slice b3 pss.length d3)
  rw [sz_alloc] at RB
  have hzV : ((w.alloc (.cells #[.int .i64 base, .slice a1 xss.length c1, .slice a2 ks.length c2, .slice a3 pss.length c3] 32)).alloc (.cells #[.int .i64 base, .slice b1 xss.length d1, .slice b2 ks.length d2, .slice b3 pss.length d3] 32)).heap.size = w.heap.size + 2 := by simp
  go_enter Try.func11, Try.ntmps11
  go_wp2_with fail
  refine (eqByteSS_w _ _ xss _ ((unhide U1).below hb0 (Nat.le_refl _)) ((unhide V1).below hb0 (Nat.le_refl _))).mono ?_
  rintro e w1 ⟨rfl, hb1⟩
  have RA1 := RA.below hb1 (by rw [hzV]; omega)
  have RB1 := RB.below hb1 (by rw [hzV]; omega)
  obtain ⟨-, -, x2, x3, -⟩ := RA1.facts
  obtain ⟨-, -, y2, y3, -⟩ := RB1.facts
  have hB1 : Below w.heap.size w w1 := hb0.trans (hb1.mono (by rw [hzV]; omega))
  have hz1 : w.heap.size + 2 ≤ w1.heap.size := by have := hb1.size; rwa [hzV] at this
  have HA1 := hide RA1
  have HB1 := hide RB1
  clear RA RB hzV hb1 RA1 RB1 hb0
  go_wp2_with fail
  refine (eqIntS_w _ _ ks _ ((unhide U2).below hB1 (Nat.le_refl _)) ((unhide V2).below hB1 (Nat.le_refl _))).mono ?_
  rintro e w2 ⟨rfl, n2, hw2⟩
  have hB2 : Below w.heap.size w w2 := by rw [hw2]; exact below_drewN hB1 n2
  have RA2 : Row4 w2 w.heap.size 32 (.int .i64 base) (.slice a1 xss.length c1) (.slice a2 ks.length c2) (.slice a3 pss.length c3) := by rw [hw2]; exact unhide HA1
  have RB2 : Row4 w2 (w.heap.size + 1) 32 (.int .i64 base) (.slice b1 xss.length d1) (.slice b2 ks.length d2) (.slice b3 pss.length d3) := by rw [hw2]; exact unhide HB1
  clear x2 x3 y2 y3
  obtain ⟨-, -, -, x3, -⟩ := RA2.facts
  obtain ⟨-, -, -, y3, -⟩ := RB2.facts
  clear hw2 RA2 RB2 HA1 HB1
  go_wp2_with fail
  refine (eqIntSS_w _ _ pss _ ((unhide U3).below hB2 (Nat.le_refl _)) ((unhide V3).below hB2 (Nat.le_refl _))).mono ?_
  rintro e w3 ⟨rfl, hb3⟩
  have hB3 := hB2.trans (hb3.mono hB2.size)
  clear hb3 x3 y3
  go_wp2_with fail
  go_ret
  exact ⟨rfl, hB3⟩
/-- How a segment's marks are counted. -/
def segN (xss : List (List Int)) (ks : List Int) (pss : List (List Int)) : Int := (tot xss : Int) + ks.length + tot pss
/-- A segment whose numbers are marks. -/
def SegMk (w : World) (v : Value) (base k : Int) (xss : List (List Int)) (ks : List Int) (pss : List (List Int)) : Prop :=
  SegRd w v base (marksL cntB k xss) (cnts (k + tot xss) ks.length) (marksL cnts (k + tot xss + ks.length) pss)
set_option maxHeartbeats 2000000 in
set_option maxRecDepth 100000 in
theorem markSegment_w (v : Value) (base k : Int) (xss pss : List (List Int)) (ks : List Int) (lo hi : Nat) (w : World) (hv : SegF lo hi w v base xss ks pss) (k0 : 0 ≤ k) (k1 : k ≤ 2000000) (hlow : lo ≤ w.heap.size) (hhigh : hi ≤ w.heap.size) (t1 : tot xss ≤ 1048576) (t2 : ks.length ≤ 1048576) (t3 : tot pss ≤ 1048576) :
    Calls Try.prog 13 #[v, .int .i64 k] w fun e w' => e = .returned (.int .i64 (k + segN xss ks pss)) ∧ SegMk w' v base k xss ks pss ∧ Below lo w w' ∧ ∀ j, j < w.heap.size → hi ≤ j → w'.heap[j]? = w.heap[j]? := by
  obtain ⟨lv, kv, pv, S1, S2, S3, rfl, h1, h2, h3, h40, h5, h6⟩ := hv
  have h4 : ∀ k, S1 k ∨ S2 k ∨ S3 k → lo ≤ k ∧ k < w.heap.size := fun k hk => ⟨(h40 k hk).1, Nat.lt_of_lt_of_le (h40 k hk).2 hhigh⟩
  have Hhi := hide (fun k hk => (h40 k hk).2)
  clear h40
  have hb0 : ∀ x1 x2 x3 x4 : Value, Below w.heap.size w (w.alloc (.cells #[x1, x2, x3, x4] 32)) := fun x1 x2 x3 x4 => below1 w _
  obtain ⟨a1, c1, e1⟩ : ∃ a c, lv = .slice a xss.length c := by obtain ⟨a, c, e, -⟩ := h1; exact ⟨a, c, e⟩
  obtain ⟨a2, c2, e2⟩ := h2.val
  obtain ⟨a3, c3, e3⟩ : ∃ a c, pv = .slice a pss.length c := by obtain ⟨a, c, e, -⟩ := h3; exact ⟨a, c, e⟩
  subst e1 e2 e3
  have RA := Row4.new w 32 (.int .i64 base) (.slice a1 xss.length c1) (.slice a2 ks.length c2) (.slice a3 pss.length c3)
  have H1 := hide (h1.same (fun j hj => (hb0 (.int .i64 base) (.slice a1 xss.length c1) (.slice a2 ks.length c2) (.slice a3 pss.length c3)).block j (h4 j (Or.inl hj)).2))
  have H2 := hide (h2.same (fun j hj => (hb0 (.int .i64 base) (.slice a1 xss.length c1) (.slice a2 ks.length c2) (.slice a3 pss.length c3)).block j (h4 j (Or.inr (Or.inl hj))).2))
  have H3 := hide (h3.same (fun j hj => (hb0 (.int .i64 base) (.slice a1 xss.length c1) (.slice a2 ks.length c2) (.slice a3 pss.length c3)).block j (h4 j (Or.inr (Or.inr hj))).2))
  have hB0 := hb0 (.int .i64 base) (.slice a1 xss.length c1) (.slice a2 ks.length c2) (.slice a3 pss.length c3)
  have hlo : ∀ j, S1 j ∨ S2 j ∨ S3 j → lo ≤ j := fun j hj => (h4 j hj).1
  have hhi : ∀ j, S1 j ∨ S2 j ∨ S3 j → j ≠ w.heap.size := fun j hj => by have := (h4 j hj).2; omega
  have hall : ∀ j, S1 j ∨ S2 j ∨ S3 j → j < w.heap.size := fun j hj => (h4 j hj).2
  have H5 := hide h5
  have H6 := hide h6
  have HLO := hide hlo
  have HHI := hide hhi
  have HAL := hide hall
  clear h1 h2 h3 hb0 h4 h5 h6 hlo hhi hall
  go_enter Try.func13, Try.ntmps13
  go_wp2_with fail
  refine (markByteSS_w _ xss k S1 _ (unhide H1) k0 (by omega) (by omega)).mono ?_
  rintro e w1 ⟨rfl, hs1, hc1⟩
  have HS1 := hide hs1
  have HC1 := hide hc1
  have RA1 : Row4 w1 w.heap.size 32 (.int .i64 base) (.slice a1 xss.length c1) (.slice a2 ks.length c2) (.slice a3 pss.length c3) := World.rowIs.of_block RA (hc1.block _ (fun h => unhide HHI _ (Or.inl h) rfl))
  have HR1 := hide RA1
  obtain ⟨-, -, f2, f3, -⟩ := RA1.facts
  have H21 := hide ((unhide H2).same (fun j hj => hc1.block j (fun h => (unhide H5 j h).1 hj)))
  have H31 := hide ((unhide H3).same (fun j hj => hc1.block j (fun h => (unhide H5 j h).2 hj)))
  clear hs1 hc1 RA1 RA H1 H2 H3
  go_wp2_with fail
  obtain ⟨lo2, n2, hk2, hin2⟩ := unhide H21
  refine (markIntS_any _ ks (k + tot xss) lo2 n2 _ hk2 (by omega) (by omega) (by omega)).mono ?_
  rintro e w2 ⟨rfl, hs2, hc2⟩
  have hf2 : ChgF S2 w1 w2 := hc2.foot hin2
  have RA2 : Row4 w2 w.heap.size 32 (.int .i64 base) (.slice a1 xss.length c1) (.slice a2 ks.length c2) (.slice a3 pss.length c3) := World.rowIs.of_block (unhide HR1) (hf2.block _ (fun h => unhide HHI _ (Or.inr (Or.inl h)) rfl))
  have HR2 := hide RA2
  clear f2 f3
  obtain ⟨-, -, -, f3, -⟩ := RA2.facts
  have H12 := hide ((unhide HS1).same (fun j hj => hf2.block j (fun h => (unhide H5 j hj).1 h)))
  have H32 := hide ((unhide H31).same (fun j hj => hf2.block j (fun h => unhide H6 j h hj)))
  have H22 : Hid (SlF mI 0 S2 w2 (.slice a2 ks.length c2) (cnts (k + tot xss) ks.length)) := ⟨lo2, n2, hs2, hin2⟩
  have HF2 := hide hf2
  clear RA2 hs2 hc2 hf2 HS1 H31 HR1 hk2 hin2 H21
  go_wp2_with fail
  refine (markIntSS_w _ pss (k + tot xss + ks.length) S3 _ (unhide H32) (by omega) (by omega) (by omega)).mono ?_
  rintro e w3 ⟨rfl, hs3, hc3⟩
  have H13 := hide ((unhide H12).same (fun j hj => hc3.block j (fun h => (unhide H5 j hj).2 h)))
  have H23 := hide ((unhide H22).same (fun j hj => hc3.block j (fun h => unhide H6 j hj h)))
  have HS3 := hide hs3
  have hz : w3.heap.size = (w.alloc (.cells #[.int .i64 base, .slice a1 xss.length c1, .slice a2 ks.length c2, .slice a3 pss.length c3] 32)).heap.size := by rw [hc3.size, (unhide HF2).size, (unhide HC1).size]
  rw [sz_alloc] at hz
  have HZ := hide hz
  have hz' : w.heap.size ≤ w3.heap.size := by omega
  have hBL : Hid (Below lo w w3) := by
    have b1 := (unhide HC1).below (fun j hj => unhide HLO j (Or.inl hj))
    have b2 := (unhide HF2).below (fun j hj => unhide HLO j (Or.inr (Or.inl hj)))
    have b3 := hc3.below (fun j hj => unhide HLO j (Or.inr (Or.inr hj)))
    have b123 := (b1.trans b2).trans b3
    refine ⟨b123.os, b123.tape, b123.output, hz', fun j hj => ?_⟩
    rw [b123.block j hj, hB0.block j (by omega)]
  have hBH : Hid (∀ j, j < w.heap.size → hi ≤ j → w3.heap[j]? = w.heap[j]?) := fun j hj1 hj2 => by
    rw [hc3.block j (fun h => by have := unhide Hhi j (Or.inr (Or.inr h)); omega), (unhide HF2).block j (fun h => by have := unhide Hhi j (Or.inr (Or.inl h)); omega), (unhide HC1).block j (fun h => by have := unhide Hhi j (Or.inl h); omega), hB0.block j hj1]
  clear hs3 hc3 f3 hz H12 H22 H32 HR2
  go_wp2_with fail
  go_ret
  refine ⟨ret_int (by unfold segN; omega), ⟨_, _, _, rfl, (unhide H13).at (fun j hj => ?_), (unhide H23).at (fun j hj => ?_), (unhide HS3).at (fun j hj => ?_)⟩, unhide hBL, unhide hBH⟩
  · have := unhide HAL j (Or.inl hj); omega
  · have := unhide HAL j (Or.inr (Or.inl hj)); omega
  · have := unhide HAL j (Or.inr (Or.inr hj)); omega
/-- All four cells of a box. -/
theorem Row4.all {w : World} {b : Nat} {t : TypeId} {c0 c1 c2 c3 : Value} (h : Row4 w b t c0 c1 c2 c3) (d0 d1 d2 d3 : Value) : Row4 ((((w.setCell ⟨b, 0, none⟩ d0).setCell ⟨b, 1, none⟩ d1).setCell ⟨b, 2, none⟩ d2).setCell ⟨b, 3, none⟩ d3) b t d0 d1 d2 d3 := h.put0.put1.put2.put3
theorem bput4 {m b : Nat} {w w' : World} (h : Below m w w') (hb : m ≤ b) (d0 d1 d2 d3 : Value) : Below m w ((((w'.setCell ⟨b, 0, none⟩ d0).setCell ⟨b, 1, none⟩ d1).setCell ⟨b, 2, none⟩ d2).setCell ⟨b, 3, none⟩ d3) := bput (bput (bput (bput h hb _) hb _) hb _) hb _
theorem SegF.put4 {lo hi b : Nat} {w : World} {v : Value} {base : Int} {xss pss : List (List Int)} {ks : List Int} (h : SegF lo hi w v base xss ks pss) (hb : b < lo) (d0 d1 d2 d3 : Value) : SegF lo hi ((((w.setCell ⟨b, 0, none⟩ d0).setCell ⟨b, 1, none⟩ d1).setCell ⟨b, 2, none⟩ d2).setCell ⟨b, 3, none⟩ d3) v base xss ks pss := (((h.put hb).put hb).put hb).put hb
theorem sz_put4 (b : Nat) (w : World) (d0 d1 d2 d3 : Value) : ((((w.setCell ⟨b, 0, none⟩ d0).setCell ⟨b, 1, none⟩ d1).setCell ⟨b, 2, none⟩ d2).setCell ⟨b, 3, none⟩ d3).heap.size = w.heap.size := by simp only [sz_put]
set_option maxHeartbeats 2000000 in
set_option maxRecDepth 100000 in
theorem szSegment_w (v : Value) (base left : Int) (xss pss : List (List Int)) (ks : List Int) (w : World) (hv : SegRd w v base xss ks pss) (h0 : 0 ≤ left) (h1 : left ≤ 1048576) :
    Calls Try.prog 4 #[v, .int .i64 left] w fun e w' => (∃ r : Int, e = .returned (.int .i64 r) ∧ (r < 0 ∨ (0 ≤ r ∧ r + xss.length + tot xss + ks.length + pss.length + tot pss ≤ left))) ∧ Below w.heap.size w w' := by
  obtain ⟨lv, kv, pv, rfl, u1, u2, u3⟩ := hv
  have U1 := hide u1
  have U2 := hide u2
  have U3 := hide u3
  obtain ⟨a1, c1, rfl, -⟩ := id u1
  obtain ⟨a2, c2, rfl, k2, -⟩ := id u2
  obtain ⟨a3, c3, rfl, -⟩ := id u3
  clear u1 u2 u3
  have hb0 := below1 w (.cells #[.int .i64 base, .slice a1 xss.length c1, .slice a2 ks.length c2, .slice a3 pss.length c3] 26)
  have RA := Row4.new w 26 (.int .i64 base) (.slice a1 xss.length c1) (.slice a2 ks.length c2) (.slice a3 pss.length c3)
  go_enter Try.func4, Try.ntmps4
  go_wp2_with fail
  generalize w.alloc (.cells #[.int .i64 base, .slice a1 xss.length c1, .slice a2 ks.length c2, .slice a3 pss.length c3] 26) = V at *
  refine (szByteSS_w _ xss left _ ((unhide U1).below hb0 (Nat.le_refl _)) h0 h1).mono ?_
  rintro e w1 ⟨⟨r, rfl, hr⟩, hw1⟩
  subst hw1
  obtain ⟨f0, f1, f2, f3, -⟩ := RA.facts
  by_cases hn : r < 0
  · clear hr
    go_wp2
    go_ret
    exact ⟨⟨-1, rfl, Or.inl (by omega)⟩, hb0⟩
  · have hr' : r = left - xss.length - tot xss := by omega
    have HR := hide hr'
    have hr0 : 0 ≤ r := by omega
    have hr1 : r ≤ 1048576 := by omega
    clear hr hr'
    go_wp2_with fail
    refine (szIntS_any a2 ks.length c2 r _ k2 hr0 hr1).mono ?_
    rintro e w2 ⟨rfl, hw2⟩
    subst hw2
    have HS := hide (show szR r ks.length < 0 ∨ szR r ks.length = r - ks.length by unfold szR; split <;> omega)
    have hs1 : szR r ks.length ≤ 1048576 := by have := unhide HS; omega
    generalize szR r ks.length = r2 at *
    by_cases hn2 : r2 < 0
    · go_wp2
      go_ret
      exact ⟨⟨-1, rfl, Or.inl (by omega)⟩, hb0⟩
    · go_wp2_with fail
      refine (szIntSS_w _ pss r2 _ ((unhide U3).below hb0 (Nat.le_refl _)) (by omega) hs1).mono ?_
      rintro e w3 ⟨⟨r3, rfl, hr3⟩, hw3⟩
      subst hw3
      have H3 := hide hr3
      clear hr3
      by_cases hn3 : r3 < 0
      · go_wp2
        go_ret
        exact ⟨⟨-1, rfl, Or.inl (by omega)⟩, hb0⟩
      · go_wp2
        go_ret
        have e1 := unhide HR
        have e2 := unhide HS
        have e3 := unhide H3
        exact ⟨⟨r3, rfl, Or.inr ⟨by omega, by omega⟩⟩, hb0⟩
/-- Cells of a box that are written one by one. -/
theorem SegF.mk3 {w1 w2 w3 : World} {lo : Nat} {base : Int} {v1 v2 v3 : Value} {xss pss : List (List Int)} {ks : List Int} (h1 : SsF mB 0 (Rng lo w1.heap.size) w3 v1 xss) (h2 : SlF mI 0 (Rng w1.heap.size w2.heap.size) w3 v2 ks) (h3 : SsF mI 0 (Rng w2.heap.size w3.heap.size) w3 v3 pss) (z1 : w1.heap.size ≤ w2.heap.size) (z2 : w2.heap.size ≤ w3.heap.size) (z0 : lo ≤ w1.heap.size) : SegF lo w3.heap.size w3 (.agg #[.int .i64 base, v1, v2, v3]) base xss ks pss := by
  refine ⟨v1, v2, v3, _, _, _, rfl, h1, h2, h3, fun k hk => ?_, fun k hk => ⟨fun h => ?_, fun h => ?_⟩, fun k hk h => ?_⟩ <;> unfold Rng at * <;> omega
theorem SsF.putR {α : Type} {mk : α → Value} {d : α} {lo n b o : Nat} {w : World} {v u : Value} {xss : List (List α)} (h : SsF mk d (Rng lo n) w v xss) (hb : b < lo ∨ n ≤ b) : SsF mk d (Rng lo n) (w.setCell ⟨b, o, none⟩ u) v xss := h.same (fun k hk => Below.heap_setCell _ _ _ _ (by unfold Rng at hk; show k ≠ b; omega))
theorem SlF.putR {α : Type} {mk : α → Value} {d : α} {lo n b o : Nat} {w : World} {v u : Value} {xs : List α} (h : SlF mk d (Rng lo n) w v xs) (hb : b < lo ∨ n ≤ b) : SlF mk d (Rng lo n) (w.setCell ⟨b, o, none⟩ u) v xs := h.same (fun k hk => Below.heap_setCell _ _ _ _ (by unfold Rng at hk; show k ≠ b; omega))
theorem SlF.keepR {α : Type} {mk : α → Value} {d : α} {lo n m : Nat} {w w' : World} {v : Value} {xs : List α} (h : SlF mk d (Rng lo n) w v xs) (hb : Below m w w') (hn : n ≤ m) : SlF mk d (Rng lo n) w' v xs := h.same (fun k hk => hb.block k (by unfold Rng at hk; omega))
set_option maxHeartbeats 4000000 in
set_option maxRecDepth 100000 in
theorem toSegment_w (v : Value) (base : Int) (xss pss : List (List Int)) (ks : List Int) (w : World) (hv : SegRd w v base xss ks pss) (i4 : tot xss ≤ 1048576) (i5 : xss.length ≤ 1048576) (i6 : ks.length ≤ 1048576) (i7 : tot pss ≤ 1048576) (i8 : pss.length ≤ 1048576) :
    Calls Try.prog 7 #[v] w fun e w' => ∃ u, e = .returned u ∧ SegF w.heap.size w'.heap.size w' u base xss ks pss ∧ Below w.heap.size w w' := by
  obtain ⟨lv, kv, pv, rfl, u1, u2, u3⟩ := hv
  have U1 := hide u1
  have U2 := hide u2
  have U3 := hide u3
  obtain ⟨a1, c1, rfl, -⟩ := id u1
  obtain ⟨a2, c2, rfl, k2, -⟩ := id u2
  obtain ⟨a3, c3, rfl, -⟩ := id u3
  clear u1 u2 u3
  have hb0 := below3 w (.cells #[.int .i64 base, .slice a1 xss.length c1, .slice a2 ks.length c2, .slice a3 pss.length c3] 26) (.cells #[.int .i64 0, .slice none 0 0, .slice none 0 0, .slice none 0 0] 32) (.cells #[.int .i64 base, .slice none 0 0, .slice none 0 0, .slice none 0 0] 32)
  have RA := ((Row4.new w 26 (.int .i64 base) (.slice a1 xss.length c1) (.slice a2 ks.length c2) (.slice a3 pss.length c3)).alloc (.cells #[.int .i64 0, .slice none 0 0, .slice none 0 0, .slice none 0 0] 32)).alloc (.cells #[.int .i64 base, .slice none 0 0, .slice none 0 0, .slice none 0 0] 32)
  have RR := (Row4.new (w.alloc (.cells #[.int .i64 base, .slice a1 xss.length c1, .slice a2 ks.length c2, .slice a3 pss.length c3] 26)) 32 (.int .i64 0) (.slice none 0 0) (.slice none 0 0) (.slice none 0 0)).alloc (.cells #[.int .i64 base, .slice none 0 0, .slice none 0 0, .slice none 0 0] 32)
  have RO := Row4.new ((w.alloc (.cells #[.int .i64 base, .slice a1 xss.length c1, .slice a2 ks.length c2, .slice a3 pss.length c3] 26)).alloc (.cells #[.int .i64 0, .slice none 0 0, .slice none 0 0, .slice none 0 0] 32)) 32 (.int .i64 base) (.slice none 0 0) (.slice none 0 0) (.slice none 0 0)
  rw [sz_alloc] at RR
  rw [sz_alloc, sz_alloc] at RO
  have hzV : (((w.alloc (.cells #[.int .i64 base, .slice a1 xss.length c1, .slice a2 ks.length c2, .slice a3 pss.length c3] 26)).alloc (.cells #[.int .i64 0, .slice none 0 0, .slice none 0 0, .slice none 0 0] 32)).alloc (.cells #[.int .i64 base, .slice none 0 0, .slice none 0 0, .slice none 0 0] 32)).heap.size = w.heap.size + 3 := by simp
  go_enter Try.func7, Try.ntmps7
  go_wp2_with fail
  generalize ((w.alloc (.cells #[.int .i64 base, .slice a1 xss.length c1, .slice a2 ks.length c2, .slice a3 pss.length c3] 26)).alloc (.cells #[.int .i64 0, .slice none 0 0, .slice none 0 0, .slice none 0 0] 32)).alloc (.cells #[.int .i64 base, .slice none 0 0, .slice none 0 0, .slice none 0 0] 32) = V at *
  refine (toByteSS_w _ xss _ ((unhide U1).below hb0 (Nat.le_refl _)) i5 i4).mono ?_
  rintro e w1 ⟨v1, rfl, hs1, hb1⟩
  have hz1 := hb1.size
  have hB1 : Below w.heap.size w w1 := hb0.trans (hb1.mono (by omega))
  have S1 := hide hs1
  have RA1 := hide ((RA.below hb1 (by omega)).other (b' := w.heap.size + 1 + 1) (o := 1) (u := v1) (by omega))
  have RR1 := hide ((RR.below hb1 (by omega)).other (b' := w.heap.size + 1 + 1) (o := 1) (u := v1) (by omega))
  have RO1 := hide (RO.below hb1 (by omega))
  clear RA RR RO
  obtain ⟨o0, o1, o2, o3, t0, t1, t2, t3⟩ := (unhide RO1).facts
  obtain ⟨f0, f1, f2, f3, -⟩ := (unhide RA1).facts
  obtain ⟨p1, q1, rfl, -⟩ := hs1
  go_wp2_with fail
  have SS1 := hide ((unhide S1).putR (b := w.heap.size + 1 + 1) (o := 1) (u := .slice p1 xss.length q1) (by omega))
  have RO1' := hide ((unhide RO1).put1 (u := .slice p1 xss.length q1))
  have hB1' := bput hB1 (b := w.heap.size + 1 + 1) (o := 1) (by omega) (.slice p1 xss.length q1)
  have hz1' := sz_put w1 ⟨w.heap.size + 1 + 1, 1, none⟩ (.slice p1 xss.length q1)
  generalize w1.setCell ⟨w.heap.size + 1 + 1, 1, none⟩ (.slice p1 xss.length q1) = W1 at *
  clear S1 RO1 o0 o1 o2 o3 t0 t1 t2 t3 f0 f1 f2 f3 hB1
  refine (toIntS_w _ ks _ ((unhide U2).below hB1' (Nat.le_refl _)) i6).mono ?_
  rintro e w2 ⟨v2, rfl, hs2, hb2⟩
  have hz2 := hb2.size
  have hB2 : Below w.heap.size w w2 := hB1'.trans (hb2.mono (by omega))
  have S2 := hide hs2
  obtain ⟨p2, q2, rfl, -⟩ := hs2
  have RA2 := hide (((unhide RA1).below hb2 (by omega)).other (b' := w.heap.size + 1 + 1) (o := 2) (u := .slice p2 ks.length q2) (by omega))
  have RR2 := hide (((unhide RR1).below hb2 (by omega)).other (b' := w.heap.size + 1 + 1) (o := 2) (u := .slice p2 ks.length q2) (by omega))
  have RO2 := hide ((unhide RO1').below hb2 (by omega))
  have SS2 := hide (((unhide SS1).keep hb2 (by omega)).putR (b := w.heap.size + 1 + 1) (o := 2) (u := .slice p2 ks.length q2) (by omega))
  have ST2 := hide ((unhide S2).foot.putR (b := w.heap.size + 1 + 1) (o := 2) (u := .slice p2 ks.length q2) (by omega))
  clear RA1 RR1 RO1' SS1 S2
  obtain ⟨o0, o1, o2, o3, t0, t1, t2, t3⟩ := (unhide RO2).facts
  obtain ⟨f0, f1, f2, f3, -⟩ := (unhide RA2).facts
  go_wp2_with fail
  have RO2' := hide ((unhide RO2).put2 (u := .slice p2 ks.length q2))
  have hB2' := bput hB2 (b := w.heap.size + 1 + 1) (o := 2) (by omega) (.slice p2 ks.length q2)
  have hz2' := sz_put w2 ⟨w.heap.size + 1 + 1, 2, none⟩ (.slice p2 ks.length q2)
  generalize w2.setCell ⟨w.heap.size + 1 + 1, 2, none⟩ (.slice p2 ks.length q2) = W2 at *
  clear RO2 o0 o1 o2 o3 t0 t1 t2 t3 f0 f1 f2 f3 hB2
  refine (toIntSS_w _ pss _ ((unhide U3).below hB2' (Nat.le_refl _)) i8 i7).mono ?_
  rintro e w3 ⟨v3, rfl, hs3, hb3⟩
  have hz3 := hb3.size
  have hB3 : Below w.heap.size w w3 := hB2'.trans (hb3.mono (by omega))
  have S3 := hide hs3
  obtain ⟨p3, q3, rfl, -⟩ := hs3
  have RR3 := hide (((unhide RR2).below hb3 (by omega)).other (b' := w.heap.size + 1 + 1) (o := 3) (u := .slice p3 pss.length q3) (by omega))
  have RO3 := hide ((unhide RO2').below hb3 (by omega))
  have SS3 := hide (((unhide SS2).keep hb3 (by omega)).putR (b := w.heap.size + 1 + 1) (o := 3) (u := .slice p3 pss.length q3) (by omega))
  have ST3 := hide (((unhide ST2).keepR hb3 (by omega)).putR (b := w.heap.size + 1 + 1) (o := 3) (u := .slice p3 pss.length q3) (by omega))
  have SP3 := hide ((unhide S3).putR (b := w.heap.size + 1 + 1) (o := 3) (u := .slice p3 pss.length q3) (by omega))
  clear RA2 RR2 RO2' SS2 ST2 S3
  obtain ⟨o0, o1, o2, o3, t0, t1, t2, t3⟩ := (unhide RO3).facts
  obtain ⟨x0, x1, x2, x3, -⟩ := ((unhide RO3).put3 (u := .slice p3 pss.length q3)).facts
  obtain ⟨r0, r1, r2, r3, y0, y1, y2, y3⟩ := (unhide RR3).facts
  go_wp2_with fail
  have hB3' := bput hB3 (b := w.heap.size + 1 + 1) (o := 3) (by omega) (.slice p3 pss.length q3)
  have hz3' := sz_put w3 ⟨w.heap.size + 1 + 1, 3, none⟩ (.slice p3 pss.length q3)
  obtain ⟨e0, e1, e2, e3, -⟩ := ((unhide RR3).all (.int .i64 base) (.slice p1 xss.length q1) (.slice p2 ks.length q2) (.slice p3 pss.length q3)).facts
  refine bodyPost_ret (v := .agg #[.int .i64 base, .slice p1 xss.length q1, .slice p2 ks.length q2, .slice p3 pss.length q3]) (by simp [results, Try.results7, go_sem, e0, e1, e2, e3]) rfl ⟨_, rfl, ?_, bput4 hB3' (by omega) _ _ _ _⟩
  have HF : SegF V.heap.size (w3.setCell ⟨w.heap.size + 1 + 1, 3, none⟩ (.slice p3 pss.length q3)).heap.size (w3.setCell ⟨w.heap.size + 1 + 1, 3, none⟩ (.slice p3 pss.length q3)) (.agg #[.int .i64 base, .slice p1 xss.length q1, .slice p2 ks.length q2, .slice p3 pss.length q3]) base xss ks pss :=
    SegF.mk3 (w1 := w1) (w2 := w2) ((unhide SS3).mono (fun k hk => hk)) ((unhide ST3).mono (fun k hk => by unfold Rng at *; omega)) ((unhide SP3).mono (fun k hk => by unfold Rng at *; omega)) (by omega) (by omega) (by omega)
  rw [sz_put4]
  exact (HF.put4 (by omega) _ _ _ _).low (by omega) (Nat.le_refl _)

end Go.Proofs.Ytfjnhmgmcldidaa
