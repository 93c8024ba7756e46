import Derived.Test.YtpkghafpelilfaaI13
namespace Go.Proofs.Ytpkghafpelilfaa
open Go.RowKit

/-- A segment that can be read. -/
def SegRd (w : World) (v : Value) (base : Int) (xss : List (List Int)) (ks : List Int) (pss : List (List Int)) : Prop :=
  ∃ lv kv pv, v = .agg #[.int .i64 base, lv, kv, pv] ∧ SsAt mB 0 w.heap.size w lv xss ∧ SlAt mI 0 0 w.heap.size w kv ks ∧ SsAt mI 0 w.heap.size w pv pss
theorem SegRd.below {w w' : World} {v : Value} {base : Int} {xss pss : List (List Int)} {ks : List Int} {m : Nat} (h : SegRd w v base xss ks pss) (hb : Below m w w') (hm : w.heap.size ≤ m) : SegRd w' v base xss ks pss := by
  obtain ⟨lv, kv, pv, e, h1, h2, h3⟩ := h
  exact ⟨lv, kv, pv, e, h1.below hb hm, h2.below hb hm, h3.below hb hm⟩
theorem SegAt.rd {lo : Nat} {w : World} {v : Value} {base : Int} {xss pss : List (List Int)} {ks : List Int} (h : SegAt lo w v base xss ks pss) : SegRd w v base xss ks pss := by
  obtain ⟨lv, kv, pv, e, h1, h2, h3⟩ := h
  exact ⟨lv, kv, pv, e, h1.all (Nat.le_refl _), h2.all (Nat.le_refl _), h3.all (Nat.le_refl _)⟩
theorem SegF.rd {lo hi : Nat} {w : World} {v : Value} {base : Int} {xss pss : List (List Int)} {ks : List Int} (h : SegF lo hi w v base xss ks pss) (hh : hi ≤ w.heap.size) : SegRd w v base xss ks pss := by
  obtain ⟨lv, kv, pv, S1, S2, S3, e, h1, h2, h3, h4, h5, h6⟩ := h
  exact ⟨lv, kv, pv, e, h1.at (fun k hk => Nat.lt_of_lt_of_le (h4 k (Or.inl hk)).2 hh), h2.at (fun k hk => Nat.lt_of_lt_of_le (h4 k (Or.inr (Or.inl hk))).2 hh), h3.at (fun k hk => Nat.lt_of_lt_of_le (h4 k (Or.inr (Or.inr hk))).2 hh)⟩
theorem SegRd.zero (w : World) : SegRd w (.agg #[.int .i64 0, .slice none 0 0, .slice none 0 0, .slice none 0 0]) 0 [] [] [] :=
  ⟨_, _, _, rfl, ⟨none, 0, rfl, ⟨Nat.le_refl _, Nat.zero_le _⟩, fun h => absurd h (by simp)⟩, ⟨none, 0, rfl, Nat.zero_le _, fun h => absurd h (by simp)⟩, ⟨none, 0, rfl, ⟨Nat.le_refl _, Nat.zero_le _⟩, fun h => absurd h (by simp)⟩⟩
theorem SegAt.zero (lo : Nat) (w : World) : SegAt lo w (.agg #[.int .i64 0, .slice none 0 0, .slice none 0 0, .slice none 0 0]) 0 [] [] [] :=
  ⟨_, _, _, rfl, SsF.nil _ _ _ _ _ _ (Nat.zero_le _), ⟨none, 0, rfl, Nat.zero_le _, fun h => absurd h (by simp)⟩, SsF.nil _ _ _ _ _ _ (Nat.zero_le _)⟩
theorem SegF.zero (lo hi : Nat) (w : World) : SegF lo hi w (.agg #[.int .i64 0, .slice none 0 0, .slice none 0 0, .slice none 0 0]) 0 [] [] [] :=
  ⟨_, _, _, fun _ => False, fun _ => False, fun _ => False, rfl, SsF.nil _ _ _ _ _ _ (Nat.zero_le _), ⟨0, 0, ⟨none, 0, rfl, Nat.zero_le _, fun h => absurd h (by simp)⟩, fun k _ h => absurd h (by omega)⟩, SsF.nil _ _ _ _ _ _ (Nat.zero_le _), fun k h => by simp at h, fun k h => by simp at h, fun k h => by simp at h⟩

set_option maxHeartbeats 2000000 in
set_option maxRecDepth 100000 in
theorem eqSegment_w (u v : Value) (base : Int) (xss pss : List (List Int)) (ks : List Int) (w : World) (hu : SegRd w u base xss ks pss) (hv : SegRd w v base xss ks pss) :
    Calls Try.prog 10 #[u, v] w fun e w' => e = .returned (.bool true) ∧ Below w.heap.size w w' := by
  obtain ⟨lv, kv, pv, rfl, u1, u2, u3⟩ := hu
  obtain ⟨lv', kv', pv', rfl, v1, v2, v3⟩ := hv
  have U1 := hide u1
  have U2 := hide u2
  have U3 := hide u3
  have V1 := hide v1
  have V2 := hide v2
  have V3 := hide v3
  obtain ⟨a1, c1, rfl, -⟩ := u1
  obtain ⟨a2, c2, rfl, -⟩ := u2
  obtain ⟨a3, c3, rfl, -⟩ := u3
  obtain ⟨b1, d1, rfl, -⟩ := v1
  obtain ⟨b2, d2, rfl, -⟩ := v2
  obtain ⟨b3, d3, rfl, -⟩ := v3
  have hb0 := below2 w (.cells #[.int .i64 base, .slice a1 xss.length c1, .slice a2 ks.length c2, .slice a3 pss.length c3] 30) (.cells #[.int .i64 base, .slice b1 xss.length d1, .slice b2 ks.length d2, .slice b3 pss.length d3] 30)
  have RA := (Row4.new w 30 (.int .i64 base) (.slice a1 xss.length c1) (.slice a2 ks.length c2) (.slice a3 pss.length c3)).alloc (.cells #[.int .i64 base, .slice b1 xss.length d1, .slice b2 ks.length d2, .slice b3 pss.length d3] 30)
  have RB := Row4.new (w.alloc (.cells #[.int .i64 base, .slice a1 xss.length c1, .slice a2 ks.length c2, .slice a3 pss.length c3] 30)) 30 (.int .i64 base) (.slice b1 xss.length d1) (.slice b2 ks.length d2) (.slice b3 pss.length d3)
  rw [sz_alloc] at RB
  have hzV : ((w.alloc (.cells #[.int .i64 base, .slice a1 xss.length c1, .slice a2 ks.length c2, .slice a3 pss.length c3] 30)).alloc (.cells #[.int .i64 base, .slice b1 xss.length d1, .slice b2 ks.length d2, .slice b3 pss.length d3] 30)).heap.size = w.heap.size + 2 := by simp
  go_enter Try.func10, Try.ntmps10
  go_wp2_with fail
  refine (eqByteSS_w _ _ xss _ ((unhide U1).below hb0 (Nat.le_refl _)) ((unhide V1).below hb0 (Nat.le_refl _))).mono ?_
  rintro e w1 ⟨rfl, hb1⟩
  have RA1 := RA.below hb1 (by rw [hzV]; omega)
  have RB1 := RB.below hb1 (by rw [hzV]; omega)
  obtain ⟨-, -, x2, x3, -⟩ := RA1.facts
  obtain ⟨-, -, y2, y3, -⟩ := RB1.facts
  have hB1 : Below w.heap.size w w1 := hb0.trans (hb1.mono (by rw [hzV]; omega))
  have hz1 : w.heap.size + 2 ≤ w1.heap.size := by have := hb1.size; rwa [hzV] at this
  have HA1 := hide RA1
  have HB1 := hide RB1
  clear RA RB hzV hb1 RA1 RB1 hb0
  go_wp2_with fail
  refine (eqIntS_w _ _ ks _ ((unhide U2).below hB1 (Nat.le_refl _)) ((unhide V2).below hB1 (Nat.le_refl _))).mono ?_
  rintro e w2 ⟨rfl, n2, hw2⟩
  have hB2 : Below w.heap.size w w2 := by rw [hw2]; exact below_drewN hB1 n2
  have RA2 : Row4 w2 w.heap.size 30 (.int .i64 base) (.slice a1 xss.length c1) (.slice a2 ks.length c2) (.slice a3 pss.length c3) := by rw [hw2]; exact unhide HA1
  have RB2 : Row4 w2 (w.heap.size + 1) 30 (.int .i64 base) (.slice b1 xss.length d1) (.slice b2 ks.length d2) (.slice b3 pss.length d3) := by rw [hw2]; exact unhide HB1
  clear x2 x3 y2 y3
  obtain ⟨-, -, -, x3, -⟩ := RA2.facts
  obtain ⟨-, -, -, y3, -⟩ := RB2.facts
  clear hw2 RA2 RB2 HA1 HB1
  go_wp2_with fail
  refine (eqIntSS_w _ _ pss _ ((unhide U3).below hB2 (Nat.le_refl _)) ((unhide V3).below hB2 (Nat.le_refl _))).mono ?_
  rintro e w3 ⟨rfl, hb3⟩
  have hB3 := hB2.trans (hb3.mono hB2.size)
  clear hb3 x3 y3
  go_wp2_with fail
  go_ret
  exact ⟨rfl, hB3⟩

/-- How a segment's marks are counted. -/
def segN (xss : List (List Int)) (ks : List Int) (pss : List (List Int)) : Int := (tot xss : Int) + ks.length + tot pss
/-- A segment whose numbers are marks. -/
def SegMk (w : World) (v : Value) (base k : Int) (xss : List (List Int)) (ks : List Int) (pss : List (List Int)) : Prop :=
  SegRd w v base (marksL cntB k xss) (cnts (k + tot xss) ks.length) (marksL cnts (k + tot xss + ks.length) pss)

set_option maxHeartbeats 2000000 in
set_option maxRecDepth 100000 in
theorem markSegment_w (v : Value) (base k : Int) (xss pss : List (List Int)) (ks : List Int) (lo hi : Nat) (w : World) (hv : SegF lo hi w v base xss ks pss) (k0 : 0 ≤ k) (k1 : k ≤ 2000000) (hlow : lo ≤ w.heap.size) (hhigh : hi ≤ w.heap.size) (t1 : tot xss ≤ 1048576) (t2 : ks.length ≤ 1048576) (t3 : tot pss ≤ 1048576) :
    Calls Try.prog 11 #[v, .int .i64 k] w fun e w' => e = .returned (.int .i64 (k + segN xss ks pss)) ∧ SegMk w' v base k xss ks pss ∧ Below lo w w' ∧ ∀ j, j < w.heap.size → hi ≤ j → w'.heap[j]? = w.heap[j]? := by
  obtain ⟨lv, kv, pv, S1, S2, S3, rfl, h1, h2, h3, h40, h5, h6⟩ := hv
  have h4 : ∀ k, S1 k ∨ S2 k ∨ S3 k → lo ≤ k ∧ k < w.heap.size := fun k hk => ⟨(h40 k hk).1, Nat.lt_of_lt_of_le (h40 k hk).2 hhigh⟩
  have Hhi := hide (fun k hk => (h40 k hk).2)
  clear h40
  have hb0 : ∀ x1 x2 x3 x4 : Value, Below w.heap.size w (w.alloc (.cells #[x1, x2, x3, x4] 30)) := fun x1 x2 x3 x4 => below1 w _
  obtain ⟨a1, c1, e1⟩ : ∃ a c, lv = .slice a xss.length c := by obtain ⟨a, c, e, -⟩ := h1; exact ⟨a, c, e⟩
  obtain ⟨a2, c2, e2⟩ := h2.val
  obtain ⟨a3, c3, e3⟩ : ∃ a c, pv = .slice a pss.length c := by obtain ⟨a, c, e, -⟩ := h3; exact ⟨a, c, e⟩
  subst e1 e2 e3
  have RA := Row4.new w 30 (.int .i64 base) (.slice a1 xss.length c1) (.slice a2 ks.length c2) (.slice a3 pss.length c3)
  have H1 := hide (h1.same (fun j hj => (hb0 (.int .i64 base) (.slice a1 xss.length c1) (.slice a2 ks.length c2) (.slice a3 pss.length c3)).block j (h4 j (Or.inl hj)).2))
  have H2 := hide (h2.same (fun j hj => (hb0 (.int .i64 base) (.slice a1 xss.length c1) (.slice a2 ks.length c2) (.slice a3 pss.length c3)).block j (h4 j (Or.inr (Or.inl hj))).2))
  have H3 := hide (h3.same (fun j hj => (hb0 (.int .i64 base) (.slice a1 xss.length c1) (.slice a2 ks.length c2) (.slice a3 pss.length c3)).block j (h4 j (Or.inr (Or.inr hj))).2))
  have hB0 := hb0 (.int .i64 base) (.slice a1 xss.length c1) (.slice a2 ks.length c2) (.slice a3 pss.length c3)
  have hlo : ∀ j, S1 j ∨ S2 j ∨ S3 j → lo ≤ j := fun j hj => (h4 j hj).1
  have hhi : ∀ j, S1 j ∨ S2 j ∨ S3 j → j ≠ w.heap.size := fun j hj => by have := (h4 j hj).2; omega
  have hall : ∀ j, S1 j ∨ S2 j ∨ S3 j → j < w.heap.size := fun j hj => (h4 j hj).2
  have H5 := hide h5
  have H6 := hide h6
  have HLO := hide hlo
  have HHI := hide hhi
  have HAL := hide hall
  clear h1 h2 h3 hb0 h4 h5 h6 hlo hhi hall
  go_enter Try.func11, Try.ntmps11
  go_wp2_with fail
  refine (markByteSS_w _ xss k S1 _ (unhide H1) k0 (by omega) (by omega)).mono ?_
  rintro e w1 ⟨rfl, hs1, hc1⟩
  have HS1 := hide hs1
  have HC1 := hide hc1
  have RA1 : Row4 w1 w.heap.size 30 (.int .i64 base) (.slice a1 xss.length c1) (.slice a2 ks.length c2) (.slice a3 pss.length c3) := World.rowIs.of_block RA (hc1.block _ (fun h => unhide HHI _ (Or.inl h) rfl))
  have HR1 := hide RA1
  obtain ⟨-, -, f2, f3, -⟩ := RA1.facts
  have H21 := hide ((unhide H2).same (fun j hj => hc1.block j (fun h => (unhide H5 j h).1 hj)))
  have H31 := hide ((unhide H3).same (fun j hj => hc1.block j (fun h => (unhide H5 j h).2 hj)))
  clear hs1 hc1 RA1 RA H1 H2 H3
  go_wp2_with fail
  obtain ⟨lo2, n2, hk2, hin2⟩ := unhide H21
  refine (markIntS_any _ ks (k + tot xss) lo2 n2 _ hk2 (by omega) (by omega) (by omega)).mono ?_
  rintro e w2 ⟨rfl, hs2, hc2⟩
  have hf2 : ChgF S2 w1 w2 := hc2.foot hin2
  have RA2 : Row4 w2 w.heap.size 30 (.int .i64 base) (.slice a1 xss.length c1) (.slice a2 ks.length c2) (.slice a3 pss.length c3) := World.rowIs.of_block (unhide HR1) (hf2.block _ (fun h => unhide HHI _ (Or.inr (Or.inl h)) rfl))
  have HR2 := hide RA2
  clear f2 f3
  obtain ⟨-, -, -, f3, -⟩ := RA2.facts
  have H12 := hide ((unhide HS1).same (fun j hj => hf2.block j (fun h => (unhide H5 j hj).1 h)))
  have H32 := hide ((unhide H31).same (fun j hj => hf2.block j (fun h => unhide H6 j h hj)))
  have H22 : Hid (SlF mI 0 S2 w2 (.slice a2 ks.length c2) (cnts (k + tot xss) ks.length)) := ⟨lo2, n2, hs2, hin2⟩
  have HF2 := hide hf2
  clear RA2 hs2 hc2 hf2 HS1 H31 HR1 hk2 hin2 H21
  go_wp2_with fail
  refine (markIntSS_w _ pss (k + tot xss + ks.length) S3 _ (unhide H32) (by omega) (by omega) (by omega)).mono ?_
  rintro e w3 ⟨rfl, hs3, hc3⟩
  have H13 := hide ((unhide H12).same (fun j hj => hc3.block j (fun h => (unhide H5 j hj).2 h)))
  have H23 := hide ((unhide H22).same (fun j hj => hc3.block j (fun h => unhide H6 j hj h)))
  have HS3 := hide hs3
  have hz : w3.heap.size = (w.alloc (.cells #[.int .i64 base, .slice a1 xss.length c1, .slice a2 ks.length c2, .slice a3 pss.length c3] 30)).heap.size := by rw [hc3.size, (unhide HF2).size, (unhide HC1).size]
  rw [sz_alloc] at hz
  have HZ := hide hz
  have hz' : w.heap.size ≤ w3.heap.size := by omega
  have hBL : Hid (Below lo w w3) := by
    have b1 := (unhide HC1).below (fun j hj => unhide HLO j (Or.inl hj))
    have b2 := (unhide HF2).below (fun j hj => unhide HLO j (Or.inr (Or.inl hj)))
    have b3 := hc3.below (fun j hj => unhide HLO j (Or.inr (Or.inr hj)))
    have b123 := (b1.trans b2).trans b3
    refine ⟨b123.os, b123.tape, b123.output, hz', fun j hj => ?_⟩
    rw [b123.block j hj, hB0.block j (by omega)]
  have hBH : Hid (∀ j, j < w.heap.size → hi ≤ j → w3.heap[j]? = w.heap[j]?) := fun j hj1 hj2 => by
    rw [hc3.block j (fun h => by have := unhide Hhi j (Or.inr (Or.inr h)); omega), (unhide HF2).block j (fun h => by have := unhide Hhi j (Or.inr (Or.inl h)); omega), (unhide HC1).block j (fun h => by have := unhide Hhi j (Or.inl h); omega), hB0.block j hj1]
  clear hs3 hc3 f3 hz H12 H22 H32 HR2
  go_wp2_with fail
  go_ret
  refine ⟨ret_int (by unfold segN; omega), ⟨_, _, _, rfl, (unhide H13).at (fun j hj => ?_), (unhide H23).at (fun j hj => ?_), (unhide HS3).at (fun j hj => ?_)⟩, unhide hBL, unhide hBH⟩
  · have := unhide HAL j (Or.inl hj); omega
  · have := unhide HAL j (Or.inr (Or.inl hj)); omega
  · have := unhide HAL j (Or.inr (Or.inr hj)); omega

set_option maxHeartbeats 2000000 in
set_option maxRecDepth 100000 in
theorem heldSegment_w (v : Value) (base k : Int) (xss pss : List (List Int)) (ks : List Int) (w : World) (hv : SegMk w v base k xss ks pss) (k0 : 0 ≤ k) (k1 : k ≤ 16) (t1 : tot xss ≤ 1048576) (t2 : ks.length ≤ 1048576) (t3 : tot pss ≤ 1048576) :
    Calls Try.prog 17 #[v, .int .i64 k] w fun e w' => e = .returned (.int .i64 (k + segN xss ks pss)) ∧ Below w.heap.size w w' := by
  obtain ⟨lv, kv, pv, rfl, h1, h2, h3⟩ := hv
  have H1 := hide h1
  have H2 := hide h2
  have H3 := hide h3
  obtain ⟨a1, c1, rfl, -⟩ := h1
  obtain ⟨a2, c2, rfl, -⟩ := h2
  obtain ⟨a3, c3, rfl, -⟩ := h3
  simp only [marksL_len, cnts_len] at H1 H2 H3 ⊢
  have hb0 := below1 w (.cells #[.int .i64 base, .slice a1 xss.length c1, .slice a2 ks.length c2, .slice a3 pss.length c3] 30)
  have RA := Row4.new w 30 (.int .i64 base) (.slice a1 xss.length c1) (.slice a2 ks.length c2) (.slice a3 pss.length c3)
  obtain ⟨f0, f1, f2, f3, -⟩ := RA.facts
  have g1 : ¬ k + (tot xss : Int) < 0 := by omega
  have g2 : ¬ k + (tot xss : Int) + (ks.length : Int) < 0 := by omega
  have g3 : ¬ k + (tot xss : Int) + (ks.length : Int) + (tot pss : Int) < 0 := by omega
  go_enter Try.func17, Try.ntmps17
  go_wp2_with fail
  refine (heldByteSS_w _ xss k _ ((unhide H1).below hb0 (Nat.le_refl _)) k0 (by omega) (by omega)).mono ?_
  rintro e w1 ⟨rfl, rfl⟩
  go_wp2_with fail
  refine (heldIntS_any _ ks.length (k + tot xss) _ _ _ ((unhide H2).below hb0 (Nat.le_refl _)) (by omega) (by omega) (by omega)).mono ?_
  rintro e w2 ⟨rfl, rfl⟩
  go_wp2_with fail
  refine (heldIntSS_w _ pss (k + tot xss + ks.length) _ ((unhide H3).below hb0 (Nat.le_refl _)) (by omega) (by omega) (by omega)).mono ?_
  rintro e w3 ⟨rfl, rfl⟩
  go_wp2_with fail
  go_ret
  exact ⟨ret_int (by unfold segN; omega), hb0⟩

end Go.Proofs.Ytpkghafpelilfaa
