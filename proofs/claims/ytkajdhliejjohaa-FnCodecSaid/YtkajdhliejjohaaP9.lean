import Derived.Test.YtkajdhliejjohaaP3
import Derived.Test.YtkajdhliejjohaaP8
import Derived.Deep.RegionHeld3
import Derived.Lib.SmallJoins
import Derived.Laws.BytesArg
import Derived.Lib.Bytes
import Derived.Test.YtkajdhliejjohaaP5
namespace Go.Proofs.Ytkajdhliejjohaa
open Go.RowKit

/-- The lines, each behind its length. -/
def lnL (xss : List (List Int)) : List Int := xss.flatMap (fun x => vi x.length ++ x)
theorem lnL_next {xss : List (List Int)} {k : Nat} (h : k < xss.length) : lnL (xss.take (k + 1)) = lnL (xss.take k) ++ (vi (xss[k]?.getD []).length ++ xss[k]?.getD []) := by
  unfold lnL
  rw [List.take_add_one, List.flatMap_append, List.getElem?_eq_getElem h]
  simp
theorem lnL_len : ∀ xss : List (List Int), tot xss ≤ 1048576 → (lnL xss).length ≤ 9 * xss.length + tot xss
  | [], _ => by simp [lnL]
  | x :: r, h => by
    simp only [Go.Proofs.Ytkajdhliejjohaa.tot] at h
    have h1 := lnL_len r (by omega)
    have h2 := vi_len9 (n := (x.length : Int)) (by omega)
    unfold lnL at h1 ⊢
    simp only [List.flatMap_cons, List.length_append, List.length_cons, Go.Proofs.Ytkajdhliejjohaa.tot]
    omega
/-- The keys with their positions. -/
def kyL (base : Int) : Int → List Int → List (List Int) → List Int
  | b, k :: ks, p :: pss => (vi (k - b) ++ vi p.length) ++ (dst base p ++ kyL base k ks pss)
  | _, _, _ => []
theorem kyL_drop {base b : Int} {ks : List Int} {pss : List (List Int)} {j : Nat} (h : j < ks.length) (h2 : j < pss.length) : kyL base b (ks.drop j) (pss.drop j) = (vi (ks[j]?.getD 0 - b) ++ vi (pss[j]?.getD []).length) ++ (dst base (pss[j]?.getD []) ++ kyL base (ks[j]?.getD 0) (ks.drop (j + 1)) (pss.drop (j + 1))) := by
  rw [List.drop_eq_getElem_cons h, List.drop_eq_getElem_cons h2, List.getElem?_eq_getElem h, List.getElem?_eq_getElem h2]
  rfl
theorem kyL_end {base b : Int} {ks : List Int} {pss : List (List Int)} : kyL base b (ks.drop ks.length) pss = [] := by
  rw [List.drop_length]
  rfl
theorem kyL_len (base : Int) (hb : Mid base) : ∀ (ks : List Int) (pss : List (List Int)) (b : Int), 0 ≤ b → (∀ k ∈ ks, Mid k) → (∀ p ∈ pss, ∀ x ∈ p, Mid x) → tot pss ≤ 1048576 → (kyL base b ks pss).length ≤ 18 * ks.length + 9 * tot pss
  | [], _, _, _, _, _, _ => by simp [kyL]
  | _ :: _, [], _, _, _, _, _ => by simp [kyL]
  | k :: ks, p :: pss, b, h0, h1, h2, h3 => by
    have hk := h1 k (List.mem_cons_self ..)
    simp only [Go.Proofs.Ytkajdhliejjohaa.tot] at h3
    have e1 := kyL_len base hb ks pss k hk.1 (fun y hy => h1 y (List.mem_cons_of_mem _ hy)) (fun y hy => h2 y (List.mem_cons_of_mem _ hy)) (by omega)
    have e2 := vi_len9 (n := k - b) (by have := hk.2; omega)
    have e3 := vi_len9 (n := (p.length : Int)) (by omega)
    have e4 := dst_len p base hb.1 (h2 p (List.mem_cons_self ..))
    simp only [kyL, List.length_append, List.length_cons, Go.Proofs.Ytkajdhliejjohaa.tot]
    omega
/-- What is put ahead of the checksum, and all. -/
def bodL (base : Int) (xss : List (List Int)) (ks : List Int) (pss : List (List Int)) : List Int := [84, 71] ++ (vi base ++ vi xss.length) ++ lnL xss ++ vi ks.length ++ kyL base 0 ks pss
def encL (base : Int) (xss : List (List Int)) (ks : List Int) (pss : List (List Int)) : List Int := bodL base xss ks pss ++ ckB (ck (bodL base xss ks pss))

/-- What is asked of a segment that is encoded. -/
structure EncIn (base : Int) (xss : List (List Int)) (ks : List Int) (pss : List (List Int)) : Prop where
  b : Mid base
  bytes : ∀ x ∈ xss, Bytes x
  k : ∀ k ∈ ks, Mid k
  p : ∀ p ∈ pss, ∀ x ∈ p, Mid x
  t1 : tot xss ≤ 1048576
  l1 : xss.length ≤ 1048576
  l2 : ks.length ≤ 1048576
  t3 : tot pss ≤ 1048576
  l3 : ks.length ≤ pss.length

theorem bytes_of_mem {xs : List Int} (h : ∀ x ∈ xs, 0 ≤ x ∧ x ≤ 255) : Bytes xs := fun i => by
  by_cases hi : i < xs.length
  · rw [List.getElem?_eq_getElem hi]
    exact h _ (List.getElem_mem hi)
  · rw [List.getElem?_eq_none (by omega)]
    simp
theorem mem_of_bytes {xs : List Int} (h : Bytes xs) : ∀ x ∈ xs, 0 ≤ x ∧ x ≤ 255 := fun x hx => by
  obtain ⟨i, hi, rfl⟩ := List.getElem_of_mem hx
  have := h i
  rwa [List.getElem?_eq_getElem hi] at this
theorem dst_mem : ∀ (ps : List Int) (b : Int), ∀ x ∈ dst b ps, 0 ≤ x ∧ x ≤ 255
  | [], _, x, hx => by simp [dst] at hx
  | p :: r, b, x, hx => by
    simp only [dst, List.mem_append] at hx
    rcases hx with h | h
    · exact vi_bytes _ x h
    · exact dst_mem r p x h
theorem kyL_mem (base : Int) : ∀ (ks : List Int) (pss : List (List Int)) (b : Int), ∀ x ∈ kyL base b ks pss, 0 ≤ x ∧ x ≤ 255
  | [], _, _, x, hx => by simp [kyL] at hx
  | _ :: _, [], _, x, hx => by simp [kyL] at hx
  | k :: ks, p :: pss, b, x, hx => by
    simp only [kyL, List.mem_append] at hx
    rcases hx with (h | h) | (h | h)
    · exact vi_bytes _ x h
    · exact vi_bytes _ x h
    · exact dst_mem _ _ x h
    · exact kyL_mem base ks pss k x h
theorem bodL_bytes {base : Int} {xss pss : List (List Int)} {ks : List Int} (h : ∀ x ∈ xss, Bytes x) : Bytes (bodL base xss ks pss) := bytes_of_mem (fun x hx => by
  simp only [bodL, List.mem_append] at hx
  rcases hx with (((hx | (hx | hx)) | hx) | hx) | hx
  · simp at hx; omega
  · exact vi_bytes _ x hx
  · exact vi_bytes _ x hx
  · simp only [lnL, List.mem_flatMap, List.mem_append] at hx
    obtain ⟨l, hl, hx | hx⟩ := hx
    · exact vi_bytes _ x hx
    · exact mem_of_bytes (h l hl) x hx
  · exact vi_bytes _ x hx
  · exact kyL_mem _ _ _ _ x hx)
theorem bodL_len {base : Int} {xss pss : List (List Int)} {ks : List Int} (h : EncIn base xss ks pss) : (bodL base xss ks pss).length ≤ 134217728 := by
  have h1 := lnL_len xss h.t1
  have h2 := kyL_len base h.b ks pss 0 (Int.le_refl _) h.k h.p h.t3
  have h3 := vi_len9 (n := base) (by have := h.b.2; omega)
  have h4 := vi_len9 (n := (xss.length : Int)) (by have := h.l1; omega)
  have h5 := vi_len9 (n := (ks.length : Int)) (by have := h.l2; omega)
  have := h.t1; have := h.l1; have := h.l2; have := h.t3
  simp only [bodL, List.length_append, List.length_cons, List.length_nil]
  omega

theorem SsAt.under {α : Type} {mk : α → Value} {d : α} {N m : Nat} {w w' : World} {v : Value} {xss : List (List α)} (h : SsAt mk d N w v xss) (hb : Below m w w') (hm : N ≤ m) : SsAt mk d N w' v xss := by
  obtain ⟨a, cap, rfl, hl, hc⟩ := h
  refine ⟨a, cap, rfl, hl, fun hp => ?_⟩
  obtain ⟨b, off, rfl, h1, h2⟩ := hc hp
  refine ⟨b, off, rfl, h1, fun i hi => ?_⟩
  obtain ⟨s, h3, h4, h5⟩ := h2 i hi
  exact ⟨s, by rw [hb.cell (p := ⟨b, off + i, none⟩) (by show b < m; omega)]; exact h3, h4.under hb hm, h5⟩

set_option maxHeartbeats 8000000 in
set_option maxRecDepth 100000 in
theorem encoded_any (v : Value) (base : Int) (xss pss : List (List Int)) (ks : List Int) (w : World) (hv : SegRd w v base xss ks pss) (hi : EncIn base xss ks pss) :
    Calls Try.prog 24 #[v] w fun e w' => (∃ v', e = .returned v' ∧ w'.ownsRow w.heap.size 5 1 v' (encL base xss ks pss).length ((encL base xss ks pss).map mB)) ∧ Below w.heap.size w w' := by
  obtain ⟨a1, c1, a2, c2, a3, c3, rfl, u1, u2, u3⟩ := hv.parts
  have U1 := hide u1
  have U2 := hide u2
  have U3 := hide u3
  have HI := hide hi
  obtain ⟨i1, i2, i3, i4, i5, i6, i7, i8, i9⟩ := hi
  have I3 := hide i3
  have I4 := hide i4
  clear hv u1 u2 u3 i2 i3 i4
  unfold Mid at i1
  have cv := Go.Joins.run_convert_bytes_const_at (P := Try.prog) (w.alloc (.cells #[.int .i64 base, .slice a1 xss.length c1, .slice a2 ks.length c2, .slice a3 pss.length c3] 28)) 22 5 #[.int .u8 84, .int .u8 71] 2 2 (w.heap.size + 1) (sz_alloc _ _).symm Try.underlying22 Try.underlying5
  have hb0 := below3 w (.cells #[.int .i64 base, .slice a1 xss.length c1, .slice a2 ks.length c2, .slice a3 pss.length c3] 28) (.cells #[.int .u8 84, .int .u8 71] 5 (2, 3)) (.cells #[.slice (some ⟨w.heap.size + 1, 0, none⟩) 2 2] 70)
  have hbl : Below (w.heap.size + 1) (w.alloc (.cells #[.int .i64 base, .slice a1 xss.length c1, .slice a2 ks.length c2, .slice a3 pss.length c3] 28)) (((w.alloc (.cells #[.int .i64 base, .slice a1 xss.length c1, .slice a2 ks.length c2, .slice a3 pss.length c3] 28)).alloc (.cells #[.int .u8 84, .int .u8 71] 5 (2, 3))).alloc (.cells #[.slice (some ⟨w.heap.size + 1, 0, none⟩) 2 2] 70)) := by have := below2 (w.alloc (.cells #[.int .i64 base, .slice a1 xss.length c1, .slice a2 ks.length c2, .slice a3 pss.length c3] 28)) (.cells #[.int .u8 84, .int .u8 71] 5 (2, 3)) (.cells #[.slice (some ⟨w.heap.size + 1, 0, none⟩) 2 2] 70); rwa [sz_alloc] at this
  have RA := Row4.new w 28 (.int .i64 base) (.slice a1 xss.length c1) (.slice a2 ks.length c2) (.slice a3 pss.length c3)
  have hE0 : EncAny (w.heap.size + 1) (w.heap.size + 1 + 1) (((w.alloc (.cells #[.int .i64 base, .slice a1 xss.length c1, .slice a2 ks.length c2, .slice a3 pss.length c3] 28)).alloc (.cells #[.int .u8 84, .int .u8 71] 5 (2, 3))).alloc (.cells #[.slice (some ⟨w.heap.size + 1, 0, none⟩) 2 2] 70)) [84, 71] := by
    refine ⟨by omega, .slice (some ⟨w.heap.size + 1, 0, none⟩) 2 2, ?_, Or.inr ⟨w.heap.size + 1, #[.int .u8 84, .int .u8 71], (2, 3), rfl, Nat.le_refl _, ?_, rfl⟩⟩
    · have := Boxed.new ((w.alloc (.cells #[.int .i64 base, .slice a1 xss.length c1, .slice a2 ks.length c2, .slice a3 pss.length c3] 28)).alloc (.cells #[.int .u8 84, .int .u8 71] 5 (2, 3))) 70 (.slice (some ⟨w.heap.size + 1, 0, none⟩) 2 2)
      rwa [sz_alloc, sz_alloc] at this
    · rw [(below1 ((w.alloc (.cells #[.int .i64 base, .slice a1 xss.length c1, .slice a2 ks.length c2, .slice a3 pss.length c3] 28)).alloc (.cells #[.int .u8 84, .int .u8 71] 5 (2, 3))) (.cells #[.slice (some ⟨w.heap.size + 1, 0, none⟩) 2 2] 70)).block (w.heap.size + 1) (by rw [sz_alloc, sz_alloc]; omega)]
      have := heap_alloc_new (w.alloc (.cells #[.int .i64 base, .slice a1 xss.length c1, .slice a2 ks.length c2, .slice a3 pss.length c3] 28)) (.cells #[.int .u8 84, .int .u8 71] 5 (2, 3))
      rwa [sz_alloc] at this
  have RV := hide ((RA.below hbl (by omega)))
  have HE0 := hide hE0
  have hzV : (((w.alloc (.cells #[.int .i64 base, .slice a1 xss.length c1, .slice a2 ks.length c2, .slice a3 pss.length c3] 28)).alloc (.cells #[.int .u8 84, .int .u8 71] 5 (2, 3))).alloc (.cells #[.slice (some ⟨w.heap.size + 1, 0, none⟩) 2 2] 70)).heap.size = w.heap.size + 3 := by simp
  obtain ⟨f0, f1, f2, f3, -⟩ := (unhide RV).facts
  clear hE0 RA hbl
  go_enter Try.func24, Try.ntmps24
  go_wp2_with fail
  generalize ((w.alloc (.cells #[.int .i64 base, .slice a1 xss.length c1, .slice a2 ks.length c2, .slice a3 pss.length c3] 28)).alloc (.cells #[.int .u8 84, .int .u8 71] 5 (2, 3))).alloc (.cells #[.slice (some ⟨w.heap.size + 1, 0, none⟩) 2 2] 70) = V at *
  refine (put2_any (w.heap.size + 1) (w.heap.size + 1 + 1) _ base xss.length [84, 71] V (unhide HE0) (by omega) ⟨by omega, by omega⟩ ⟨by omega, by omega⟩ (by simp) hzV.symm).mono ?_
  rintro e w1 ⟨⟨v1, rfl⟩, henc1, hb1⟩
  have hz1 := hb1.size
  have He1 := hide henc1
  have R1 := hide ((unhide RV).below hb1 (by omega))
  have hB1 : Below w.heap.size w w1 := hb0.trans (hb1.mono (by omega))
  have HV3 := hide (vi_len9 (n := base) (by omega))
  have HV4 := hide (vi_len9 (n := (xss.length : Int)) (by omega))
  clear henc1 HE0 cv hb0 hb1 f0 f1 f2 f3
  obtain ⟨f0, f1, f2, f3, -⟩ := (unhide R1).facts
  go_wp2_with fail
  go_loopw [22] (fun iv wr => ∃ k : Nat, k ≤ xss.length ∧ iv = .int .i64 k ∧ EncAt (w.heap.size + 1) (w.heap.size + 1 + 1) wr ([84, 71] ++ (vi base ++ vi xss.length) ++ lnL (xss.take k)) ∧ Below (w.heap.size + 1) w1 wr) (fun iv _ => xss.length - (intOf iv).toNat)
  case atStart => exact ⟨0, Nat.zero_le _, rfl, by simpa [lnL] using unhide He1, Below.refl _ _⟩
  case round =>
    obtain ⟨k, hk, rfl, henc, hb⟩ := hrel
    have hz := hb.size
    have Henc := hide henc
    have hB : Below w.heap.size w wr := hB1.trans (hb.mono (by omega))
    clear henc
    by_cases hlt : k < xss.length
    · have hlt' : (k : Int) < (xss.length : Int) := by omega
      obtain ⟨_, _, e1, -, hc⟩ := (unhide U1).under hB (Nat.le_refl _)
      cases e1
      obtain ⟨b, off, rfl, hbn, hcell⟩ := hc (by omega)
      obtain ⟨s, hx, hs, -⟩ := hcell k hlt
      have Hs := hide (hs.mono (Nat.le_refl _) (show w.heap.size ≤ w.heap.size + 1 by omega))
      have ht := tot_get xss k
      have Hn := hide (lnL_next hlt)
      have hln : ([84, 71] ++ (vi base ++ vi xss.length) ++ lnL (xss.take k)).length ≤ 268435456 := by
        have h1 := lnL_len (xss.take k) (by have := tot_take xss k; omega)
        have h2 := tot_take xss k
        have h3 := unhide HV3
        have h4 := unhide HV4
        rw [List.length_take] at h1
        simp only [List.length_append, List.length_cons, List.length_nil]
        omega
      obtain ⟨sa, sc, rfl, -, -⟩ := hs
      clear hcell hc
      generalize xss[k]?.getD [] = x at *
      go_wp2_with fail
      refine (putLine_any (w.heap.size + 1) (w.heap.size + 1 + 1) _ x _ wr (unhide Henc) (by omega) (unhide Hs) (by omega) hln).mono ?_
      rintro e w2 ⟨⟨v2, rfl⟩, henc2, hb2⟩
      have He2 := hide henc2
      clear henc2
      go_wp2
      go_roundw
      case rel => exact ⟨k + 1, by omega, by go_num, by rw [unhide Hn, ← List.append_assoc]; exact unhide He2, hb.trans hb2⟩
      case measure => simp [intOf]; omega
    · obtain rfl : k = xss.length := by omega
      rw [List.take_length] at Henc
      obtain ⟨w3, hw3⟩ : ∃ w3, w3 = wr := ⟨_, rfl⟩
      rw [← hw3] at hb hz Henc hB ⊢
      clear hw3
      have R3 := hide ((unhide R1).below hb (by omega))
      have HT : Hid ([84, 71] ++ (vi base ++ vi xss.length) ++ lnL xss ++ vi ks.length ++ kyL base 0 ks pss = bodL base xss ks pss) := rfl
      have hbd := bodL_len (unhide HI)
      have HBd := hide hbd
      have hl1 : ([84, 71] ++ (vi base ++ vi xss.length) ++ lnL xss).length ≤ 134217728 := by
        unfold bodL at hbd
        simp only [List.length_append] at hbd ⊢
        omega
      have hl2 : ([84, 71] ++ (vi base ++ vi xss.length) ++ lnL xss ++ vi ks.length).length + (kyL base 0 ks pss).length ≤ 134217728 := by
        unfold bodL at hbd
        simp only [List.length_append] at hbd ⊢
        omega
      clear f0 f1 f2 f3 hbd
      generalize [84, 71] ++ (vi base ++ vi xss.length) ++ lnL xss = t1 at *
      obtain ⟨f0, f1, f2, f3, -⟩ := (unhide R3).facts
      go_wp2_with fail
      refine (put1_any (w.heap.size + 1) (w.heap.size + 1 + 1) _ ks.length t1 w3 (unhide Henc).any (by omega) ⟨by omega, by omega⟩ (by omega) rfl).mono ?_
      rintro e w4 ⟨⟨v4, rfl⟩, henc4, hb4⟩
      have hz4 := hb4.size
      have He4 := hide henc4
      have R4 := hide ((unhide R3).below hb4 (by omega))
      have hB4 : Below w.heap.size w w4 := hB.trans (hb4.mono (by omega))
      clear henc4 f0 f1 f2 f3 hb4
      generalize t1 ++ vi ks.length = t2 at *
      obtain ⟨f0, f1, f2, f3, -⟩ := (unhide R4).facts
      go_wp2_with fail
      go_loopw [6, 37] (fun bv iv wr => ∃ (j : Nat) (c : Int) (ds : List Int), j ≤ ks.length ∧ iv = .int .i64 j ∧ bv = .int .i64 c ∧ Mid c ∧ kyL base 0 ks pss = ds ++ kyL base c (ks.drop j) (pss.drop j) ∧ EncAt (w.heap.size + 1) (w.heap.size + 1 + 1) wr (t2 ++ ds) ∧ Below (w.heap.size + 1) w4 wr) (fun _ iv _ => ks.length - (intOf iv).toNat)
      case atStart => exact ⟨0, 0, [], Nat.zero_le _, rfl, rfl, ⟨by omega, by omega⟩, rfl, by simpa using unhide He4, Below.refl _ _⟩
      case round =>
        obtain ⟨j, c, ds, hj, rfl, rfl, hc0, hds, henc5, hb5⟩ := hrel
        have hz5 := hb5.size
        have He5 := hide henc5
        have hB5 : Below w.heap.size w wr := hB4.trans (hb5.mono (by omega))
        have hdl : t2.length + ds.length ≤ 134217728 := by
          rw [hds, List.length_append] at hl2
          omega
        have Hds := hide hds
        have R5 := hide ((unhide R4).below hb5 (by omega))
        clear henc5 hds f0 f1 f2 f3
        unfold Mid at hc0
        obtain ⟨f0, f1, f2, f3, -⟩ := (unhide R5).facts
        by_cases hlt : j < ks.length
        · have hlt' : (j : Int) < (ks.length : Int) := by omega
          have hlp : j < pss.length := by omega
          have hlp' : (j : Int) < (pss.length : Int) := by omega
          obtain ⟨_, _, e2, -, hc2⟩ := (unhide U2).under hB5 (Nat.le_refl _)
          cases e2
          obtain ⟨b2, off2, rfl, -, -, hcell2⟩ := hc2 (by omega)
          have hx2 := hcell2 j hlt
          unfold mI at hx2
          obtain ⟨_, _, e3, -, hc3⟩ := (unhide U3).under hB5 (Nat.le_refl _)
          cases e3
          obtain ⟨b3, off3, rfl, hb3n, hcell3⟩ := hc3 (by omega)
          obtain ⟨s, hx3, hs3, -⟩ := hcell3 j hlp
          have Hs := hide (hs3.mono (Nat.le_refl _) (show w.heap.size ≤ w.heap.size + 1 by omega))
          have hk : Mid (ks[j]?.getD 0) := unhide I3 _ (by rw [List.getElem?_eq_getElem hlt]; exact List.getElem_mem hlt)
          have HP : Hid (∀ x ∈ pss[j]?.getD [], Mid x) := unhide I4 _ (by rw [List.getElem?_eq_getElem hlp]; exact List.getElem_mem hlp)
          have ht := tot_get pss j
          have Hdd := hide (kyL_drop (base := base) (b := c) hlt hlp)
          obtain ⟨sa, sc, rfl, -, -⟩ := hs3
          clear hcell2 hc2 hcell3 hc3
          generalize ks[j]?.getD 0 = key at *
          generalize pss[j]?.getD [] = p at *
          unfold Mid at hk
          go_wp2_with fail
          refine (put2_any (w.heap.size + 1) (w.heap.size + 1 + 1) _ (key - c) p.length (t2 ++ ds) wr (unhide He5).any (by omega) ⟨by omega, by omega⟩ ⟨by omega, by omega⟩ (by rw [List.length_append]; omega) rfl).mono ?_
          rintro e w6 ⟨⟨v6, rfl⟩, henc6, hb6⟩
          have hz6 := hb6.size
          have hw1 := vi_len9 (n := key - c) (by omega)
          have hw2 := vi_len9 (n := (p.length : Int)) (by omega)
          have hl6 : (t2 ++ ds ++ (vi (key - c) ++ vi p.length)).length ≤ 268435456 := by simp only [List.length_append]; omega
          have He6 := hide henc6
          have R6 := hide ((unhide R5).below hb6 (by omega))
          have hS : Hid (∀ W' : World, Below (w.heap.size + 1) w6 W' → W'.cell? ⟨w.heap.size, 0, none⟩ = some (.int .i64 base) ∧ W'.cell? ⟨w.heap.size, 3, none⟩ = some (.slice (some ⟨b3, off3, none⟩) pss.length c3) ∧ W'.cell? ⟨b3, off3 + j, none⟩ = some (.slice sa p.length sc)) := fun W' hW => by
            have h1 := ((unhide R6).below hW (by omega)).facts
            exact ⟨h1.1, h1.2.2.2.1, by rw [hW.cell (p := ⟨b3, off3 + j, none⟩) (by show b3 < _; omega), hb6.cell (p := ⟨b3, off3 + j, none⟩) (by show b3 < _; omega)]; exact hx3⟩
          have Hs6 := hide ((unhide Hs).under hb6 (Nat.le_refl _))
          clear henc6 f0 f1 f2 f3 hx2 hx3
          obtain ⟨f0, f3, hx3⟩ := unhide hS w6 (Below.refl _ _)
          go_wp2_with fail
          go_region_held3 (fun W' => W'.cell? ⟨w.heap.size, 0, none⟩ = some (.int .i64 base) ∧ W'.cell? ⟨w.heap.size, 3, none⟩ = some (.slice (some ⟨b3, off3, none⟩) pss.length c3) ∧ W'.cell? ⟨b3, off3 + j, none⟩ = some (.slice sa p.length sc))
            (first | (with_reducible exact unhide hS _ hB7) | go_keep)
            (first
              | (go_at_call 45; refine (putDistances_any (w.heap.size + 1) (w.heap.size + 1 + 1) _ base p _ _ (by exact unhide He6) (by show _ ≤ w6.heap.size; omega) (by exact unhide Hs6) ⟨by omega, by omega⟩ (unhide HP) (by omega) hl6).mono ?_; rintro e w7 ⟨⟨v7, rfl⟩, henc7, hb7⟩; have hB7 : Below (w.heap.size + 1) w6 w7 := ⟨hb7.os, hb7.tape, hb7.output, hb7.size, hb7.block⟩; have He7 := hide henc7; clear henc7 hb7))
          go_wp2
          have e7 : t2 ++ (ds ++ (vi (key - c) ++ vi p.length) ++ dst base p) = t2 ++ ds ++ (vi (key - c) ++ vi p.length) ++ dst base p := by simp only [List.append_assoc]
          exact ⟨⟨j + 1, key, ds ++ (vi (key - c) ++ vi p.length) ++ dst base p, by omega, by go_num, rfl, hk, by rw [unhide Hds, unhide Hdd]; simp only [List.append_assoc], by rw [e7]; exact unhide He7, hb5.trans (hb6.trans hB7)⟩, by simp [intOf]; omega⟩
        · obtain rfl : j = ks.length := by omega
          have hE : Hid (EncAt (w.heap.size + 1) (w.heap.size + 1 + 1) wr (bodL base xss ks pss)) := by
            have h1 := unhide Hds
            rw [kyL_end, List.append_nil] at h1
            rw [← unhide HT, h1]
            exact unhide He5
          go_wp2_with fail
          refine (putChecksum_any (w.heap.size + 1) (w.heap.size + 1 + 1) (bodL base xss ks pss) wr (unhide hE) (by omega) (bodL_bytes (unhide HI).bytes) (by have := unhide HBd; omega)).mono ?_
          rintro e w8 ⟨⟨v8, rfl⟩, henc8, hb8⟩
          have henc9 : EncAt (w.heap.size + 1) (w.heap.size + 1 + 1) w8 (encL base xss ks pss) := henc8
          obtain ⟨-, ov, hbx, hown⟩ := henc9
          have c8 := hbx.cell
          have Ho8 := hide hown
          obtain ⟨oa8, oc8, rfl⟩ := own_is hown
          have hBf : Below w.heap.size w w8 := hB5.trans (hb8.mono (by omega))
          clear hbx hown henc8 hb8
          go_wp2
          go_ret
          exact ⟨⟨_, rfl, own_low (unhide Ho8) (by omega)⟩, hBf⟩

end Go.Proofs.Ytkajdhliejjohaa

namespace Go.Proofs.Ytkajdhliejjohaa
open Go.RowKit

/-- A number is read: at most f bytes, zeros behind the end. -/
def tv : Nat → List Int → Int × List Int
  | 0, xs => (0, xs)
  | f + 1, xs => if xs.headD 0 < 128 then (xs.headD 0, xs.tail) else (xs.headD 0 % 128 + 128 * (tv f xs.tail).1, (tv f xs.tail).2)
/-- The same, but a number must end, and the bytes must be there. -/
def rv : Nat → List Int → Option (Int × List Int)
  | 0, _ => none
  | _ + 1, [] => none
  | f + 1, b :: r => if b < 128 then some (b, r) else (rv f r).map (fun p => (b % 128 + 128 * p.1, p.2))

theorem tv_lo (f : Nat) (n : Int) (r : List Int) (h0 : 0 ≤ n) (h : n < 128) : tv (f + 1) (vi n ++ r) = (n, r) := by
  rw [vi_lo h]
  have e : n % 256 = n := by omega
  simp [tv, e, h]
theorem tv_vi (f : Nat) : ∀ (n : Int) (r : List Int), 0 ≤ n → n < 128 ^ (f + 1) → tv (f + 1) (vi n ++ r) = (n, r) := by
  induction f with
  | zero => intro n r h0 h1; exact tv_lo 0 n r h0 (by simpa using h1)
  | succ f ih =>
    intro n r h0 h1
    by_cases h : n < 128
    · exact tv_lo _ n r h0 h
    · have hlt : n / 128 < 128 ^ (f + 1) := by rw [Int.pow_succ] at h1; omega
      have hi := ih (n / 128) r (by omega) hlt
      have e1 : ¬ (n % 128 + 128 < 128) := by omega
      rw [vi_hi h]
      generalize f + 1 = g at hi ⊢
      have e2 : tv (g + 1) ((n % 128 + 128) :: vi (n / 128) ++ r) = ((n % 128 + 128) % 128 + 128 * (tv g (vi (n / 128) ++ r)).1, (tv g (vi (n / 128) ++ r)).2) := by
        simp only [tv, List.cons_append, List.headD_cons, List.tail_cons, e1, if_false]
      rw [e2, hi]
      show ((n % 128 + 128) % 128 + 128 * (n / 128), r) = (n, r)
      congr 1
      omega
theorem rv_lo (f : Nat) (n : Int) (r : List Int) (h0 : 0 ≤ n) (h : n < 128) : rv (f + 1) (vi n ++ r) = some (n, r) := by
  rw [vi_lo h]
  have e : n % 256 = n := by omega
  simp [rv, e, h]
theorem rv_vi (f : Nat) : ∀ (n : Int) (r : List Int), 0 ≤ n → n < 128 ^ (f + 1) → rv (f + 1) (vi n ++ r) = some (n, r) := by
  induction f with
  | zero => intro n r h0 h1; exact rv_lo 0 n r h0 (by simpa using h1)
  | succ f ih =>
    intro n r h0 h1
    by_cases h : n < 128
    · exact rv_lo _ n r h0 h
    · have hlt : n / 128 < 128 ^ (f + 1) := by rw [Int.pow_succ] at h1; omega
      have hi := ih (n / 128) r (by omega) hlt
      have e1 : ¬ (n % 128 + 128 < 128) := by omega
      rw [vi_hi h]
      generalize f + 1 = g at hi ⊢
      have e2 : rv (g + 1) ((n % 128 + 128) :: vi (n / 128) ++ r) = (rv g (vi (n / 128) ++ r)).map (fun p => ((n % 128 + 128) % 128 + 128 * p.1, p.2)) := by
        simp only [rv, List.cons_append, e1, if_false]
      rw [e2, hi]
      show some ((n % 128 + 128) % 128 + 128 * (n / 128), r) = some (n, r)
      congr 2
      omega
theorem tv_bounds (f : Nat) : ∀ xs : List Int, (∀ x ∈ xs, 0 ≤ x ∧ x ≤ 255) → 0 ≤ (tv f xs).1 ∧ (tv f xs).1 < 128 ^ f ∧ ∃ k, (tv f xs).2 = xs.drop k := by
  induction f with
  | zero => intro xs _; exact ⟨Int.le_refl _, by simp [tv], 0, by simp [tv]⟩
  | succ f ih =>
    intro xs h
    have hh : 0 ≤ xs.headD 0 ∧ xs.headD 0 ≤ 255 := by
      cases xs with
      | nil => simp
      | cons x r => exact h x (List.mem_cons_self ..)
    obtain ⟨h1, h2, k, hk⟩ := ih xs.tail (fun x hx => h x (List.mem_of_mem_tail hx))
    have hp : (128 : Int) ^ (f + 1) = 128 * 128 ^ f := by rw [Int.pow_succ]; omega
    have hpos : (1 : Int) ≤ 128 ^ f := by omega
    simp only [tv]
    split
    · refine ⟨hh.1, by rw [hp]; omega, 1, ?_⟩
      cases xs <;> simp
    · refine ⟨by omega, by rw [hp]; omega, k + 1, ?_⟩
      show (tv f xs.tail).2 = _
      rw [hk]
      cases xs <;> simp

/-- The lines, so many, each behind its length: what is found. -/
def pl : Nat → List Int → List (List Int)
  | 0, _ => []
  | k + 1, xs => (tv 9 xs).2.take (tv 9 xs).1.toNat :: pl k ((tv 9 xs).2.drop (tv 9 xs).1.toNat)
theorem pl_len : ∀ (k : Nat) (xs : List Int), (pl k xs).length = k
  | 0, _ => rfl
  | k + 1, xs => by simp [pl, pl_len k]
/-- The same, but they must be there. -/
def rl : Nat → List Int → Option (List (List Int))
  | 0, _ => some []
  | k + 1, xs => match rv 4 xs with
    | none => none
    | some (m, r) => if (r.length : Int) < m then none else (rl k (r.drop m.toNat)).map (fun l => r.take m.toNat :: l)

theorem pl_ln : ∀ (xss : List (List Int)) (r : List Int), tot xss ≤ 1048576 → pl xss.length (lnL xss ++ r) = xss
  | [], _, _ => rfl
  | x :: xss, r, h => by
    simp only [Go.Proofs.Ytkajdhliejjohaa.tot] at h
    have e : lnL (x :: xss) ++ r = vi x.length ++ (x ++ (lnL xss ++ r)) := by simp [lnL, List.append_assoc]
    have e1 := tv_vi 8 (x.length : Int) (x ++ (lnL xss ++ r)) (by omega) (by omega)
    rw [List.length_cons, e, pl, e1]
    simp only [Int.toNat_natCast, List.take_left, List.drop_left]
    rw [pl_ln xss r (by omega)]
theorem rl_ln : ∀ (xss : List (List Int)) (r : List Int), tot xss ≤ 1048576 → rl xss.length (lnL xss ++ r) = some xss
  | [], _, _ => rfl
  | x :: xss, r, h => by
    simp only [Go.Proofs.Ytkajdhliejjohaa.tot] at h
    have e : lnL (x :: xss) ++ r = vi x.length ++ (x ++ (lnL xss ++ r)) := by simp [lnL, List.append_assoc]
    have e1 := rv_vi 3 (x.length : Int) (x ++ (lnL xss ++ r)) (by omega) (by omega)
    have e2 : ¬ (((x ++ (lnL xss ++ r)).length : Int) < (x.length : Int)) := by rw [List.length_append]; omega
    rw [List.length_cons, e, rl, e1]
    simp only [e2, if_false, Int.toNat_natCast, List.take_left, List.drop_left]
    rw [rl_ln xss r (by omega)]
    rfl

/-- What the program reads, what the model reads. -/
def parP (bs : List Int) : Int × List (List Int) :=
  ((tv 9 (bs.drop 2)).1, pl (min (tv 9 (tv 9 (bs.drop 2)).2).1 1000).toNat (tv 9 (tv 9 (bs.drop 2)).2).2)
def parM (bs : List Int) : Option (Int × List (List Int)) :=
  if bs.length < 2 then none else match rv 4 (bs.drop 2) with
    | none => none
    | some (b, r) => match rv 4 r with
      | none => none
      | some (n, r2) => if 1000 < n then none else (rl n.toNat r2).map (fun l => (b, l))

theorem enc_shape (base : Int) (xss pss : List (List Int)) (ks : List Int) : ∃ r, encL base xss ks pss = 84 :: 71 :: (vi base ++ (vi xss.length ++ (lnL xss ++ r))) := by
  refine ⟨vi ks.length ++ (kyL base 0 ks pss ++ ckB (ck (bodL base xss ks pss))), ?_⟩
  simp [encL, bodL, List.append_assoc]
theorem parP_enc {base : Int} {xss pss : List (List Int)} {ks : List Int} (h : Fits base xss) : parP (encL base xss ks pss) = (base, xss) := by
  obtain ⟨h0, h1, h2, -, h4⟩ := h
  obtain ⟨r, e⟩ := enc_shape base xss pss ks
  have e1 := tv_vi 8 base (vi xss.length ++ (lnL xss ++ r)) h0 (by omega)
  have e2 := tv_vi 8 (xss.length : Int) (lnL xss ++ r) (by omega) (by omega)
  have e3 : min (xss.length : Int) 1000 = xss.length := by omega
  unfold parP
  rw [e]
  simp only [List.drop_succ_cons, List.drop_zero, e1, e2, e3, Int.toNat_natCast, pl_ln xss r (by omega)]
theorem parM_enc {base : Int} {xss pss : List (List Int)} {ks : List Int} (h : Fits base xss) : parM (encL base xss ks pss) = some (base, xss) := by
  obtain ⟨h0, h1, h2, -, h4⟩ := h
  obtain ⟨r, e⟩ := enc_shape base xss pss ks
  have e1 := rv_vi 3 base (vi xss.length ++ (lnL xss ++ r)) h0 (by omega)
  have e2 := rv_vi 3 (xss.length : Int) (lnL xss ++ r) (by omega) (by omega)
  have e3 : ¬ (1000 : Int) < xss.length := by omega
  have e4 : ¬ (84 :: 71 :: (vi base ++ (vi xss.length ++ (lnL xss ++ r)))).length < 2 := by simp
  unfold parM
  rw [e, if_neg e4]
  simp only [List.drop_succ_cons, List.drop_zero, e1, e2, e3, if_false, Int.toNat_natCast, rl_ln xss r (by omega), Option.map_some]

/-- bs is the encoded form of this segment. -/
def Dec (bs : List Int) (b : Int) (xs : List (List Int)) (ks : List Int) (pss : List (List Int)) : Prop := Fits b xs ∧ SegR b xs ks pss ∧ encL b xs ks pss = bs
theorem Dec.uniq {bs : List Int} {b b' : Int} {xs xs' pss pss' : List (List Int)} {ks ks' : List Int} (h : Dec bs b xs ks pss) (h' : Dec bs b' xs' ks' pss') : b = b' ∧ xs = xs' ∧ ks = ks' ∧ pss = pss' := by
  obtain ⟨h1, h2, h3⟩ := h
  obtain ⟨g1, g2, g3⟩ := h'
  have e1 := parP_enc (ks := ks) (pss := pss) h1
  have e2 := parP_enc (ks := ks') (pss := pss') g1
  rw [h3] at e1
  rw [g3, e1] at e2
  simp only [Prod.mk.injEq] at e2
  obtain ⟨rfl, rfl⟩ := e2
  have := h2.uniq g2
  exact ⟨rfl, rfl, this.1, this.2⟩
/-- What both sides answer, as data. -/
def DecIs (bs : List Int) (b : Int) (xs : List (List Int)) (ks : List Int) (pss : List (List Int)) (c : Int) : Prop :=
  (Dec bs b xs ks pss ∧ c = 0) ∨ ((∀ b xs ks pss, ¬ Dec bs b xs ks pss) ∧ b = 0 ∧ xs = [] ∧ ks = [] ∧ pss = [] ∧ c = 5)
theorem DecIs.uniq {bs : List Int} {b b' c c' : Int} {xs xs' pss pss' : List (List Int)} {ks ks' : List Int} (h : DecIs bs b xs ks pss c) (h' : DecIs bs b' xs' ks' pss' c') : b = b' ∧ xs = xs' ∧ ks = ks' ∧ pss = pss' ∧ c = c' := by
  rcases h with ⟨h, rfl⟩ | ⟨h, rfl, rfl, rfl, rfl, rfl⟩
  · rcases h' with ⟨h', rfl⟩ | ⟨h', -⟩
    · have := h.uniq h'
      exact ⟨this.1, this.2.1, this.2.2.1, this.2.2.2, rfl⟩
    · exact absurd h (h' _ _ _ _)
  · rcases h' with ⟨h', -⟩ | ⟨-, rfl, rfl, rfl, rfl, rfl⟩
    · exact absurd h' (h _ _ _ _)
    · exact ⟨rfl, rfl, rfl, rfl, rfl⟩
/-- No such segment, if what is read makes none. -/
theorem noDec_P {bs : List Int} {b : Int} {xs : List (List Int)} (hp : parP bs = (b, xs)) (h : ¬ Fits b xs ∨ ∃ ks pss, SegR b xs ks pss ∧ encL b xs ks pss ≠ bs) : ∀ b xs ks pss, ¬ Dec bs b xs ks pss := by
  rintro b' xs' ks' pss' ⟨h1, h2, h3⟩
  have e1 := parP_enc (ks := ks') (pss := pss') h1
  rw [h3, hp] at e1
  simp only [Prod.mk.injEq] at e1
  obtain ⟨rfl, rfl⟩ := e1
  rcases h with h | ⟨ks, pss, g1, g2⟩
  · exact h h1
  · obtain ⟨rfl, rfl⟩ := g1.uniq h2
    exact g2 h3
theorem noDec_M {bs : List Int} (h : parM bs = none ∨ ∃ b xs, parM bs = some (b, xs) ∧ (¬ Fits b xs ∨ ∃ ks pss, SegR b xs ks pss ∧ encL b xs ks pss ≠ bs)) : ∀ b xs ks pss, ¬ Dec bs b xs ks pss := by
  rintro b' xs' ks' pss' ⟨h1, h2, h3⟩
  have e1 := parM_enc (ks := ks') (pss := pss') h1
  rw [h3] at e1
  rcases h with h | ⟨b, xs, hp, h⟩
  · rw [h] at e1; cases e1
  · rw [hp] at e1
    simp only [Option.some.injEq, Prod.mk.injEq] at e1
    obtain ⟨rfl, rfl⟩ := e1
    rcases h with h | ⟨ks, pss, g1, g2⟩
    · exact h h1
    · obtain ⟨rfl, rfl⟩ := g1.uniq h2
      exact g2 h3

end Go.Proofs.Ytkajdhliejjohaa

namespace Go.Proofs.Ytkajdhliejjohaa
open Go.RowKit

theorem strOf_inj {xs ys : List Int} (hx : Bytes xs) (hy : Bytes ys) (h : (strOfNums xs).toList = (strOfNums ys).toList) : xs = ys := by
  have h1 : (xs.map fun n => UInt8.ofNat n.toNat) = ys.map fun n => UInt8.ofNat n.toNat := by
    rw [Lib.strOfNums_toList, Lib.strOfNums_toList] at h
    exact h
  have hl : xs.length = ys.length := by simpa using congrArg List.length h1
  refine List.ext_getElem hl (fun i h2 h3 => ?_)
  have e1 : (xs.map fun n => UInt8.ofNat n.toNat)[i]? = (ys.map fun n => UInt8.ofNat n.toNat)[i]? := by rw [h1]
  rw [List.getElem?_map, List.getElem?_map, List.getElem?_eq_getElem h2, List.getElem?_eq_getElem h3] at e1
  simp only [Option.map_some, Option.some.injEq] at e1
  have bx := hx i
  have bys := hy i
  rw [List.getElem?_eq_getElem h2] at bx
  rw [List.getElem?_eq_getElem h3] at bys
  simp only [Option.getD_some] at bx bys
  have e2 := congrArg UInt8.toNat e1
  rw [UInt8.toNat_ofNat', UInt8.toNat_ofNat'] at e2
  omega

set_option maxHeartbeats 1000000 in
set_option maxRecDepth 100000 in
theorem l4sameBytes_any (u v : Value) (x y : List Int) (N : Nat) (w : World) (hu : SlAt mB 0 0 N w u x) (hv : SlAt mB 0 0 N w v y) (hx : Bytes x) (hy : Bytes y) :
    Calls Try.prog 21 #[u, v] w fun e w' => RetB e (x = y) ∧ ∃ q, w' = w.drewN q := by
  have c1 := str_of hu
  have c2 := str_of hv
  have HI := hide (strOf_inj hx hy)
  obtain ⟨a, cap, rfl, -, -⟩ := hu
  obtain ⟨a2, cap2, rfl, -, -⟩ := hv
  clear hx hy
  by_cases h : x = y
  · have hs : ((strOfNums x).toList == (strOfNums y).toList) = true := by rw [h]; simp
    have Hn := hide h
    clear h
    go_enter Try.func21, Try.ntmps21
    go_wp2
    go_ret
    exact ⟨RetB.yes (unhide Hn), 0, rfl⟩
  · have hs : ((strOfNums x).toList == (strOfNums y).toList) = false := beq_eq_false_iff_ne.2 (fun e => h (unhide HI e))
    have Hn := hide h
    clear h
    go_enter Try.func21, Try.ntmps21
    go_wp2
    go_ret
    exact ⟨RetB.no (unhide Hn), 0, rfl⟩

set_option maxHeartbeats 1000000 in
set_option maxRecDepth 100000 in
theorem bequal_any (u v : Value) (x y : List Int) (N : Nat) (w : World) (hu : SlAt mB 0 0 N w u x) (hv : SlAt mB 0 0 N w v y) (hx : Bytes x) (hy : Bytes y) :
    Calls Try.prog 23 #[u, v] w fun e w' => RetB e (x = y) ∧ ∃ q, w' = w.drewN q := by
  have c1 := str_of hu
  have c2 := str_of hv
  have HI := hide (strOf_inj hx hy)
  obtain ⟨a, cap, rfl, -, -⟩ := hu
  obtain ⟨a2, cap2, rfl, -, -⟩ := hv
  clear hx hy
  by_cases h : x = y
  · have hs : ((strOfNums x).toList == (strOfNums y).toList) = true := by rw [h]; simp
    have Hn := hide h
    clear h
    go_enter Try.func23, Try.ntmps23
    go_wp2
    go_ret
    exact ⟨RetB.yes (unhide Hn), 0, rfl⟩
  · have hs : ((strOfNums x).toList == (strOfNums y).toList) = false := beq_eq_false_iff_ne.2 (fun e => h (unhide HI e))
    have Hn := hide h
    clear h
    go_enter Try.func23, Try.ntmps23
    go_wp2
    go_ret
    exact ⟨RetB.no (unhide Hn), 0, rfl⟩

/-- A slice from its j-th element on, and up to it. -/
theorem sl_from {N j c : Nat} {a : Option Addr} {w : World} {xs : List Int} (h : SlAt mB 0 0 N w (.slice a xs.length c) xs) (hj : j ≤ xs.length) (hc : xs.length ≤ c) (hm : c ≤ maxLen) : SlAt mB 0 0 N w (.slice (if c = j then a else a.map (fun x => x.add j)) (xs.length - j) (c - j)) (xs.drop j) ∧ CapOk (.slice (if c = j then a else a.map (fun x => x.add j)) (xs.length - j) (c - j)) := by
  obtain ⟨a', c', e, hl, hcell⟩ := h
  cases e
  refine ⟨⟨_, _, by rw [List.length_drop], by rw [List.length_drop]; omega, fun hp => ?_⟩, CapOk.mk (by omega) (by omega)⟩
  rw [List.length_drop] at hp
  obtain ⟨b, off, rfl, h1, h2, h3⟩ := hcell (by omega)
  rw [if_neg (by omega)]
  have e3 : (⟨b, off, none⟩ : Addr).add j = ⟨b, off + j, none⟩ := by cases j <;> rfl
  refine ⟨b, off + j, by simp [e3], h1, h2, fun i hi => ?_⟩
  rw [List.length_drop] at hi
  rw [Nat.add_assoc, h3 (j + i) (by omega), List.getElem?_drop]
theorem sl_to {N j c : Nat} {a : Option Addr} {w : World} {xs : List Int} (h : SlAt mB 0 0 N w (.slice a xs.length c) xs) (hj : j ≤ xs.length) (hc : xs.length ≤ c) (hm : c ≤ maxLen) : SlAt mB 0 0 N w (.slice a j c) (xs.take j) ∧ CapOk (.slice a j c) := by
  obtain ⟨a', c', e, hl, hcell⟩ := h
  cases e
  have e1 : (xs.take j).length = j := by rw [List.length_take]; omega
  refine ⟨⟨a, c, by rw [e1], by omega, fun hp => ?_⟩, CapOk.mk (by omega) hm⟩
  rw [e1] at hp
  obtain ⟨b, off, rfl, h1, h2, h3⟩ := hcell (by omega)
  refine ⟨b, off, rfl, h1, h2, fun i hi => ?_⟩
  rw [e1] at hi
  rw [h3 i (by omega), List.getElem?_take, if_pos hi]

/-- The reader in the box D has xs before it. -/
def RdAt (N D : Nat) (w : World) (xs : List Int) : Prop := N ≤ D ∧ ∃ v, Boxed w D 48 v ∧ SlAt mB 0 0 N w v xs ∧ CapOk v
/-- Nothing but the box D has changed. -/
def Only (D : Nat) (w w' : World) : Prop := ChgF (fun k => k = D) w w'
theorem Only.refl (D : Nat) (w : World) : Only D w w := ChgF.refl _ _
theorem Only.trans {D : Nat} {a b c : World} (h : Only D a b) (k : Only D b c) : Only D a c := ChgF.trans h k
theorem Only.set {D : Nat} {w : World} {v : Value} : Only D w (w.setCell ⟨D, 0, none⟩ v) := ChgF.put (S := fun k => k = D) (ChgF.refl _ _) rfl v
theorem Only.below {D m : Nat} {w w' : World} (h : Only D w w') (hm : m ≤ D) : Below m w w' := ChgF.below h (fun k hk => by omega)
theorem RdAt.step {N D : Nat} {w : World} {ys : List Int} {v v' : Value} (hN : N ≤ D) (hb : Boxed w D 48 v) (hs : SlAt mB 0 0 N w v' ys) (hc : CapOk v') : RdAt N D (w.setCell ⟨D, 0, none⟩ v') ys :=
  ⟨hN, v', hb.set v', hs.under (Only.set.below hN) (Nat.le_refl _), hc⟩

set_option maxHeartbeats 2000000 in
set_option maxRecDepth 100000 in
theorem takeByte_any (N D : Nat) (xs : List Int) (w : World) (h : RdAt N D w xs) :
    Calls Try.prog 55 #[.pointer (some ⟨D, 0, none⟩)] w fun e w' => e = .returned (.int .u8 (xs.headD 0)) ∧ RdAt N D w' xs.tail ∧ Only D w w' := by
  have H := hide h
  obtain ⟨hN, v, hb, hs, hcp⟩ := h
  have Hb := hide hb
  have Hs := hide hs
  have c0 := hb.cell
  have z0 := hb.frozen
  obtain ⟨a, c, rfl, hl, hc⟩ := hs
  have hcc := hcp.le
  clear hb hcp
  cases xs with
  | nil =>
    clear hc
    go_enter Try.func55, Try.ntmps55
    go_wp2
    go_ret
    exact ⟨rfl, unhide H, Only.refl _ _⟩
  | cons x r =>
    obtain ⟨b, off, rfl, -, -, hcell⟩ := hc (by simp)
    have hx := hcell 0 (by simp)
    unfold mB at hx
    simp only [List.getElem?_cons_zero, Option.getD_some, Nat.add_zero] at hx
    have hlen : (x :: r).length = r.length + 1 := rfl
    have hf := sl_from (j := 1) (unhide Hs) (by simp) hcc.1 hcc.2
    have e1 : (some (⟨b, off, none⟩ : Addr)).map (fun x => x.add 1) = some ⟨b, off + 1, none⟩ := rfl
    rw [e1, hlen, Nat.add_sub_cancel] at hf
    rw [hlen] at c0 hcc
    clear hcell hc e1
    have hne : (((r.length : Int) + 1) == 0) = false := by rw [beq_eq_false_iff_ne]; omega
    by_cases hc1 : c = 1
    · rw [if_pos hc1] at hf
      subst hc1
      have hr0 : r.length = 0 := by omega
      rw [hr0] at hf
      have Hf := hide hf
      clear hf
      go_enter Try.func55, Try.ntmps55
      go_wp2
      go_ret
      exact ⟨rfl, RdAt.step hN (unhide Hb) (unhide Hf).1 (unhide Hf).2, Only.set⟩
    · rw [if_neg hc1] at hf
      have Hf := hide hf
      clear hf
      go_enter Try.func55, Try.ntmps55
      go_wp2
      go_ret
      exact ⟨rfl, RdAt.step hN (unhide Hb) (unhide Hf).1 (unhide Hf).2, Only.set⟩

/-- So many bytes, or all. -/
def upto (n : Int) (xs : List Int) : Nat := if n ≤ xs.length then n.toNat else xs.length
theorem take_upto (n : Int) (xs : List Int) : xs.take (upto n xs) = xs.take n.toNat ∧ xs.drop (upto n xs) = xs.drop n.toNat := by
  unfold upto
  split
  · exact ⟨rfl, rfl⟩
  · rw [List.take_of_length_le (Nat.le_refl _), List.take_of_length_le (by omega), List.drop_of_length_le (Nat.le_refl _), List.drop_of_length_le (by omega)]
    exact ⟨rfl, rfl⟩

set_option maxHeartbeats 2000000 in
set_option maxRecDepth 100000 in
theorem takeBytes_any (N D : Nat) (n : Int) (xs : List Int) (w : World) (h : RdAt N D w xs) (hn : 0 ≤ n) (hn1 : n ≤ 9223372036854775807) :
    Calls Try.prog 41 #[.pointer (some ⟨D, 0, none⟩), .int .i64 n] w fun e w' => (∃ v, e = .returned v ∧ SlAt mB 0 0 N w' v (xs.take n.toNat) ∧ CapOk v) ∧ RdAt N D w' (xs.drop n.toNat) ∧ Only D w w' := by
  rw [← (take_upto n xs).1, ← (take_upto n xs).2]
  obtain ⟨hN, v, hb, hs, hcp⟩ := h
  have Hb := hide hb
  have Hs := hide hs
  have c0 := hb.cell
  have z0 := hb.frozen
  obtain ⟨a, c, rfl, hl, hc⟩ := hs
  unfold maxLen at hl
  have hcc := hcp.le
  have hcm := hcc.2
  unfold maxLen at hcm
  have hku : upto n xs ≤ xs.length := by unfold upto; split <;> omega
  have hf := sl_from (j := upto n xs) (unhide Hs) hku hcc.1 hcc.2
  have ht := sl_to (j := upto n xs) (unhide Hs) hku hcc.1 hcc.2
  have Ht := hide ht
  have hmin : Hid (min n (xs.length : Int) = (upto n xs : Int)) := by
    show min n (xs.length : Int) = (upto n xs : Int)
    unfold upto
    split <;> omega
  have hm := unhide hmin
  have hmm : (if n ≤ (xs.length : Int) then n else (xs.length : Int)) = (upto n xs : Int) := by unfold upto; split <;> simp <;> omega
  generalize upto n xs = k at *
  clear hb hcp hc ht
  by_cases hck : c = k
  · rw [if_pos hck] at hf
    subst hck
    rw [Nat.sub_self, show xs.length - c = 0 by omega] at hf
    have Hf := hide hf
    clear hf
    go_enter Try.func41, Try.ntmps41
    go_wp2
    go_ret
    exact ⟨⟨_, rfl, (unhide Ht).1.under (Only.set.below hN) (Nat.le_refl _), (unhide Ht).2⟩, RdAt.step hN (unhide Hb) (unhide Hf).1 (unhide Hf).2, Only.set⟩
  · rw [if_neg hck] at hf
    have Hf := hide hf
    clear hf
    go_enter Try.func41, Try.ntmps41
    go_wp2
    go_ret
    exact ⟨⟨_, rfl, (unhide Ht).1.under (Only.set.below hN) (Nat.le_refl _), (unhide Ht).2⟩, RdAt.step hN (unhide Hb) (unhide Hf).1 (unhide Hf).2, Only.set⟩

theorem tv_zero (xs : List Int) : tv 0 xs = (0, xs) := rfl
theorem or_add (n m i : Nat) (h1 : n < 2 ^ i) : n ||| (m * 2 ^ i) = n + m * 2 ^ i := by rw [← Nat.shiftLeft_eq, Nat.or_comm, ← Nat.shiftLeft_add_eq_or_of_lt h1, Nat.add_comm]
theorem pow_facts {j : Nat} (hj : j ≤ 8) : ∃ P : Nat, 2 ^ (7 * j) = P ∧ (2 : Int) ^ (7 * j) = P ∧ (128 : Int) ^ j = P ∧ P ≤ 72057594037927936 ∧ 1 ≤ P := by
  have : j = 0 ∨ j = 1 ∨ j = 2 ∨ j = 3 ∨ j = 4 ∨ j = 5 ∨ j = 6 ∨ j = 7 ∨ j = 8 := by omega
  rcases this with rfl | rfl | rfl | rfl | rfl | rfl | rfl | rfl | rfl <;> exact ⟨_, rfl, by decide, by decide, by decide, by decide⟩
theorem or_shl {j : Nat} {n y : Int} (hj : j ≤ 8) (hn0 : 0 ≤ n) (hn1 : n < 128 ^ j) : bits .or .i64 n (wrap64 (y % 128 * 2 ^ (7 * j))) = n + 128 ^ j * (y % 128) := by
  obtain ⟨P, p1, p2, p3, p4, p5⟩ := pow_facts hj
  rw [p2, p3]
  rw [p3] at hn1
  obtain ⟨m, hm⟩ : ∃ m : Nat, y % 128 = m := ⟨(y % 128).toNat, by omega⟩
  obtain ⟨k, hk⟩ : ∃ k : Nat, n = k := ⟨n.toNat, by omega⟩
  have hm1 : m ≤ 127 := by omega
  rw [hm, hk]
  have hmp : m * P ≤ 127 * 72057594037927936 := Nat.mul_le_mul hm1 p4
  have hkP : k < P := by omega
  have e0 : ((m : Int) * (P : Int)) = ((m * P : Nat) : Int) := by push_cast; rfl
  rw [e0, w64i (by omega) (by omega)]
  have e1 : (BitVec.ofInt 64 (k : Int)).toNat = k := by rw [BitVec.toNat_ofInt]; omega
  have e2 : (BitVec.ofInt 64 ((m * P : Nat) : Int)).toNat = m * P := by rw [BitVec.toNat_ofInt]; omega
  have e3 : k ||| (m * P) = k + m * P := by rw [← p1]; exact or_add k m (7 * j) (by rw [p1]; exact hkP)
  show IntKind.i64.wrap ((BitVec.ofInt 64 (k : Int) ||| BitVec.ofInt 64 ((m * P : Nat) : Int)).toNat : Int) = _
  rw [BitVec.toNat_or, e1, e2, e3, k64i (by omega) (by omega)]
  push_cast
  rw [Int.mul_comm (P : Int) (m : Int)]

set_option maxHeartbeats 2000000 in
set_option maxRecDepth 100000 in
theorem takeVarint_any (N D : Nat) (xs : List Int) (w : World) (h : RdAt N D w xs) (hb : ∀ x ∈ xs, 0 ≤ x ∧ x ≤ 255) :
    Calls Try.prog 42 #[.pointer (some ⟨D, 0, none⟩)] w fun e w' => e = .returned (.int .i64 (tv 9 xs).1) ∧ RdAt N D w' (tv 9 xs).2 ∧ Only D w w' := by
  have H := hide h
  have HB := hide hb
  clear h hb
  go_enter Try.func42, Try.ntmps42
  go_wp2
  go_loopw [3, 4] (fun nv sv wr => ∃ (j : Nat) (n : Int) (ys : List Int), j ≤ 9 ∧ sv = .int .i64 ((7 * j : Nat) : Int) ∧ nv = .int .i64 n ∧ 0 ≤ n ∧ n < 128 ^ j ∧ (tv 9 xs).1 = n + 128 ^ j * (tv (9 - j) ys).1 ∧ (tv 9 xs).2 = (tv (9 - j) ys).2 ∧ (∀ y ∈ ys, 0 ≤ y ∧ y ≤ 255) ∧ RdAt N D wr ys ∧ Only D w wr) (fun _ sv _ => 63 - (intOf sv).toNat)
  case atStart => exact ⟨0, 0, xs, by omega, rfl, rfl, by omega, by simp, by simp, rfl, unhide HB, unhide H, Only.refl _ _⟩
  case round =>
    obtain ⟨j, n, ys, hj, rfl, rfl, hn0, hn1, h1, h2, hys, hrd, honly⟩ := hrel
    have Hrd := hide hrd
    have Hys := hide hys
    have H1 := hide h1
    have H2 := hide h2
    have Ho := hide honly
    clear h1 h2 hys hrd honly
    by_cases hlt : j < 9
    · have hlt' : (7 * j : Int) < 63 := by omega
      go_wp2_with fail
      refine (takeByte_any N D ys wr (unhide Hrd)).mono ?_
      rintro e w1 ⟨rfl, hrd1, ho1⟩
      have hy : 0 ≤ ys.headD 0 ∧ ys.headD 0 ≤ 255 := by
        cases ys with
        | nil => simp
        | cons y r => exact unhide Hys y (List.mem_cons_self ..)
      have e1 := or_shl (j := j) (y := ys.headD 0) (by omega) hn0 hn1
      have htv : tv (9 - j) ys = if ys.headD 0 < 128 then (ys.headD 0, ys.tail) else (ys.headD 0 % 128 + 128 * (tv (9 - (j + 1)) ys.tail).1, (tv (9 - (j + 1)) ys.tail).2) := by
        obtain ⟨q, hq⟩ : ∃ q, 9 - j = q + 1 := ⟨8 - j, by omega⟩
        have hq2 : 9 - (j + 1) = q := by omega
        rw [hq, hq2]
        rfl
      have Htv := hide htv
      have Hrd1 := hide hrd1
      have Hyt : Hid (∀ y ∈ ys.tail, 0 ≤ y ∧ y ≤ 255) := fun y hy => unhide Hys y (List.mem_of_mem_tail hy)
      obtain ⟨P, p1, p2, p3, p4, p5⟩ := pow_facts (j := j) (by omega)
      have Hp : Hid ((128 : Int) ^ j = P ∧ (128 : Int) ^ (j + 1) = P * 128) := ⟨p3, by rw [Int.pow_succ, p3]⟩
      clear hrd1 htv p1 p2 p3
      by_cases hyl : ys.headD 0 < 128
      · generalize ys.headD 0 = y at *
        go_wp2_with fail
        go_ret
        refine ⟨?_, ?_, (unhide Ho).trans ho1⟩
        · have h1 := unhide H1
          rw [unhide Htv, if_pos hyl] at h1
          rw [h1]
          show Ending.returned (Value.int IntKind.i64 (n + 128 ^ j * (y % 128))) = _
          rw [show y % 128 = y by omega]
        · have h2 := unhide H2
          rw [unhide Htv, if_pos hyl] at h2
          rw [h2]
          exact unhide Hrd1
      · generalize ys.headD 0 = y at *
        go_wp2_with fail
        obtain ⟨q1, q2⟩ := unhide Hp
        have h1 := unhide H1
        have h2 := unhide H2
        rw [unhide Htv, if_neg (by omega)] at h1 h2
        refine ⟨⟨j + 1, n + 128 ^ j * (y % 128), ys.tail, by omega, by go_num, rfl, ?_, ?_, ?_, h2, unhide Hyt, unhide Hrd1, (unhide Ho).trans ho1⟩, by simp [intOf]; omega⟩
        · rw [q1]
          have := Int.mul_nonneg (a := (P : Int)) (b := y % 128) (by omega) (by omega)
          omega
        · rw [q1] at hn1
          rw [q1, q2]
          have := Int.mul_le_mul_of_nonneg_left (show y % 128 ≤ 127 by omega) (show 0 ≤ (P : Int) by omega)
          omega
        · rw [q2]
          rw [q1] at h1 ⊢
          rw [h1]
          show n + (P : Int) * (y % 128 + 128 * (tv (9 - (j + 1)) ys.tail).1) = _
          rw [Int.mul_add, ← Int.mul_assoc, Int.add_assoc]
    · obtain rfl : j = 9 := by omega
      go_wp2
      go_ret
      refine ⟨?_, ?_, unhide Ho⟩
      · have h1 := unhide H1
        rw [show 9 - 9 = 0 from rfl, tv_zero] at h1
        simp only [Int.mul_zero, Int.add_zero] at h1
        exact congrArg (fun z => Ending.returned (Value.int IntKind.i64 z)) h1.symm
      · have h2 := unhide H2
        rw [show 9 - 9 = 0 from rfl, tv_zero] at h2
        rw [h2]
        exact unhide Hrd

end Go.Proofs.Ytkajdhliejjohaa

namespace Go.Proofs.Ytkajdhliejjohaa
open Go.RowKit

/-- A block of two cells. -/
def Row2 (w : World) (b : Nat) (t : TypeId) (c0 c1 : Value) : Prop := w.rowIs b t 2 (fun j => [c0, c1].getD j undef)
theorem Row2.new (w : World) (t : TypeId) (c0 c1 : Value) : Row2 (w.alloc (.cells #[c0, c1] t)) w.heap.size t c0 c1 :=
  World.rowIs_alloc w #[c0, c1] t _ (fun i hi => by
    match i, hi with
    | 0, _ => rfl
    | 1, _ => rfl)
theorem Row2.alloc {w : World} {b : Nat} {t : TypeId} {c0 c1 : Value} (h : Row2 w b t c0 c1) (o : Obj) : Row2 (w.alloc o) b t c0 c1 := World.rowIs.alloc h o
theorem Row2.below {w w' : World} {b m : Nat} {t : TypeId} {c0 c1 : Value} (h : Row2 w b t c0 c1) (hb : Below m w w') (hm : b < m) : Row2 w' b t c0 c1 := World.rowIs.of_block h (hb.block b hm)
theorem Row2.other {w : World} {b b' o : Nat} {t : TypeId} {c0 c1 u : Value} (h : Row2 w b t c0 c1) (hb : b ≠ b') : Row2 (w.setCell ⟨b', o, none⟩ u) b t c0 c1 := World.rowIs.setOther h hb u
theorem Row2.put0 {w : World} {b : Nat} {t : TypeId} {c0 c1 u : Value} (h : Row2 w b t c0 c1) : Row2 (w.setCell ⟨b, 0, none⟩ u) b t u c1 := (World.rowIs.set h 0 u).congr (fun i hi => by
    match i, hi with
    | 0, _ => rfl
    | 1, _ => rfl)
theorem Row2.put1 {w : World} {b : Nat} {t : TypeId} {c0 c1 u : Value} (h : Row2 w b t c0 c1) : Row2 (w.setCell ⟨b, 1, none⟩ u) b t c0 u := (World.rowIs.set h 1 u).congr (fun i hi => by
    match i, hi with
    | 0, _ => rfl
    | 1, _ => rfl)
theorem Row2.facts4 {w : World} {b : Nat} {t : TypeId} {c0 c1 : Value} (h : Row2 w b t c0 c1) :
    w.cell? ⟨b, 0, none⟩ = some c0 ∧ w.cell? ⟨b, 1, none⟩ = some c1 ∧ w.frozen? ⟨b, 0, none⟩ = false ∧ w.frozen? ⟨b, 1, none⟩ = false :=
  ⟨World.rowIs.cell h (i := 0) (by omega), World.rowIs.cell h (i := 1) (by omega), World.rowIs.frozen h 0, World.rowIs.frozen h 1⟩

theorem Row2.facts {w : World} {b : Nat} {t : TypeId} {c0 c1 : Value} (h : Row2 w b t c0 c1) : w.cell? ⟨b, 0, none⟩ = some c0 ∧ w.cell? ⟨b, 1, none⟩ = some c1 ∧ w.frozen? ⟨b, 1, none⟩ = false := by
  refine ⟨h.cell (by omega), h.cell (by omega), ?_⟩
  obtain ⟨c, hc, -⟩ := h
  simp [World.frozen?, hc]

/-- Nothing below lo has changed, but the box D. -/
structure Mv (lo D : Nat) (w w' : World) : Prop where
  os : w'.os = w.os
  tape : w'.tape = w.tape
  output : w'.output = w.output
  size : w.heap.size ≤ w'.heap.size
  block : ∀ k, k < lo → k ≠ D → w'.heap[k]? = w.heap[k]?
theorem Mv.refl (lo D : Nat) (w : World) : Mv lo D w w := ⟨rfl, rfl, rfl, Nat.le_refl _, fun _ _ _ => rfl⟩
theorem Mv.trans {lo D : Nat} {a b c : World} (h : Mv lo D a b) (k : Mv lo D b c) : Mv lo D a c := ⟨k.os.trans h.os, k.tape.trans h.tape, k.output.trans h.output, Nat.le_trans h.size k.size, fun i h1 h2 => (k.block i h1 h2).trans (h.block i h1 h2)⟩
theorem Only.mv {D : Nat} {w w' : World} (h : Only D w w') (lo : Nat) : Mv lo D w w' := ⟨h.os, h.tape, h.output, Nat.le_of_eq h.size.symm, fun k _ hk => h.block k hk⟩
theorem Below.mv {lo : Nat} {w w' : World} (h : Below lo w w') (D : Nat) : Mv lo D w w' := ⟨h.os, h.tape, h.output, h.size, fun k hk _ => h.block k hk⟩
theorem Mv.mono {lo lo' D : Nat} {w w' : World} (h : Mv lo D w w') (hl : lo' ≤ lo) : Mv lo' D w w' := ⟨h.os, h.tape, h.output, h.size, fun k hk hd => h.block k (by omega) hd⟩
theorem Mv.below {lo D : Nat} {w w' : World} (h : Mv lo D w w') (hD : D ≤ lo) : Below D w w' := ⟨h.os, h.tape, h.output, h.size, fun k hk => h.block k (by omega) (by omega)⟩
theorem own_mv {base n e size lo D : Nat} {w w' : World} {v : Value} {xs : List Value} (h : w.ownsRow base e size v n xs) (hb : Mv lo D w w') (hm : w.heap.size ≤ lo) (hD : D < base) : w'.ownsRow base e size v n xs := by
  refine ⟨h.1, ?_⟩
  rcases h.2 with h2 | ⟨g, cap, cur, h1, h2, h3, h4⟩
  · exact Or.inl h2
  · have hg : g < w.heap.size := by
      by_cases q : g < w.heap.size
      · exact q
      · rw [Array.getElem?_eq_none (by omega)] at h3; cases h3
    exact Or.inr ⟨g, cap, cur, h1, h2, (hb.block g (by omega) (by omega)).trans h3, h4⟩

theorem LL.low {α : Type} {mk : α → Value} {d : α} {e te : TypeId} {base lo : Nat} {w : World} {v : Value} {ps : List (Cl α)} (h : LL mk d e te base w v ps) (hl : lo ≤ base) : LL mk d e te lo w v ps := ⟨own_low h.own hl, h.ok, fun p hp h0 => Nat.le_trans hl (h.lo p hp h0), h.apart⟩
/-- First the box, then the rest. -/
theorem Mv.split {lo D : Nat} {w w' : World} (h : Mv lo D w w') (hD : D < w.heap.size) : ∃ V : World, V.heap.size = w.heap.size ∧ Only D w V ∧ Below lo V w' := by
  have hD' : D < w'.heap.size := Nat.lt_of_lt_of_le hD h.size
  refine ⟨{ w with heap := w.heap.set D w'.heap[D] hD }, by simp, ⟨rfl, rfl, rfl, by simp, fun k hk => ?_⟩, ⟨h.os, h.tape, h.output, by simpa using h.size, fun k hk => ?_⟩⟩
  · simp only
    rw [Array.getElem?_set_ne hD (fun q => hk q.symm)]
  · simp only
    by_cases q : k = D
    · subst q
      rw [Array.getElem?_set_self hD, Array.getElem?_eq_getElem hD']
    · rw [Array.getElem?_set_ne hD (fun e => q e.symm)]
      exact h.block k hk q
theorem LL.keepMv {α : Type} {mk : α → Value} {d : α} {e te : TypeId} {base lo D : Nat} {w w' : World} {v : Value} {ps : List (Cl α)} (h : LL mk d e te base w v ps) (hm : Mv lo D w w') (hlo : w.heap.size ≤ lo) (hD : D < base) : LL mk d e te base w' v ps :=
  ⟨own_mv h.own hm hlo hD, fun p hp => (h.ok p hp).same (fun h0 => hm.block p.b (by have := (h.ok p hp).lt h0; omega) (by have := h.lo p hp h0; omega)), h.lo, h.apart⟩
theorem LB.pushMv {base D : Nat} {w V wr : World} {ov lv : Value} {ps : List (Cl Int)} {ls : List Int} (Hll : LB base V ov ps) (hbV : base ≤ V.heap.size) (hD : D < base) (hbl : Mv V.heap.size D V wr) (hb : Mv base D w V) (Hown : wr.ownsRow V.heap.size 5 1 lv ls.length (ls.map mB))
    (w' : World) (v' : Value) (g1 : w'.ownsRow base 22 1 v' (ps.length + 1) (ps.map Cl.v ++ [lv])) (g2 : (wr.alloc (.cells #[lv] 22)).grownBy w' ov.ownBlock) : ∃ p : Cl Int, p.xs = ls ∧ LB base w' v' (ps ++ [p]) ∧ Mv base D w w' ∧ Below base wr w' := by
  obtain ⟨U, hz, h1, h2⟩ := hbl.split (by omega)
  obtain ⟨p, r1, r2, r3⟩ := LB.push (w := U) (Hll.keepMv (h1.mv V.heap.size) (Nat.le_refl _) hD) (by omega) (by rw [hz]; exact h2) (Below.refl _ _) (by rw [hz]; exact Hown) w' v' g1 g2
  have hz2 := hbl.size
  refine ⟨p, r1, r2, hb.trans ((h1.mv base).trans (Below.mv r3 D)), ?_⟩
  refine ⟨r3.os.trans h2.os.symm |>.trans rfl, r3.tape.trans h2.tape.symm, r3.output.trans h2.output.symm, ?_, fun k hk => (r3.block k hk).trans (h2.block k (by omega)).symm⟩
  have := g2.size
  rw [sz_alloc] at this
  omega

end Go.Proofs.Ytkajdhliejjohaa

namespace Go.Proofs.Ytkajdhliejjohaa
open Go.RowKit

/-- The reader of a code, in the box D, has xs before it. -/
def CdAt (N D : Nat) (w : World) (xs : List Int) : Prop := N ≤ D ∧ ∃ (v : Value) (cs : List Int) (i : Nat), Row2 w D 57 v (.int .i64 i) ∧ SlAt mB 0 0 N w v cs ∧ i ≤ cs.length ∧ cs.length ≤ 600 ∧ cs.drop i = xs
theorem CdAt.keep {N D m : Nat} {w w' : World} {xs : List Int} (h : CdAt N D w xs) (hb : Below m w w') (hm : D < m) : CdAt N D w' xs := by
  obtain ⟨hN, v, cs, i, h1, h2, h3⟩ := h
  exact ⟨hN, v, cs, i, h1.below hb hm, h2.under hb (by omega), h3⟩
theorem only_put1 {D : Nat} {w : World} {v : Value} : Only D w (w.setCell ⟨D, 1, none⟩ v) := ChgF.put (S := fun k => k = D) (ChgF.refl _ _) rfl v
theorem only_drewN {D : Nat} {w w' : World} (h : Only D w w') (q : Nat) : Only D w (w'.drewN q) := ⟨h.os, h.tape, h.output, h.size, h.block⟩

set_option maxHeartbeats 4000000 in
set_option maxRecDepth 100000 in
theorem next_any (N D : Nat) (xs : List Int) (w : World) (h : CdAt N D w xs) (hb : ∀ x ∈ xs, 0 ≤ x ∧ x ≤ 255) :
    Calls Try.prog 12 #[.pointer (some ⟨D, 0, none⟩)] w fun e w' => e = .returned (.int .i64 (xs.headD 0)) ∧ CdAt N D w' xs.tail ∧ Only D w w' := by
  obtain ⟨hN, v, cs, i, hr, hs, hi, hl, rfl⟩ := h
  have HR := hide hr
  have HS := hide hs
  obtain ⟨f0, f1, z1⟩ := hr.facts
  obtain ⟨a, c, rfl, -, hc⟩ := hs
  clear hr
  by_cases hlt : i < cs.length
  · have hlt' : ¬ (cs.length : Int) ≤ (i : Int) := by omega
    have hlt2 : (i : Int) < (cs.length : Int) := by omega
    obtain ⟨b, off, rfl, -, -, hcell⟩ := hc (by omega)
    have hx := hcell i hlt
    unfold mB at hx
    have hy := hb (cs[i]?.getD 0) (by rw [List.drop_eq_getElem_cons hlt, List.getElem?_eq_getElem hlt]; exact List.mem_cons_self ..)
    have He : Hid ((cs.drop i).headD 0 = cs[i]?.getD 0 ∧ (cs.drop i).tail = cs.drop (i + 1)) := by
      show (cs.drop i).headD 0 = cs[i]?.getD 0 ∧ (cs.drop i).tail = cs.drop (i + 1)
      rw [List.drop_eq_getElem_cons hlt, List.getElem?_eq_getElem hlt]
      exact ⟨rfl, rfl⟩
    rw [(unhide He).1, (unhide He).2]
    clear hcell hc hb He
    generalize cs[i]?.getD 0 = y at *
    go_enter Try.func12, Try.ntmps12
    go_wp2_with fail
    go_quiet (fail)
    go_wp2_with fail
    go_quiet (fail)
    go_wp2
    go_ret
    refine ⟨rfl, ⟨hN, .slice (some ⟨b, off, none⟩) cs.length c, cs, i + 1, ?_, ?_, by omega, hl, rfl⟩, ?_⟩
    · exact Row2.put1 (unhide HR)
    · have h1 : Only D w (w.setCell ⟨D, 1, none⟩ (.int .i64 ((i : Int) + 1))) := only_put1
      exact (unhide HS).under (Only.below (show Only D w _ from ⟨h1.os, h1.tape, h1.output, h1.size, h1.block⟩) hN) (Nat.le_refl _)
    · have h1 : Only D w (w.setCell ⟨D, 1, none⟩ (.int .i64 ((i : Int) + 1))) := only_put1
      exact ⟨h1.os, h1.tape, h1.output, h1.size, h1.block⟩
  · obtain rfl : i = cs.length := by omega
    have hlt' : (cs.length : Int) ≤ (cs.length : Int) := Int.le_refl _
    rw [List.drop_length]
    clear hc hb
    go_enter Try.func12, Try.ntmps12
    go_wp2_with fail
    go_quiet (fail)
    go_wp2
    go_ret
    exact ⟨rfl, ⟨hN, _, cs, cs.length, unhide HR, unhide HS, Nat.le_refl _, hl, by simp⟩, only_drewN (Only.refl _ _) _⟩

set_option maxHeartbeats 2000000 in
set_option maxRecDepth 100000 in
theorem l1open_any (v : Value) (cs : List Int) (w : World) (hv : SlAt mB 0 0 w.heap.size w v cs) (hcap : CapOk v) :
    Calls Try.prog 11 #[v] w fun e w' => e = .returned (.pointer (some ⟨w.heap.size, 0, none⟩)) ∧ CdAt w.heap.size w.heap.size w' (cs.take 600) ∧ w'.heap.size = w.heap.size + 1 ∧ Below w.heap.size w w' := by
  have HV := hide hv
  obtain ⟨a, c, rfl, -, -⟩ := hv
  have hcc := hcap.le
  have hcm := hcc.2
  unfold maxLen at hcm
  clear hcap
  obtain ⟨n, hn⟩ : ∃ n : Nat, n = min cs.length 600 := ⟨_, rfl⟩
  have ht := sl_to (j := n) (unhide HV) (by omega) hcc.1 hcc.2
  have e1 : cs.take n = cs.take 600 := by
    by_cases h : cs.length ≤ 600
    · rw [List.take_of_length_le (by omega), List.take_of_length_le h]
    · rw [show n = 600 by omega]
  have HT := hide ht.1
  have hR := Row2.new w 57 (.slice a n c) (.int .i64 ((0 : Nat) : Int))
  have hB := below1 w (.cells #[.slice a n c, .int .i64 ((0 : Nat) : Int)] 57)
  have HF : Hid (CdAt w.heap.size w.heap.size (w.alloc (.cells #[.slice a n c, .int .i64 ((0 : Nat) : Int)] 57)) (cs.take 600)) := ⟨Nat.le_refl _, _, cs.take n, 0, hR, (unhide HT).under hB (Nat.le_refl _), Nat.zero_le _, by rw [List.length_take]; omega, by rw [List.drop_zero, e1]⟩
  clear ht e1 hR
  by_cases h6 : 600 < cs.length
  · have h6' : (600 : Int) < (cs.length : Int) := by omega
    have hn6 : n = 600 := by omega
    clear hn
    subst hn6
    go_enter Try.func11, Try.ntmps11
    go_wp2
    go_ret
    exact ⟨rfl, unhide HF, sz_alloc _ _, hB⟩
  · have h6' : ¬ (600 : Int) < (cs.length : Int) := by omega
    have hn6 : n = cs.length := by omega
    clear hn
    subst hn6
    go_enter Try.func11, Try.ntmps11
    go_wp2
    go_ret
    exact ⟨rfl, unhide HF, sz_alloc _ _, hB⟩

set_option maxHeartbeats 2000000 in
set_option maxRecDepth 100000 in
theorem l4reseal_any (lo : Nat) (v : Value) (bs : List Int) (w : World) (ho : w.ownsRow lo 5 1 v bs.length (bs.map mB)) (hlo : lo ≤ w.heap.size) (hb : Bytes bs) (hl : bs.length ≤ 536870912) :
    Calls Try.prog 13 #[v] w fun e w' => (∃ v', e = .returned v' ∧ w'.ownsRow lo 5 1 v' (bs ++ ckB (ck bs)).length ((bs ++ ckB (ck bs)).map mB)) ∧ Below lo w w' := by
  have HO := hide ho
  have HB := hide hb
  have HS := hide (own_rdB ho (by unfold maxLen; omega))
  obtain ⟨oa, oc, rfl⟩ := own_is ho
  clear ho hb
  go_enter Try.func13, Try.ntmps13
  go_wp2_with fail
  refine (l4checksum_any _ bs w (unhide HS) (unhide HB)).mono ?_
  rintro e w1 ⟨⟨v1, rfl, ho1⟩, hb1⟩
  have hz1 := hb1.size
  have HO1 := hide (own_keep (unhide HO) hb1 (Nat.le_refl _))
  have HS1 := hide (own_rdB ho1 (by unfold maxLen; omega))
  obtain ⟨oa1, oc1, rfl⟩ := own_is ho1
  have h4 : (ckB (ck bs)).length = 4 := rfl
  clear ho1
  go_wp2_with (at_builtin; refine app_moreB rfl _ _ rfl lo _ rfl bs (by exact unhide HO1) (by omega) _ rfl (ckB (ck bs)) (by exact unhide HS1) (by omega) ?_; intro v2 w2 hb2 ho2 hoc2)
  go_ret
  exact ⟨⟨_, rfl, ho2⟩, (hb1.mono hlo).trans hb2⟩

end Go.Proofs.Ytkajdhliejjohaa
