import Derived.Test.YtpkghafpelilfaaEn4
import Derived.Test.YtpkghafpelilfaaL1
import Derived.Deep.RegionHeld3
import Derived.Lib.SmallJoins
namespace Go.Proofs.Ytpkghafpelilfaa
open Go.RowKit

/-- The lines, each behind its length. -/
def lnL (xss : List (List Int)) : List Int := xss.flatMap (fun x => vi x.length ++ x)
theorem lnL_next {xss : List (List Int)} {k : Nat} (h : k < xss.length) : lnL (xss.take (k + 1)) = lnL (xss.take k) ++ (vi (xss[k]?.getD []).length ++ xss[k]?.getD []) := by
  unfold lnL
  rw [List.take_add_one, List.flatMap_append, List.getElem?_eq_getElem h]
  simp
theorem lnL_len : ∀ xss : List (List Int), tot xss ≤ 1048576 → (lnL xss).length ≤ 9 * xss.length + tot xss
  | [], _ => by simp [lnL]
  | x :: r, h => by
    simp only [Go.Proofs.Ytpkghafpelilfaa.tot] at h
    have h1 := lnL_len r (by omega)
    have h2 := vi_len9 (n := (x.length : Int)) (by omega)
    unfold lnL at h1 ⊢
    simp only [List.flatMap_cons, List.length_append, List.length_cons, Go.Proofs.Ytpkghafpelilfaa.tot]
    omega
/-- The keys with their positions. -/
def kyL (base : Int) : Int → List Int → List (List Int) → List Int
  | b, k :: ks, p :: pss => (vi (k - b) ++ vi p.length) ++ (dst base p ++ kyL base k ks pss)
  | _, _, _ => []
theorem kyL_drop {base b : Int} {ks : List Int} {pss : List (List Int)} {j : Nat} (h : j < ks.length) (h2 : j < pss.length) : kyL base b (ks.drop j) (pss.drop j) = (vi (ks[j]?.getD 0 - b) ++ vi (pss[j]?.getD []).length) ++ (dst base (pss[j]?.getD []) ++ kyL base (ks[j]?.getD 0) (ks.drop (j + 1)) (pss.drop (j + 1))) := by
  rw [List.drop_eq_getElem_cons h, List.drop_eq_getElem_cons h2, List.getElem?_eq_getElem h, List.getElem?_eq_getElem h2]
  rfl
theorem kyL_end {base b : Int} {ks : List Int} {pss : List (List Int)} : kyL base b (ks.drop ks.length) pss = [] := by
  rw [List.drop_length]
  rfl
theorem kyL_len (base : Int) (hb : Mid base) : ∀ (ks : List Int) (pss : List (List Int)) (b : Int), 0 ≤ b → (∀ k ∈ ks, Mid k) → (∀ p ∈ pss, ∀ x ∈ p, Mid x) → tot pss ≤ 1048576 → (kyL base b ks pss).length ≤ 18 * ks.length + 9 * tot pss
  | [], _, _, _, _, _, _ => by simp [kyL]
  | _ :: _, [], _, _, _, _, _ => by simp [kyL]
  | k :: ks, p :: pss, b, h0, h1, h2, h3 => by
    have hk := h1 k (List.mem_cons_self ..)
    simp only [Go.Proofs.Ytpkghafpelilfaa.tot] at h3
    have e1 := kyL_len base hb ks pss k hk.1 (fun y hy => h1 y (List.mem_cons_of_mem _ hy)) (fun y hy => h2 y (List.mem_cons_of_mem _ hy)) (by omega)
    have e2 := vi_len9 (n := k - b) (by have := hk.2; omega)
    have e3 := vi_len9 (n := (p.length : Int)) (by omega)
    have e4 := dst_len p base hb.1 (h2 p (List.mem_cons_self ..))
    simp only [kyL, List.length_append, List.length_cons, Go.Proofs.Ytpkghafpelilfaa.tot]
    omega
/-- What is put ahead of the checksum, and all. -/
def bodL (base : Int) (xss : List (List Int)) (ks : List Int) (pss : List (List Int)) : List Int := [84, 71] ++ (vi base ++ vi xss.length) ++ lnL xss ++ vi ks.length ++ kyL base 0 ks pss
def encL (base : Int) (xss : List (List Int)) (ks : List Int) (pss : List (List Int)) : List Int := bodL base xss ks pss ++ ckB (ck (bodL base xss ks pss))

/-- What is asked of a segment that is encoded. -/
structure EncIn (base : Int) (xss : List (List Int)) (ks : List Int) (pss : List (List Int)) : Prop where
  b : Mid base
  bytes : ∀ x ∈ xss, Bytes x
  k : ∀ k ∈ ks, Mid k
  p : ∀ p ∈ pss, ∀ x ∈ p, Mid x
  t1 : tot xss ≤ 1048576
  l1 : xss.length ≤ 1048576
  l2 : ks.length ≤ 1048576
  t3 : tot pss ≤ 1048576
  l3 : ks.length ≤ pss.length

theorem bytes_of_mem {xs : List Int} (h : ∀ x ∈ xs, 0 ≤ x ∧ x ≤ 255) : Bytes xs := fun i => by
  by_cases hi : i < xs.length
  · rw [List.getElem?_eq_getElem hi]
    exact h _ (List.getElem_mem hi)
  · rw [List.getElem?_eq_none (by omega)]
    simp
theorem mem_of_bytes {xs : List Int} (h : Bytes xs) : ∀ x ∈ xs, 0 ≤ x ∧ x ≤ 255 := fun x hx => by
  obtain ⟨i, hi, rfl⟩ := List.getElem_of_mem hx
  have := h i
  rwa [List.getElem?_eq_getElem hi] at this
theorem dst_mem : ∀ (ps : List Int) (b : Int), ∀ x ∈ dst b ps, 0 ≤ x ∧ x ≤ 255
  | [], _, x, hx => by simp [dst] at hx
  | p :: r, b, x, hx => by
    simp only [dst, List.mem_append] at hx
    rcases hx with h | h
    · exact vi_bytes _ x h
    · exact dst_mem r p x h
theorem kyL_mem (base : Int) : ∀ (ks : List Int) (pss : List (List Int)) (b : Int), ∀ x ∈ kyL base b ks pss, 0 ≤ x ∧ x ≤ 255
  | [], _, _, x, hx => by simp [kyL] at hx
  | _ :: _, [], _, x, hx => by simp [kyL] at hx
  | k :: ks, p :: pss, b, x, hx => by
    simp only [kyL, List.mem_append] at hx
    rcases hx with (h | h) | (h | h)
    · exact vi_bytes _ x h
    · exact vi_bytes _ x h
    · exact dst_mem _ _ x h
    · exact kyL_mem base ks pss k x h
theorem bodL_bytes {base : Int} {xss pss : List (List Int)} {ks : List Int} (h : ∀ x ∈ xss, Bytes x) : Bytes (bodL base xss ks pss) := bytes_of_mem (fun x hx => by
  simp only [bodL, List.mem_append] at hx
  rcases hx with (((hx | (hx | hx)) | hx) | hx) | hx
  · simp at hx; omega
  · exact vi_bytes _ x hx
  · exact vi_bytes _ x hx
  · simp only [lnL, List.mem_flatMap, List.mem_append] at hx
    obtain ⟨l, hl, hx | hx⟩ := hx
    · exact vi_bytes _ x hx
    · exact mem_of_bytes (h l hl) x hx
  · exact vi_bytes _ x hx
  · exact kyL_mem _ _ _ _ x hx)
theorem bodL_len {base : Int} {xss pss : List (List Int)} {ks : List Int} (h : EncIn base xss ks pss) : (bodL base xss ks pss).length ≤ 134217728 := by
  have h1 := lnL_len xss h.t1
  have h2 := kyL_len base h.b ks pss 0 (Int.le_refl _) h.k h.p h.t3
  have h3 := vi_len9 (n := base) (by have := h.b.2; omega)
  have h4 := vi_len9 (n := (xss.length : Int)) (by have := h.l1; omega)
  have h5 := vi_len9 (n := (ks.length : Int)) (by have := h.l2; omega)
  have := h.t1; have := h.l1; have := h.l2; have := h.t3
  simp only [bodL, List.length_append, List.length_cons, List.length_nil]
  omega

theorem SsAt.under {α : Type} {mk : α → Value} {d : α} {N m : Nat} {w w' : World} {v : Value} {xss : List (List α)} (h : SsAt mk d N w v xss) (hb : Below m w w') (hm : N ≤ m) : SsAt mk d N w' v xss := by
  obtain ⟨a, cap, rfl, hl, hc⟩ := h
  refine ⟨a, cap, rfl, hl, fun hp => ?_⟩
  obtain ⟨b, off, rfl, h1, h2⟩ := hc hp
  refine ⟨b, off, rfl, h1, fun i hi => ?_⟩
  obtain ⟨s, h3, h4, h5⟩ := h2 i hi
  exact ⟨s, by rw [hb.cell (p := ⟨b, off + i, none⟩) (by show b < m; omega)]; exact h3, h4.under hb hm, h5⟩

set_option maxHeartbeats 8000000 in
set_option maxRecDepth 100000 in
theorem encoded_any (v : Value) (base : Int) (xss pss : List (List Int)) (ks : List Int) (w : World) (hv : SegRd w v base xss ks pss) (hi : EncIn base xss ks pss) :
    Calls Try.prog 27 #[v] w fun e w' => (∃ v', e = .returned v' ∧ w'.ownsRow w.heap.size 5 1 v' (encL base xss ks pss).length ((encL base xss ks pss).map mB)) ∧ Below w.heap.size w w' := by
  obtain ⟨a1, c1, a2, c2, a3, c3, rfl, u1, u2, u3⟩ := hv.parts
  have U1 := hide u1
  have U2 := hide u2
  have U3 := hide u3
  have HI := hide hi
  obtain ⟨i1, i2, i3, i4, i5, i6, i7, i8, i9⟩ := hi
  have I3 := hide i3
  have I4 := hide i4
  clear hv u1 u2 u3 i2 i3 i4
  unfold Mid at i1
  have cv := Go.Joins.run_convert_bytes_const_at (P := Try.prog) (w.alloc (.cells #[.int .i64 base, .slice a1 xss.length c1, .slice a2 ks.length c2, .slice a3 pss.length c3] 30)) 28 5 #[.int .u8 84, .int .u8 71] 2 2 (w.heap.size + 1) (sz_alloc _ _).symm Try.underlying28 Try.underlying5
  have hb0 := below3 w (.cells #[.int .i64 base, .slice a1 xss.length c1, .slice a2 ks.length c2, .slice a3 pss.length c3] 30) (.cells #[.int .u8 84, .int .u8 71] 5 (2, 3)) (.cells #[.slice (some ⟨w.heap.size + 1, 0, none⟩) 2 2] 64)
  have hbl : Below (w.heap.size + 1) (w.alloc (.cells #[.int .i64 base, .slice a1 xss.length c1, .slice a2 ks.length c2, .slice a3 pss.length c3] 30)) (((w.alloc (.cells #[.int .i64 base, .slice a1 xss.length c1, .slice a2 ks.length c2, .slice a3 pss.length c3] 30)).alloc (.cells #[.int .u8 84, .int .u8 71] 5 (2, 3))).alloc (.cells #[.slice (some ⟨w.heap.size + 1, 0, none⟩) 2 2] 64)) := by have := below2 (w.alloc (.cells #[.int .i64 base, .slice a1 xss.length c1, .slice a2 ks.length c2, .slice a3 pss.length c3] 30)) (.cells #[.int .u8 84, .int .u8 71] 5 (2, 3)) (.cells #[.slice (some ⟨w.heap.size + 1, 0, none⟩) 2 2] 64); rwa [sz_alloc] at this
  have RA := Row4.new w 30 (.int .i64 base) (.slice a1 xss.length c1) (.slice a2 ks.length c2) (.slice a3 pss.length c3)
  have hE0 : EncAny (w.heap.size + 1) (w.heap.size + 1 + 1) (((w.alloc (.cells #[.int .i64 base, .slice a1 xss.length c1, .slice a2 ks.length c2, .slice a3 pss.length c3] 30)).alloc (.cells #[.int .u8 84, .int .u8 71] 5 (2, 3))).alloc (.cells #[.slice (some ⟨w.heap.size + 1, 0, none⟩) 2 2] 64)) [84, 71] := by
    refine ⟨by omega, .slice (some ⟨w.heap.size + 1, 0, none⟩) 2 2, ?_, Or.inr ⟨w.heap.size + 1, #[.int .u8 84, .int .u8 71], (2, 3), rfl, Nat.le_refl _, ?_, rfl⟩⟩
    · have := Boxed.new ((w.alloc (.cells #[.int .i64 base, .slice a1 xss.length c1, .slice a2 ks.length c2, .slice a3 pss.length c3] 30)).alloc (.cells #[.int .u8 84, .int .u8 71] 5 (2, 3))) 64 (.slice (some ⟨w.heap.size + 1, 0, none⟩) 2 2)
      rwa [sz_alloc, sz_alloc] at this
    · rw [(below1 ((w.alloc (.cells #[.int .i64 base, .slice a1 xss.length c1, .slice a2 ks.length c2, .slice a3 pss.length c3] 30)).alloc (.cells #[.int .u8 84, .int .u8 71] 5 (2, 3))) (.cells #[.slice (some ⟨w.heap.size + 1, 0, none⟩) 2 2] 64)).block (w.heap.size + 1) (by rw [sz_alloc, sz_alloc]; omega)]
      have := heap_alloc_new (w.alloc (.cells #[.int .i64 base, .slice a1 xss.length c1, .slice a2 ks.length c2, .slice a3 pss.length c3] 30)) (.cells #[.int .u8 84, .int .u8 71] 5 (2, 3))
      rwa [sz_alloc] at this
  have RV := hide ((RA.below hbl (by omega)))
  have HE0 := hide hE0
  have hzV : (((w.alloc (.cells #[.int .i64 base, .slice a1 xss.length c1, .slice a2 ks.length c2, .slice a3 pss.length c3] 30)).alloc (.cells #[.int .u8 84, .int .u8 71] 5 (2, 3))).alloc (.cells #[.slice (some ⟨w.heap.size + 1, 0, none⟩) 2 2] 64)).heap.size = w.heap.size + 3 := by simp
  obtain ⟨f0, f1, f2, f3, -⟩ := (unhide RV).facts
  clear hE0 RA hbl
  go_enter Try.func27, Try.ntmps27
  go_wp2_with fail
  generalize ((w.alloc (.cells #[.int .i64 base, .slice a1 xss.length c1, .slice a2 ks.length c2, .slice a3 pss.length c3] 30)).alloc (.cells #[.int .u8 84, .int .u8 71] 5 (2, 3))).alloc (.cells #[.slice (some ⟨w.heap.size + 1, 0, none⟩) 2 2] 64) = V at *
  refine (put2_any (w.heap.size + 1) (w.heap.size + 1 + 1) _ base xss.length [84, 71] V (unhide HE0) (by omega) ⟨by omega, by omega⟩ ⟨by omega, by omega⟩ (by simp) hzV.symm).mono ?_
  rintro e w1 ⟨⟨v1, rfl⟩, henc1, hb1⟩
  have hz1 := hb1.size
  have He1 := hide henc1
  have R1 := hide ((unhide RV).below hb1 (by omega))
  have hB1 : Below w.heap.size w w1 := hb0.trans (hb1.mono (by omega))
  have HV3 := hide (vi_len9 (n := base) (by omega))
  have HV4 := hide (vi_len9 (n := (xss.length : Int)) (by omega))
  clear henc1 HE0 cv hb0 hb1 f0 f1 f2 f3
  obtain ⟨f0, f1, f2, f3, -⟩ := (unhide R1).facts
  go_wp2_with fail
  go_loopw [22] (fun iv wr => ∃ k : Nat, k ≤ xss.length ∧ iv = .int .i64 k ∧ EncAt (w.heap.size + 1) (w.heap.size + 1 + 1) wr ([84, 71] ++ (vi base ++ vi xss.length) ++ lnL (xss.take k)) ∧ Below (w.heap.size + 1) w1 wr) (fun iv _ => xss.length - (intOf iv).toNat)
  case atStart => exact ⟨0, Nat.zero_le _, rfl, by simpa [lnL] using unhide He1, Below.refl _ _⟩
  case round =>
    obtain ⟨k, hk, rfl, henc, hb⟩ := hrel
    have hz := hb.size
    have Henc := hide henc
    have hB : Below w.heap.size w wr := hB1.trans (hb.mono (by omega))
    clear henc
    by_cases hlt : k < xss.length
    · have hlt' : (k : Int) < (xss.length : Int) := by omega
      obtain ⟨_, _, e1, -, hc⟩ := (unhide U1).under hB (Nat.le_refl _)
      cases e1
      obtain ⟨b, off, rfl, hbn, hcell⟩ := hc (by omega)
      obtain ⟨s, hx, hs, -⟩ := hcell k hlt
      have Hs := hide (hs.mono (Nat.le_refl _) (show w.heap.size ≤ w.heap.size + 1 by omega))
      have ht := tot_get xss k
      have Hn := hide (lnL_next hlt)
      have hln : ([84, 71] ++ (vi base ++ vi xss.length) ++ lnL (xss.take k)).length ≤ 268435456 := by
        have h1 := lnL_len (xss.take k) (by have := tot_take xss k; omega)
        have h2 := tot_take xss k
        have h3 := unhide HV3
        have h4 := unhide HV4
        rw [List.length_take] at h1
        simp only [List.length_append, List.length_cons, List.length_nil]
        omega
      obtain ⟨sa, sc, rfl, -, -⟩ := hs
      clear hcell hc
      generalize xss[k]?.getD [] = x at *
      go_wp2_with fail
      refine (putLine_any (w.heap.size + 1) (w.heap.size + 1 + 1) _ x _ wr (unhide Henc) (by omega) (unhide Hs) (by omega) hln).mono ?_
      rintro e w2 ⟨⟨v2, rfl⟩, henc2, hb2⟩
      have He2 := hide henc2
      clear henc2
      go_wp2
      go_roundw
      case rel => exact ⟨k + 1, by omega, by go_num, by rw [unhide Hn, ← List.append_assoc]; exact unhide He2, hb.trans hb2⟩
      case measure => simp [intOf]; omega
    · obtain rfl : k = xss.length := by omega
      rw [List.take_length] at Henc
      obtain ⟨w3, hw3⟩ : ∃ w3, w3 = wr := ⟨_, rfl⟩
      rw [← hw3] at hb hz Henc hB ⊢
      clear hw3
      have R3 := hide ((unhide R1).below hb (by omega))
      have HT : Hid ([84, 71] ++ (vi base ++ vi xss.length) ++ lnL xss ++ vi ks.length ++ kyL base 0 ks pss = bodL base xss ks pss) := rfl
      have hbd := bodL_len (unhide HI)
      have HBd := hide hbd
      have hl1 : ([84, 71] ++ (vi base ++ vi xss.length) ++ lnL xss).length ≤ 134217728 := by
        unfold bodL at hbd
        simp only [List.length_append] at hbd ⊢
        omega
      have hl2 : ([84, 71] ++ (vi base ++ vi xss.length) ++ lnL xss ++ vi ks.length).length + (kyL base 0 ks pss).length ≤ 134217728 := by
        unfold bodL at hbd
        simp only [List.length_append] at hbd ⊢
        omega
      clear f0 f1 f2 f3 hbd
      generalize [84, 71] ++ (vi base ++ vi xss.length) ++ lnL xss = t1 at *
      obtain ⟨f0, f1, f2, f3, -⟩ := (unhide R3).facts
      go_wp2_with fail
      refine (put1_any (w.heap.size + 1) (w.heap.size + 1 + 1) _ ks.length t1 w3 (unhide Henc).any (by omega) ⟨by omega, by omega⟩ (by omega) rfl).mono ?_
      rintro e w4 ⟨⟨v4, rfl⟩, henc4, hb4⟩
      have hz4 := hb4.size
      have He4 := hide henc4
      have R4 := hide ((unhide R3).below hb4 (by omega))
      have hB4 : Below w.heap.size w w4 := hB.trans (hb4.mono (by omega))
      clear henc4 f0 f1 f2 f3 hb4
      generalize t1 ++ vi ks.length = t2 at *
      obtain ⟨f0, f1, f2, f3, -⟩ := (unhide R4).facts
      go_wp2_with fail
      go_loopw [6, 37] (fun bv iv wr => ∃ (j : Nat) (c : Int) (ds : List Int), j ≤ ks.length ∧ iv = .int .i64 j ∧ bv = .int .i64 c ∧ Mid c ∧ kyL base 0 ks pss = ds ++ kyL base c (ks.drop j) (pss.drop j) ∧ EncAt (w.heap.size + 1) (w.heap.size + 1 + 1) wr (t2 ++ ds) ∧ Below (w.heap.size + 1) w4 wr) (fun _ iv _ => ks.length - (intOf iv).toNat)
      case atStart => exact ⟨0, 0, [], Nat.zero_le _, rfl, rfl, ⟨by omega, by omega⟩, rfl, by simpa using unhide He4, Below.refl _ _⟩
      case round =>
        obtain ⟨j, c, ds, hj, rfl, rfl, hc0, hds, henc5, hb5⟩ := hrel
        have hz5 := hb5.size
        have He5 := hide henc5
        have hB5 : Below w.heap.size w wr := hB4.trans (hb5.mono (by omega))
        have hdl : t2.length + ds.length ≤ 134217728 := by
          rw [hds, List.length_append] at hl2
          omega
        have Hds := hide hds
        have R5 := hide ((unhide R4).below hb5 (by omega))
        clear henc5 hds f0 f1 f2 f3
        unfold Mid at hc0
        obtain ⟨f0, f1, f2, f3, -⟩ := (unhide R5).facts
        by_cases hlt : j < ks.length
        · have hlt' : (j : Int) < (ks.length : Int) := by omega
          have hlp : j < pss.length := by omega
          have hlp' : (j : Int) < (pss.length : Int) := by omega
          obtain ⟨_, _, e2, -, hc2⟩ := (unhide U2).under hB5 (Nat.le_refl _)
          cases e2
          obtain ⟨b2, off2, rfl, -, -, hcell2⟩ := hc2 (by omega)
          have hx2 := hcell2 j hlt
          unfold mI at hx2
          obtain ⟨_, _, e3, -, hc3⟩ := (unhide U3).under hB5 (Nat.le_refl _)
          cases e3
          obtain ⟨b3, off3, rfl, hb3n, hcell3⟩ := hc3 (by omega)
          obtain ⟨s, hx3, hs3, -⟩ := hcell3 j hlp
          have Hs := hide (hs3.mono (Nat.le_refl _) (show w.heap.size ≤ w.heap.size + 1 by omega))
          have hk : Mid (ks[j]?.getD 0) := unhide I3 _ (by rw [List.getElem?_eq_getElem hlt]; exact List.getElem_mem hlt)
          have HP : Hid (∀ x ∈ pss[j]?.getD [], Mid x) := unhide I4 _ (by rw [List.getElem?_eq_getElem hlp]; exact List.getElem_mem hlp)
          have ht := tot_get pss j
          have Hdd := hide (kyL_drop (base := base) (b := c) hlt hlp)
          obtain ⟨sa, sc, rfl, -, -⟩ := hs3
          clear hcell2 hc2 hcell3 hc3
          generalize ks[j]?.getD 0 = key at *
          generalize pss[j]?.getD [] = p at *
          unfold Mid at hk
          go_wp2_with fail
          refine (put2_any (w.heap.size + 1) (w.heap.size + 1 + 1) _ (key - c) p.length (t2 ++ ds) wr (unhide He5).any (by omega) ⟨by omega, by omega⟩ ⟨by omega, by omega⟩ (by rw [List.length_append]; omega) rfl).mono ?_
          rintro e w6 ⟨⟨v6, rfl⟩, henc6, hb6⟩
          have hz6 := hb6.size
          have hw1 := vi_len9 (n := key - c) (by omega)
          have hw2 := vi_len9 (n := (p.length : Int)) (by omega)
          have hl6 : (t2 ++ ds ++ (vi (key - c) ++ vi p.length)).length ≤ 268435456 := by simp only [List.length_append]; omega
          have He6 := hide henc6
          have R6 := hide ((unhide R5).below hb6 (by omega))
          have hS : Hid (∀ W' : World, Below (w.heap.size + 1) w6 W' → W'.cell? ⟨w.heap.size, 0, none⟩ = some (.int .i64 base) ∧ W'.cell? ⟨w.heap.size, 3, none⟩ = some (.slice (some ⟨b3, off3, none⟩) pss.length c3) ∧ W'.cell? ⟨b3, off3 + j, none⟩ = some (.slice sa p.length sc)) := fun W' hW => by
            have h1 := ((unhide R6).below hW (by omega)).facts
            exact ⟨h1.1, h1.2.2.2.1, by rw [hW.cell (p := ⟨b3, off3 + j, none⟩) (by show b3 < _; omega), hb6.cell (p := ⟨b3, off3 + j, none⟩) (by show b3 < _; omega)]; exact hx3⟩
          have Hs6 := hide ((unhide Hs).under hb6 (Nat.le_refl _))
          clear henc6 f0 f1 f2 f3 hx2 hx3
          obtain ⟨f0, f3, hx3⟩ := unhide hS w6 (Below.refl _ _)
          go_wp2_with fail
          go_region_held3 (fun W' => W'.cell? ⟨w.heap.size, 0, none⟩ = some (.int .i64 base) ∧ W'.cell? ⟨w.heap.size, 3, none⟩ = some (.slice (some ⟨b3, off3, none⟩) pss.length c3) ∧ W'.cell? ⟨b3, off3 + j, none⟩ = some (.slice sa p.length sc))
            (first | (with_reducible exact unhide hS _ hB7) | go_keep)
            (first
              | (go_at_call 52; refine (putDistances_any (w.heap.size + 1) (w.heap.size + 1 + 1) _ base p _ _ (by exact unhide He6) (by show _ ≤ w6.heap.size; omega) (by exact unhide Hs6) ⟨by omega, by omega⟩ (unhide HP) (by omega) hl6).mono ?_; rintro e w7 ⟨⟨v7, rfl⟩, henc7, hb7⟩; have hB7 : Below (w.heap.size + 1) w6 w7 := ⟨hb7.os, hb7.tape, hb7.output, hb7.size, hb7.block⟩; have He7 := hide henc7; clear henc7 hb7))
          go_wp2
          have e7 : t2 ++ (ds ++ (vi (key - c) ++ vi p.length) ++ dst base p) = t2 ++ ds ++ (vi (key - c) ++ vi p.length) ++ dst base p := by simp only [List.append_assoc]
          exact ⟨⟨j + 1, key, ds ++ (vi (key - c) ++ vi p.length) ++ dst base p, by omega, by go_num, rfl, hk, by rw [unhide Hds, unhide Hdd]; simp only [List.append_assoc], by rw [e7]; exact unhide He7, hb5.trans (hb6.trans hB7)⟩, by simp [intOf]; omega⟩
        · obtain rfl : j = ks.length := by omega
          have hE : Hid (EncAt (w.heap.size + 1) (w.heap.size + 1 + 1) wr (bodL base xss ks pss)) := by
            have h1 := unhide Hds
            rw [kyL_end, List.append_nil] at h1
            rw [← unhide HT, h1]
            exact unhide He5
          go_wp2_with fail
          refine (putChecksum_any (w.heap.size + 1) (w.heap.size + 1 + 1) (bodL base xss ks pss) wr (unhide hE) (by omega) (bodL_bytes (unhide HI).bytes) (by have := unhide HBd; omega)).mono ?_
          rintro e w8 ⟨⟨v8, rfl⟩, henc8, hb8⟩
          have henc9 : EncAt (w.heap.size + 1) (w.heap.size + 1 + 1) w8 (encL base xss ks pss) := henc8
          obtain ⟨-, ov, hbx, hown⟩ := henc9
          have c8 := hbx.cell
          have Ho8 := hide hown
          obtain ⟨oa8, oc8, rfl⟩ := own_is hown
          have hBf : Below w.heap.size w w8 := hB5.trans (hb8.mono (by omega))
          clear hbx hown henc8 hb8
          go_wp2
          go_ret
          exact ⟨⟨_, rfl, own_low (unhide Ho8) (by omega)⟩, hBf⟩

end Go.Proofs.Ytpkghafpelilfaa
