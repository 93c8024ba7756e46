import Derived.Test.YtbgjgaejfkdceaaGreatP9
import Derived.Test.YtbgjgaejfkdceaaGreatSt4
namespace Go.Proofs.YtbgjgaejfkdceaaGreat
open Go.RowKit

/-- The segments of a state: what the model answers. -/
def SegsGot (e : Ending) (lo : Nat) (w' : World) (bss oss : List (List Int)) : Prop :=
  (∃ v ss, e = .returned (.tuple #[v, .bool true]) ∧ StS bss oss (ss.map Sv.g) ∧ SgRow lo w' v ss) ∨ (e = .returned (.tuple #[.slice none 0 0, .bool false]) ∧ StN bss oss)

theorem map_push (ss : List Sv) (t : Sv) : (ss ++ [t]).map Sv.g = ss.map Sv.g ++ [t.g] := by simp
/-- What is kept of the segments read so far. -/
structure Held (bss : List (List Int)) (k : Nat) (gs : List Sg) : Prop where
  p : DecP bss k gs
  n : gs.length ≤ nL gs
  l : nL gs ≤ 1000
  b : nB gs ≤ 20000 * gs.length
theorem Held.start (bss : List (List Int)) : Held bss 0 [] := ⟨DecP.start bss, Nat.le_refl _, by simp [nL], by simp [nB]⟩
theorem Held.step {bss : List (List Int)} {i : Nat} {gs : List Sg} {g : Sg} (h : Held bss i gs) (hi : i < bss.length) (hd : DecG (bss[i]?.getD []) g) (hb : g.b = nL gs) : Held bss (i + 1) (gs ++ [g]) := by
  obtain ⟨⟨f0, f1, f2, f3, f4⟩, -⟩ := id hd
  have h1 := h.n
  have h2 := h.l
  have h3 := h.b
  refine ⟨h.p.step hi (decO_some hd) hb, ?_, ?_, ?_⟩
  · rw [List.length_append, nL_app, nL_one]; simp; omega
  · rw [nL_app, nL_one]; omega
  · rw [List.length_append, nB_app, nB_one]; simp; omega

set_option maxHeartbeats 8000000 in
set_option maxRecDepth 100000 in
theorem l5segs_any (v : Value) (bss oss : List (List Int)) (w : World) (hv : StRd w v bss oss) (hby : ∀ x ∈ bss, Bytes x) (t1 : tot bss ≤ 1048576) (l1 : bss.length ≤ 1048576) (t2 : tot oss ≤ 1048576) (l2 : oss.length ≤ 1048576) :
    Calls Tryz.prog 18 #[v] w fun e w' => SegsGot e w.heap.size w' bss oss ∧ Below w.heap.size w w' := by
  obtain ⟨sv, ov, rfl, u1, u2⟩ := hv
  have U1 := hide u1
  have U2 := hide u2
  have HB := hide hby
  obtain ⟨a1, c1, rfl, -⟩ := id u1
  obtain ⟨a2, c2, rfl, -⟩ := id u2
  clear u1 u2 hby
  have hb0 := below1 w (.cells #[.slice a1 bss.length c1, .slice a2 oss.length c2] 27)
  have RA := Row2.new w 27 (.slice a1 bss.length c1) (.slice a2 oss.length c2)
  have hzV : (w.alloc (.cells #[.slice a1 bss.length c1, .slice a2 oss.length c2] 27)).heap.size = w.heap.size + 1 := sz_alloc _ _
  go_enter Tryz.func18, Tryz.ntmps18
  go_wp2_with fail
  generalize w.alloc (.cells #[.slice a1 bss.length c1, .slice a2 oss.length c2] 27) = V at *
  have hVz : w.heap.size + 1 ≤ V.heap.size := by omega
  clear hzV
  refine (l4bytes_any _ oss V ((unhide U2).below hb0 (Nat.le_refl _)) t2 l2).mono ?_
  rintro e w1 ⟨rfl, hw1⟩
  rw [hw1]
  clear hw1 w1
  have HRA := hide RA
  clear RA
  go_wp2_with fail
  go_loopw [4, 5, 6, 7] (fun sv bv tv iv wr => ∃ (k : Nat) (ss : List Sv), k ≤ bss.length ∧ iv = .int .i64 k ∧ bv = .int .i64 ((nL (ss.map Sv.g) : Nat) : Int) ∧ tv = .int .i64 ((tot oss + nB (ss.map Sv.g) : Nat) : Int) ∧ Held bss k (ss.map Sv.g) ∧ SgRow V.heap.size wr sv ss ∧ Below V.heap.size V wr) (fun _ _ _ iv _ => bss.length - (intOf iv).toNat)
  case atStart => exact ⟨0, [], Nat.zero_le _, rfl, by simp [nL], by simp [nB], Held.start _, SgRow.nil _ _, Below.refl _ _⟩
  case round =>
    obtain ⟨k, ss, hk, rfl, rfl, rfl, hheld, hrow, hb⟩ := hrel
    have hszr := hb.size
    have HH := hide hheld
    have HR := hide hrow
    have hB : Below w.heap.size w wr := hb0.trans (hb.mono (by omega))
    have hn1 : nL (ss.map Sv.g) ≤ 1000 := hheld.l
    have hn2 : nB (ss.map Sv.g) ≤ 20000000 := by have := hheld.n; have := hheld.l; have := hheld.b; omega
    have hn3 : ss.length ≤ 1000 := by have := hheld.n; rw [List.length_map] at this; omega
    obtain ⟨oa, oc, rfl⟩ := hrow.form
    obtain ⟨f0, f1, -⟩ := Row2.facts4 (Row2.below (unhide HRA) hb (by omega))
    clear hheld hrow
    generalize hnl : nL (ss.map Sv.g) = nl at *
    generalize hnb : nB (ss.map Sv.g) = nb at *
    have HNL := hide hnl
    have HNB := hide hnb
    clear hnl hnb
    by_cases hlt : k < bss.length
    · have hlt' : (k : Int) < (bss.length : Int) := by omega
      have U1r := (unhide U1).below hB (Nat.le_refl _)
      obtain ⟨_, _, e1, -, hc⟩ := U1r
      cases e1
      obtain ⟨b, off, rfl, hbn, hcell⟩ := hc (by omega)
      obtain ⟨s, hx, hs, hcs⟩ := hcell k hlt
      have HS := hide hs
      have HCS := hide hcs
      obtain ⟨sa, sc, rfl, -, -⟩ := hs
      have hxl := tot_get bss k
      have HBK := hide (unhide HB (bss[k]?.getD []) (by rw [List.getElem?_eq_getElem hlt]; exact List.getElem_mem _))
      have HST := hide (fun (g : Sg) (hd : DecG (bss[k]?.getD []) g) (hb : g.b = nl) => (unhide HH).step hlt hd (by rw [unhide HNL]; exact hb))
      have HNO : Hid (DecN (bss[k]?.getD []) → StN bss oss) := fun h => stO_none ((unhide HH).p.bad hlt h)
      have HNB2 : Hid (∀ g, DecG (bss[k]?.getD []) g → ¬ g.b = nl → StN bss oss) := fun g h hb => stO_none ((unhide HH).p.base hlt (decO_some h) (by rw [unhide HNL]; exact hb))
      clear hcell hc hcs
      generalize bss[k]?.getD [] = x at *
      go_wp2_with fail
      refine (specDecode_any _ x wr (unhide HS) (unhide HCS) (unhide HBK) (by omega)).mono ?_
      rintro e w1 ⟨⟨v1, b1, xs, ks, pss, c, rfl, hdi, hat⟩, hb1⟩
      have hz1 := hb1.size
      have HAT := hide hat
      obtain ⟨p1, q1, p2, q2, p3, q3, rfl⟩ := hat.rd.val
      have hB1 : Below V.heap.size V w1 := hb.trans (hb1.mono (by omega))
      have RB := Row4.new w1 56 (.int .i64 b1) (.slice p1 xs.length q1) (.slice p2 ks.length q2) (.slice p3 pss.length q3)
      have hV1 := below1 w1 (.cells #[.int .i64 b1, .slice p1 xs.length q1, .slice p2 ks.length q2, .slice p3 pss.length q3] 56)
      have hzV1 : (w1.alloc (.cells #[.int .i64 b1, .slice p1 xs.length q1, .slice p2 ks.length q2, .slice p3 pss.length q3] 56)).heap.size = w1.heap.size + 1 := sz_alloc _ _
      obtain ⟨g0, g1, g2, g3, -⟩ := RB.facts
      clear hat f0 f1 hx
      rcases hdi with ⟨hd, rfl⟩ | ⟨hd, rfl, rfl, rfl, rfl, rfl⟩
      · by_cases hbb : b1 = (nl : Int)
        · have HS2 := hide (unhide HST ⟨b1, xs, ks, pss⟩ hd hbb)
          obtain ⟨fa, fb, fc, fd, fe⟩ := id hd.1
          have hbn' : (b1 != (nl : Int)) = false := by simp [hbb]
          have Hbb := hide hbb
          clear hbb hd HNO HNB2 HST
          go_wp2_with fail
          generalize w1.alloc (.cells #[.int .i64 b1, .slice p1 xs.length q1, .slice p2 ks.length q2, .slice p3 pss.length q3] 56) = V1 at *
          have hVV1 : w1.heap.size + 1 ≤ V1.heap.size := by omega
          have HzV1 := hide hzV1
          clear hzV1
          refine (l4bytes_any _ xs V1 (by obtain ⟨lv, kv, pv, e, s1, s2, s3⟩ := (unhide HAT).rd; cases e; exact s1.below hV1 (Nat.le_refl _)) (by omega) (by omega)).mono ?_
          rintro e w2 ⟨rfl, hw2⟩
          rw [hw2]
          clear hw2 w2
          have HSG := hide (((unhide HAT).a).same (w' := V1) (fun q q1 q2 => hV1.block q q2))
          go_wp2_with (at_builtin; refine app_sg (wr := wr) (w1 := V1) (D := wr.heap.size) ⟨.slice p1 xs.length q1, .slice p2 ks.length q2, .slice p3 pss.length q3, ⟨b1, xs, ks, pss⟩, wr.heap.size, w1.heap.size⟩ rfl _ _ rfl rfl _ rfl rfl (unhide HR) hszr (Below.mv (hb1.trans (hV1.mono hz1)) _) (Or.inr (Nat.le_refl _)) (unhide HSG) (Nat.le_refl _) (by show w1.heap.size ≤ _; omega) ⟨rfl, rfl, rfl⟩ ⟨rfl, rfl, rfl, rfl⟩ (by omega) ?_)
          intro v' w' r1 r2 r3
          have R1 := hide r1
          have hB' : Below V.heap.size V w' := by
            have q0 : Below V.heap.size V V1 := hB1.trans (hV1.mono (by omega))
            exact q0.grown r2 (by omega) (fun j hj => ((unhide HR).own.lt j hj).1)
          obtain ⟨oa', oc', rfl⟩ := r1.form
          clear r1 r2 r3
          go_wp2
          go_roundw
          case rel => exact ⟨k + 1, _, by omega, by go_num, by rw [map_push, nL_app, nL_one, unhide HNL]; push_cast; rfl, by rw [map_push, nB_app, nB_one, unhide HNB]; congr 1; push_cast; omega, by rw [map_push]; exact unhide HS2, unhide R1, hB'⟩
          case measure => simp [intOf]; omega
        · have HS2 := hide (unhide HNB2 ⟨b1, xs, ks, pss⟩ hd hbb)
          have hbn' : (b1 != (nl : Int)) = true := by simp [hbb]
          have hBf : Below w.heap.size w (w1.alloc (.cells #[.int .i64 b1, .slice p1 xs.length q1, .slice p2 ks.length q2, .slice p3 pss.length q3] 56)) := hb0.trans ((hB1.trans (hV1.mono (by omega))).mono (by omega))
          clear hbb hd
          go_wp2
          go_ret2
          exact ⟨Or.inr ⟨rfl, unhide HS2⟩, hBf⟩
      · have HS2 := hide (unhide HNO (decO_none hd))
        have hBf : Below w.heap.size w (w1.alloc (.cells #[.int .i64 0, .slice p1 ([] : List (List Int)).length q1, .slice p2 ([] : List Int).length q2, .slice p3 ([] : List (List Int)).length q3] 56)) := hb0.trans ((hB1.trans (hV1.mono (by omega))).mono (by omega))
        clear hd
        go_wp2
        go_ret2
        exact ⟨Or.inr ⟨rfl, unhide HS2⟩, hBf⟩
    · have hlt' : ¬ (k : Int) < (bss.length : Int) := by omega
      obtain rfl : k = bss.length := by omega
      have HD := hide ((unhide HH).p.done)
      go_wp2_with fail
      refine (l4plain_any _ oss wr ((unhide U2).below hB (Nat.le_refl _)) t2 l2).mono ?_
      rintro e w2 ⟨hr, q2, hw2⟩
      have hb2 : Below wr.heap.size wr w2 := by rw [hw2]; exact drewB q2
      have hz2 := hb2.size
      have HR2 := hide ((unhide HR).keep hb2 (Nat.le_refl _))
      have hB2 : Below w.heap.size w w2 := hB.trans (hb2.mono hB.size)
      obtain ⟨y0, y1, -⟩ := Row2.facts4 (Row2.below (unhide HRA) (hb.trans (hb2.mono hszr)) (by omega))
      clear f0 f1 hw2
      rcases hr.cases with ⟨rfl, hm⟩ | ⟨rfl, hm⟩
      · by_cases h3 : 1000 < nl + oss.length
        · have HS2 : Hid (StN bss oss) := stO_no (unhide HD) (fun h => by have := h.2.1; rw [unhide HNL] at this; omega)
          have h3' : (1000 : Int) < (nl : Int) + (oss.length : Int) := by omega
          clear hm hr
          go_wp2
          go_ret2
          exact ⟨Or.inr ⟨rfl, unhide HS2⟩, hB2⟩
        · have h3' : ¬ (1000 : Int) < (nl : Int) + (oss.length : Int) := by omega
          by_cases h4 : 20000 < tot oss + nb
          · have HS2 : Hid (StN bss oss) := stO_no (unhide HD) (fun h => by have := h.2.2; rw [unhide HNB] at this; omega)
            have h4' : (20000 : Int) < ((tot oss + nb : Nat) : Int) := by omega
            clear hm hr
            go_wp2
            go_ret2
            exact ⟨Or.inr ⟨rfl, unhide HS2⟩, hB2⟩
          · have HS2 : Hid (StS bss oss (ss.map Sv.g)) := stO_yes (unhide HD) ⟨hm, by rw [unhide HNL]; omega, by rw [unhide HNB]; omega⟩
            have h4' : ¬ (20000 : Int) < ((tot oss + nb : Nat) : Int) := by omega
            clear hm hr
            go_wp2
            go_ret2
            refine ⟨Or.inl ⟨_, ss, rfl, unhide HS2, ?_⟩, hB2⟩
            exact (unhide HR2).base (by omega)
      · have HS2 : Hid (StN bss oss) := stO_no (unhide HD) (fun h => hm h.1)
        clear hm hr
        go_wp2
        go_ret2
        exact ⟨Or.inr ⟨rfl, unhide HS2⟩, hB2⟩

end Go.Proofs.YtbgjgaejfkdceaaGreat
