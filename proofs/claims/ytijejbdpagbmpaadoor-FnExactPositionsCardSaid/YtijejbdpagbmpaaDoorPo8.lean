import Derived.Test.YtijejbdpagbmpaaDoorPo7
import Derived.Deep.RegionWith
import Derived.Deep.DeepCutAuto
namespace Go.Proofs.YtijejbdpagbmpaaDoor
open Go.RowKit

theorem Tryd.zinBool1 : (Tryd.prog.info? 4).map (fun i => (i.zero, i.size, i.bytes)) = some (some (.bool false), 1, 1) := by kernel_rfl
theorem Tryd.zinBoolS1 : (Tryd.prog.info? 49).map (fun i => (i.zero, i.size, i.bytes)) = some (some (.slice none 0 0), 1, 24) := by kernel_rfl

theorem ElsAt.eq {lo n : Nat} {w : World} {v : Value} {xs ys : List El} (h : ElsAt lo n w v xs) (e : xs = ys) : ElsAt lo n w v ys := e ▸ h
theorem edgT (a : It) (c : Nat) : edg a true c = (a.la.map (c + ·)).map Int.ofNat := by simp [edg]
theorem edgF (a : It) (c : Nat) : edg a false c = (a.fi.map (c + ·)).map Int.ofNat := by simp [edg]
/-- A row of numbers that is owned: its place, and what is read there while its block stays. -/
theorem own_far {base n : Nat} {w : World} {v : Value} {A : List Nat} (h : w.ownsRow base 3 1 v n ((A.map Int.ofNat).map mI)) (hA : A.length = n) (hn : n ≤ 10000) :
    ∃ a c, v = .slice a n c ∧ (0 < n → ∃ g o, a = some ⟨g, o, none⟩ ∧ base ≤ g ∧ g < w.heap.size ∧ ∀ W : World, W.heap[g]? = w.heap[g]? → ∀ j (hj : j < A.length), W.cell? ⟨g, o + j, none⟩ = some (.int .i64 ((A[j] : Nat) : Int))) := by
  obtain ⟨a, c, hv, hl, hc⟩ := own_slw (xs := A.map Int.ofNat) (lo := base) h (Nat.le_refl _) (by unfold maxLen; omega)
  rw [List.length_map, hA] at hv hc
  refine ⟨a, c, hv, fun hp => ?_⟩
  obtain ⟨b, off, rfl, h1, h2, -, hcell⟩ := hc hp
  refine ⟨b, off, rfl, h1, h2, fun W hW j hj => ?_⟩
  rw [World.cell?_of_block (w := w) (a := ⟨b, off + j, none⟩) hW, hcell j (by omega)]
  simp [List.getElem?_eq_getElem hj, mI]
/-- The world but for the rows of a square. -/
theorem Chg.sq {lo n : Nat} {a w : World} (h : Chg lo n a w) {b o : Nat} (h1 : lo ≤ b) (h2 : b < n) (u : Value) : Chg lo n a (w.setCell ⟨b, o, none⟩ u) := h.put h1 h2 u

set_option maxHeartbeats 16000000 in
set_option maxRecDepth 100000 in
theorem l2marks_any (v : Value) (xs : List El) (w : World) (hv : ElsAt 0 w.heap.size w v xs) (hlen : xs.length ≤ 3000)
    (ok : ∀ k : Nat, k < xs.length → ElOk (xs[k]?.getD dE)) (h1 : wsum xs = 1) (h2 : ∀ k : Nat, 1 ≤ k → k ≤ xs.length → wsum (xs.drop k) ≤ 0) :
    Calls Tryd.prog 18 #[v] w fun e w' => ∃ G cp, e = .returned (.slice (some ⟨G, 0, none⟩) (lvs xs) cp) ∧ w.heap.size ≤ G ∧ Mx w' G (lvs xs) (mkd (oRun ini xs).ln) ∧ G + 1 + lvs xs ≤ w'.heap.size ∧ Below w.heap.size w w' := by
  have Hfo := hide (forest ok h1 h2)
  have Hok := hide ok
  have hnl := lvs_le xs
  have HL := hide (l2leaves_any v xs w hv hlen)
  have Hv := hide hv
  obtain ⟨a, cap, rfl, hcap, -⟩ := id hv
  obtain ⟨N, hN⟩ : ∃ N, N = lvs xs := ⟨_, rfl⟩
  rw [← hN] at HL hnl ⊢
  have HN := hide hN
  have hmk := run_make_row' (P := Tryd.prog) 47 49 (.slice none 0 0) 24 Tryd.underlying47 Tryd.zinBoolS1 rfl .i64 .i64 N (by omega) (by omega)
  have hmk2 := run_make_row' (P := Tryd.prog) 49 4 (.bool false) 1 Tryd.underlying49 Tryd.zinBool1 rfl .i64 .i64 N (by omega) (by omega)
  clear hv ok h1 h2 hN
  go_enter Tryd.func18, Tryd.ntmps18
  go_wp2_with fail
  refine (unhide HL).mono ?_
  rintro e w1 ⟨rfl, rfl⟩
  go_wp2_with fail
  have hrow0 := World.rowIs_made w1 (.slice none 0 0) N 49
  have hB0 := below1 w1 (.cells (madeCells #[.slice none 0 0] N) 49)
  have hz0 : (w1.alloc (.cells (madeCells #[.slice none 0 0] N) 49)).heap.size = w1.heap.size + 1 := sz_alloc _ _
  go_loopw [5] (fun iv wr => ∃ i : Nat, i ≤ N ∧ iv = .int .i64 i ∧ wr.rowIs w1.heap.size 49 N (fun b => if b < i then .slice (some ⟨w1.heap.size + 1 + b, 0, none⟩) N N else .slice none 0 0) ∧ (∀ b, b < i → wr.rowIs (w1.heap.size + 1 + b) 4 N (fun _ => .bool false)) ∧ wr.heap.size = w1.heap.size + 1 + i ∧ Below w1.heap.size w1 wr) (fun iv _ => N - (intOf iv).toNat)
  case atStart => exact ⟨0, Nat.zero_le _, rfl, hrow0.congr (fun b hb => by simp), fun b hb => absurd hb (Nat.not_lt_zero _), by rw [hz0], hB0⟩
  case round =>
    obtain ⟨i, hi, rfl, hrow, hrows, hsz, hb⟩ := hrel
    by_cases hlt : i < N
    · have hlt' : (i : Int) < (N : Int) := by omega
      have f0 : ∀ o : Obj, (wr.alloc o).frozen? ⟨w1.heap.size, i, none⟩ = false := fun o => (hrow.alloc o).frozen i
      have c0 : ∀ o : Obj, (wr.alloc o).cell? ⟨w1.heap.size, i, none⟩ = some (.slice none 0 0) := fun o => by rw [(hrow.alloc o).cell hlt, if_neg (Nat.lt_irrefl _)]
      have Hsz := hide hsz
      have Hrow := hide hrow
      have Hrows := hide hrows
      have hle : w1.heap.size + 1 ≤ wr.heap.size := by omega
      clear hrow hrows hsz hmk hrow0 hz0
      go_wp2
      refine ⟨⟨i + 1, by omega, by go_num, ?_, fun b hb2 => ?_, ?_, ?_⟩, by simp [intOf]; omega⟩
      · refine (((unhide Hrow).alloc _).set i _).congr (fun b hb2 => ?_)
        by_cases e : b = i
        · subst e; simp [unhide Hsz]
        · have e2 : b < i + 1 ↔ b < i := by omega
          simp [e, e2]
      · by_cases e : b = i
        · subst e
          have h := World.rowIs_made wr (.bool false) N 4
          rw [unhide Hsz] at h
          exact h.setOther (by show w1.heap.size + 1 + b ≠ w1.heap.size; omega) _
        · exact ((unhide Hrows b (by omega)).alloc _).setOther (by show w1.heap.size + 1 + b ≠ w1.heap.size; omega) _
      · rw [sz_put, sz_alloc, unhide Hsz]; omega
      · exact bput (hb.alloc (by omega) _) (Nat.le_refl _) _
    · have eN : N = i := by omega
      subst eN
      have HM : Hid (Mx wr w1.heap.size N (fun _ _ => false)) := ⟨hrow.congr (fun b hb2 => by rw [if_pos hb2]), hrows⟩
      have hle : w1.heap.size + 1 + N ≤ wr.heap.size := by omega
      obtain ⟨G, hG⟩ : ∃ G, G = w1.heap.size := ⟨_, rfl⟩
      rw [← hG] at HM hle hb ⊢
      have hGw : w1.heap.size ≤ G := by omega
      have hGw2 : G ≤ w1.heap.size := by omega
      clear hrow hrows hsz hmk hmk2 hrow0 hz0 hB0 hG
      go_wp2_with fail
      go_loopw [6] (fun ev wr => ∃ k : Nat, k ≤ xs.length ∧ ev = .int .i64 ((k + 1 : Nat) : Int) ∧ Mx wr G N (mkd (oRun ini (xs.take k)).ln) ∧ Below G w1 wr ∧ G + 1 + N ≤ wr.heap.size) (fun ev _ => xs.length + 1 - (intOf ev).toNat)
      case atStart => exact ⟨0, Nat.zero_le _, rfl, (unhide HM).same (fun i j _ _ => rfl), hb, hle⟩
      case round =>
        clear HM hle hb
        obtain ⟨k, hk, rfl, hM, hb, hle⟩ := hrel
        have HM := hide hM
        clear hM
        by_cases hlt : k < xs.length
        · have hlt' : ((k + 1 : Nat) : Int) ≤ (xs.length : Int) := by omega
          have e1 : ((k + 1 : Nat) : Int) - 1 = (k : Int) := by omega
          have hlt0 : (k : Int) < (xs.length : Int) := by omega
          obtain ⟨_, _, e, -, hc⟩ := (unhide Hv).below (hb.mono hGw) (Nat.le_refl _)
          cases e
          obtain ⟨b, off, rfl, -, hbn, hcell⟩ := hc (by omega)
          obtain ⟨-, -, -, sv, c0, c1, c2, c3, hints⟩ := hcell k hlt
          obtain ⟨sa, sc, rfl, -, -, -⟩ := id hints
          obtain ⟨st, hst, hg, hp⟩ := unhide Hfo k hk
          obtain ⟨st', hp⟩ := hp hlt
          have HNX : Hid (xs.take (k + 1) = xs.take k ++ [xs[k]?.getD dE]) := take_next hlt
          clear hc hcell hints
          generalize hX : xs[k]?.getD dE = x at *
          have HX := hide hX
          obtain ⟨xk, xset, xmn, xmx⟩ := x
          simp only at c0 c1 c2 c3
          clear hX
          have hB2 := below1 wr (.cells #[.int .i64 xk, .slice sa xset.length sc, .int .i64 xmn, .int .i64 xmx] 44)
          rcases hp with ⟨hk2, -⟩ | ⟨hk2, B, l, r, hB, -⟩ | ⟨hk2, B, o, hB, -⟩
          · have HE : Hid ((oRun ini (xs.take (k + 1))).ln = (oRun ini (xs.take k)).ln) := by
              show (oRun ini (xs.take (k + 1))).ln = _
              rw [unhide HNX]
              exact link_leaf hk2
            simp only at hk2
            have g1 : (xk != 2) = true := by simp; omega
            have g2 : (xk != 4) = true := by simp; omega
            clear hg
            go_wp2
            go_roundw
            case rel => exact ⟨k + 1, by omega, by go_num, by rw [unhide HE]; exact (unhide HM).keep hB2 hle, hb.trans (hB2.mono (by omega)), by rw [sz_alloc]; omega⟩
            case measure => simp [intOf]; omega
          · have ok2 := unhide Hok k hlt
            rw [unhide HX] at ok2
            simp only at hk2
            have ex : (⟨xk, xset, xmn, xmx⟩ : El) = ⟨xk, [], 0, 0⟩ := by
              rcases ok2 with ⟨q1, q2, q3, q4⟩ | ⟨q1, q2, q3, q4⟩ | ⟨q1, q2, q3, q4, q5⟩ <;> simp only at q1 q2 q3 q4
              · omega
              · subst q3 q4
                obtain rfl := List.eq_nil_of_length_eq_zero q2
                rfl
              · omega
            obtain ⟨slM, al, la, sal, nl, el, ol, bl⟩ := hg l (by rw [hB]; simp)
            obtain ⟨srM, ar, lb, sbr, nr, er, orr, br⟩ := hg r (by rw [hB]; simp)
            have hfl : xs.take k = flats B ++ l.1 ++ r.1 := by rw [← hst, hB]; simp [flats]
            have hsp : xs = xs.take (k + 1) ++ xs.drop (k + 1) := (List.take_append_drop _ _).symm
            rw [unhide HNX, hfl, ex] at hsp
            have hkl : (flats B ++ l.1 ++ r.1).length = k := by rw [← hfl, List.length_take]; omega
            obtain ⟨P, hP⟩ : ∃ P, P = flats B := ⟨_, rfl⟩
            obtain ⟨L, hL⟩ : ∃ L, L = l.1 := ⟨_, rfl⟩
            obtain ⟨R, hR⟩ : ∃ R, R = r.1 := ⟨_, rfl⟩
            obtain ⟨S, hS⟩ : ∃ S, S = xs.drop (k + 1) := ⟨_, rfl⟩
            rw [← hL] at slM nl el ol bl
            rw [← hR] at srM nr er orr br
            rw [← hP, ← hL, ← hR] at hfl hkl hsp
            rw [← hS] at hsp
            clear hP hL hR hS hg hst hB ok2 nl nr
            simp only [List.length_append] at hkl
            rcases hk2 with rfl | rfl
            · obtain ⟨K, hK⟩ : ∃ K, K = (oRun ini (xs.take k)).ln := ⟨_, rfl⟩
              have HK := hide hK
              obtain ⟨A, hA⟩ : ∃ A, A = al.la.map (lvs P + ·) := ⟨_, rfl⟩
              obtain ⟨Bq, hBq⟩ : ∃ B, B = ar.fi.map (lvs P + lvs L + ·) := ⟨_, rfl⟩
              have HE : Hid ((oRun ini (xs.take (k + 1))).ln = K ++ [(A, Bq)]) := by
                show (oRun ini (xs.take (k + 1))).ln = _
                rw [unhide HNX, hfl, ex, link_cat ol orr, ← hfl, ← hK, ← hA, ← hBq]
              have hnl2 : N = lvs P + lvs L + lvs R + lvs S := by rw [unhide HN, hsp]; simp only [lvs_app]; simp [lvs]
              have HAN : Hid (∀ i ∈ A, i < N) := fun i hi => by rw [hA] at hi; obtain ⟨j, hj, rfl⟩ := List.mem_map.1 hi; have := bl.2 j hj; omega
              have HBN : Hid (∀ i ∈ Bq, i < N) := fun i hi => by rw [hBq] at hi; obtain ⟨j, hj, rfl⟩ := List.mem_map.1 hi; have := br.1 j hj; omega
              have hxl0 : xs.length = P.length + (L.length + R.length + 1) + S.length := by
                have := congrArg List.length hsp
                simp only [List.length_append, List.length_singleton] at this
                omega
              have HAL : A.length ≤ 3000 := by rw [hA, List.length_map]; have := el.2.1; omega
              have HBL : Bq.length ≤ 3000 := by rw [hBq, List.length_map]; have := er.1; omega
              obtain ⟨pl, hpl⟩ : ∃ n, n = P.length := ⟨_, rfl⟩
              obtain ⟨ql, hql⟩ : ∃ n, n = P.length + L.length := ⟨_, rfl⟩
              obtain ⟨cl, hcl⟩ : ∃ n, n = lvs P + lvs L := ⟨_, rfl⟩
              unfold maxLen at hcap
              have HV : Hid (∀ W, Below G w1 W → ElsAt 0 W.heap.size W (.slice (some ⟨b, off, none⟩) xs.length cap) xs) := fun W hW => (unhide Hv).below (hW.mono hGw) (Nat.le_refl _)
              have HS1 : Hid (∀ W, Below G w1 W → Calls Tryd.prog 39 #[.slice (some ⟨b, off, none⟩) xs.length cap, .int .i64 ((k + 1 : Nat) : Int)] W fun e w' => e = .returned (.int .i64 (pl : Int)) ∧ w' = W) := fun W hW => by
                rw [hpl]
                exact l1start_seg _ P (L ++ R ++ [⟨2, [], 0, 0⟩]) S _ _ W (SegM.bin slM srM (Or.inl rfl)) ((unhide HV W hW).eq (by rw [hsp]; simp)) (by simp only [List.length_append, List.length_singleton]; omega) (by simp only [List.length_append, List.length_singleton]; omega)
              have HS2 : Hid (∀ W, Below G w1 W → Calls Tryd.prog 39 #[.slice (some ⟨b, off, none⟩) xs.length cap, .int .i64 (k : Int)] W fun e w' => e = .returned (.int .i64 (ql : Int)) ∧ w' = W) := fun W hW => by
                rw [hql, ← List.length_append]
                exact l1start_seg _ (P ++ L) R ([⟨2, [], 0, 0⟩] ++ S) _ _ W srM ((unhide HV W hW).eq (by rw [hsp]; simp)) (by simp only [List.length_append, List.length_singleton]; omega) (by simp only [List.length_append]; omega)
              have HL1 : Hid (∀ W, Below G w1 W → Calls Tryd.prog 40 #[.slice (some ⟨b, off, none⟩) pl cap] W fun e w' => e = .returned (.int .i64 ((lvs P : Nat) : Int)) ∧ w' = W) := fun W hW => by
                rw [hpl]
                exact l2leaves_any _ P W (ElsAt.pre (len := xs.length) ((unhide HV W hW).eq (by rw [hsp, List.append_assoc, List.append_assoc, List.append_assoc]))) (by omega)
              have HL2 : Hid (∀ W, Below G w1 W → Calls Tryd.prog 40 #[.slice (some ⟨b, off, none⟩) ql cap] W fun e w' => e = .returned (.int .i64 (cl : Int)) ∧ w' = W) := fun W hW => by
                rw [hcl, hql, ← List.length_append, ← lvs_app]
                exact l2leaves_any _ (P ++ L) W (ElsAt.pre (len := xs.length) (q := R ++ ([⟨2, [], 0, 0⟩] ++ S)) ((unhide HV W hW).eq (by rw [hsp]; simp))) (by simp only [List.length_append]; omega)
              have HE1 : Hid (∀ W, Below G w1 W → Calls Tryd.prog 17 #[.slice (some ⟨b, off + pl * 4, none⟩) (ql - pl) (cap - pl), .int .i64 ((lvs P : Nat) : Int), .bool true] W fun e w' => ∃ v', e = .returned v' ∧ w'.ownsRow W.heap.size 3 1 v' A.length ((A.map Int.ofNat).map mI) ∧ Below W.heap.size W w') := fun W hW => by
                have h := el.2.2 (.slice (some ⟨b, off + pl * 4, none⟩) (ql - pl) (cap - pl)) W (lvs P) true (by rw [show ql - pl = L.length by omega, hpl]; exact ElsAt.mid (len := xs.length) (r := R ++ ([⟨2, [], 0, 0⟩] ++ S)) ((unhide HV W hW).eq (by rw [hsp]; simp)) (by unfold maxLen; omega)) (by omega) (by have := lvs_le P; omega)
                rw [edgT, ← hA, List.length_map] at h
                exact h
              have HE2 : Hid (∀ W, Below G w1 W → Calls Tryd.prog 17 #[.slice (some ⟨b, off + ql * 4, none⟩) (k - ql) (cap - ql), .int .i64 (cl : Int), .bool false] W fun e w' => ∃ v', e = .returned v' ∧ w'.ownsRow W.heap.size 3 1 v' Bq.length ((Bq.map Int.ofNat).map mI) ∧ Below W.heap.size W w') := fun W hW => by
                have h := er.2.2 (.slice (some ⟨b, off + ql * 4, none⟩) (k - ql) (cap - ql)) W (lvs P + lvs L) false (by rw [show k - ql = R.length by omega, hql, ← List.length_append]; exact ElsAt.mid (len := xs.length) (r := [⟨2, [], 0, 0⟩] ++ S) ((unhide HV W hW).eq (by rw [hsp]; simp)) (by unfold maxLen; simp only [List.length_append]; omega)) (by omega) (by have := lvs_le P; have := lvs_le L; omega)
                rw [edgF, ← hBq, List.length_map, ← hcl] at h
                exact h
              have f7 : IntKind.i64.wrap (k : Int) = (k : Int) := k64i (by omega) (by omega)
              have j1 : (pl : Int) ≤ (ql : Int) := by omega
              have j2 : (ql : Int) ≤ (k : Int) := by omega
              have j3 : (k : Int) ≤ (cap : Int) := by omega
              have j4 : (ql : Int) ≤ (cap : Int) := by omega
              have j5 : (pl : Int) ≤ (cap : Int) := by omega
              have hb0 : Below G w1 (wr.alloc (.cells #[.int .i64 2, .slice sa xset.length sc, .int .i64 xmn, .int .i64 xmx] 44)) := hb.alloc (by omega) _
              have hz0 : (wr.alloc (.cells #[.int .i64 2, .slice sa xset.length sc, .int .i64 xmn, .int .i64 xmx] 44)).heap.size = wr.heap.size + 1 := sz_alloc _ _
              clear hpl hql hcl hA hBq el er ol orr bl br slM srM hsp hfl hkl hxl0 hK Hfo Hok hnl2 HV HNX
              go_wp2_with fail
              refine (unhide HS1 _ hb0).mono ?_
              rintro e _ ⟨rfl, rfl⟩
              go_wp2_with fail
              refine (unhide HS2 _ hb0).mono ?_
              rintro e _ ⟨rfl, rfl⟩
              have f0 : (wr.alloc (.cells #[.int .i64 2, .slice sa xset.length sc, .int .i64 xmn, .int .i64 xmx] 44)).cell? ⟨wr.heap.size, 0, none⟩ = some (.int .i64 2) := (pushd_alloc wr _).news 0 _ rfl
              obtain ⟨wa, hwa⟩ : ∃ wa, wa = wr.alloc (.cells #[.int .i64 2, .slice sa xset.length sc, .int .i64 xmn, .int .i64 xmx] 44) := ⟨_, rfl⟩
              rw [← hwa] at hb0 hz0 hB2 f0 ⊢
              have hb_wa := hb0
              clear hwa hb0 HS1 HS2

              go_upto_region 17 with fail
              go_cut [9] (fun fv wx => wx.ownsRow wa.heap.size 3 1 fv A.length ((A.map Int.ofNat).map mI) ∧ Below wa.heap.size wa wx)
              case first =>
                go_region_with (first
                  | (go_at_call 40; (with_reducible refine (unhide HL1 _ ?_).mono ?_); (first | exact hb_wa | exact hb_wa.drew | exact hb_wa.drew.drew); rintro e w7 ⟨rfl, rfl⟩)
                  | (go_at_call 17; (with_reducible refine (unhide HE1 _ ?_).mono ?_); (first | exact hb_wa | exact hb_wa.drew | exact hb_wa.drew.drew); rintro e w8 ⟨v8, rfl, ho8, hb8⟩))
                all_goals go_wp2_with fail
                all_goals go_meet
                all_goals exact ⟨ho8, ⟨hb8.os, hb8.tape, hb8.output, hb8.size, hb8.block⟩⟩
              case rest =>
              obtain ⟨ho_wb, hk_wb⟩ := hcut
              obtain ⟨wb, hw_wb⟩ : ∃ wb, wb = wc := ⟨_, rfl⟩
              rw [← hw_wb] at ho_wb hk_wb ⊢
              clear hw_wb
              have hb_wb : Below G w1 wb := hb_wa.trans (hk_wb.mono (by omega))
              have hz_wb := hk_wb.size
              have HO_wb := hide ho_wb
              obtain ⟨fa, fc, rfl⟩ := own_is ho_wb
              clear ho_wb

              go_upto_region 18 with fail
              go_cut [10] (fun fv wx => wx.ownsRow wb.heap.size 3 1 fv Bq.length ((Bq.map Int.ofNat).map mI) ∧ Below wb.heap.size wb wx)
              case first =>
                go_region_with (first
                  | (go_at_call 40; (with_reducible refine (unhide HL2 _ ?_).mono ?_); (first | exact hb_wb | exact hb_wb.drew | exact hb_wb.drew.drew); rintro e w7 ⟨rfl, rfl⟩)
                  | (go_at_call 17; (with_reducible refine (unhide HE2 _ ?_).mono ?_); (first | exact hb_wb | exact hb_wb.drew | exact hb_wb.drew.drew); rintro e w8 ⟨v8, rfl, ho8, hb8⟩))
                all_goals go_wp2_with fail
                all_goals go_meet
                all_goals exact ⟨ho8, ⟨hb8.os, hb8.tape, hb8.output, hb8.size, hb8.block⟩⟩
              case rest =>
              obtain ⟨ho_wd, hk_wd⟩ := hcut
              obtain ⟨wd, hw_wd⟩ : ∃ wd, wd = wc := ⟨_, rfl⟩
              rw [← hw_wd] at ho_wd hk_wd ⊢
              clear hw_wd
              have hb_wd : Below G w1 wd := hb_wb.trans (hk_wd.mono (by omega))
              have hz_wd := hk_wd.size
              have HO_wd := hide ho_wd
              obtain ⟨ta, tc, rfl⟩ := own_is ho_wd
              clear ho_wd

              have hMd : Mx wd G N (mkd K) := by rw [unhide HK]; exact (((unhide HM).keep hB2 hle).keep (hk_wb.mono (by omega)) (Nat.le_refl _)).keep (hk_wd.mono (by omega)) (Nat.le_refl _)
              have HMd := hide hMd
              obtain ⟨_, _, e8, hFA⟩ := own_far (own_keep (unhide HO_wb) hk_wd (Nat.le_refl _)) rfl (by have := HAL; omega)
              cases e8
              obtain ⟨_, _, e9, hTB⟩ := own_far (unhide HO_wd) rfl (by have := HBL; omega)
              cases e9
              have HFA := hide hFA
              have HTB := hide hTB
              have hbd := hb_wd
              clear hMd hFA hTB HO_wb HO_wd HM hk_wb hk_wd HL1 HE1 HL2 HE2

              have hAl : A.length ≤ 3000 := HAL
              have hBl : Bq.length ≤ 3000 := HBL
              go_wp2_with fail
              go_loopw [12] (fun iv wr => ∃ x : Nat, x ≤ A.length ∧ iv = .int .i64 x ∧ Mx wr G N (mkd (K ++ [(A.take x, Bq)])) ∧ Chg (G + 1) (G + 1 + N) wd wr) (fun iv _ => A.length - (intOf iv).toNat)
              case atStart => exact ⟨0, Nat.zero_le _, rfl, (unhide HMd).same (fun i j _ _ => by rw [List.take_zero, mkd_none]), Chg.refl _ _ _⟩
              case round =>
                obtain ⟨x, hx, rfl, hM3, hc3⟩ := hrel
                have HM3 := hide hM3
                clear hM3
                by_cases hxl : x < A.length
                · have hxl' : (x : Int) < (A.length : Int) := by omega
                  obtain ⟨fg, fo, rfl, hfg, hfg2, hfc⟩ := unhide HFA (by omega)
                  have HFC := hide hfc
                  have hax : A[x] < N := unhide HAN _ (List.getElem_mem hxl)
                  clear hfc
                  go_wp2_with fail
                  go_loopw [13] (fun jv wr => ∃ y : Nat, y ≤ Bq.length ∧ jv = .int .i64 y ∧ Mx wr G N (mkd (K ++ [(A.take x, Bq)] ++ [([A[x]], Bq.take y)])) ∧ Chg (G + 1) (G + 1 + N) wd wr) (fun jv _ => Bq.length - (intOf jv).toNat)
                  case atStart => exact ⟨0, Nat.zero_le _, rfl, (unhide HM3).same (fun i j _ _ => by rw [List.take_zero, mkd_none2]), hc3⟩
                  case round =>
                    clear HM3 hc3
                    obtain ⟨y, hy, rfl, hM4, hc4⟩ := hrel
                    by_cases hyl : y < Bq.length
                    · have hyl' : (y : Int) < (Bq.length : Int) := by omega
                      obtain ⟨tg, tof, rfl, htg, htg2, htc⟩ := unhide HTB (by omega)
                      have hby : Bq[y] < N := unhide HBN _ (List.getElem_mem hyl)
                      obtain ⟨ax, hAX⟩ : ∃ ax, ax = A[x] := ⟨_, rfl⟩
                      obtain ⟨ly, hBY⟩ : ∃ ly, ly = Bq[y] := ⟨_, rfl⟩
                      have q1 := unhide HFC wr (hc4.block _ (Or.inr (by omega))) x hxl
                      have q2 := htc wr (hc4.block _ (Or.inr (by omega))) y hyl
                      rw [← hAX] at q1 hax
                      rw [← hBY] at q2 hby
                      have q3 := hM4.top.cell hax
                      have q4 := (hM4.row ax hax).cell hby
                      have q5 := (hM4.row ax hax).frozen ly
                      have hax' : (ax : Int) < (N : Int) := by omega
                      have hby' : (ly : Int) < (N : Int) := by omega
                      have HM4 := hide hM4
                      have HAX := hide hAX
                      have HBY := hide hBY
                      have HM5 : Hid (Mx (wr.setCell ⟨G + 1 + ax, ly, none⟩ (.bool true)) G N (mkd (K ++ [(A.take x, Bq)] ++ [([A[x]], Bq.take (y + 1))]))) := (hM4.put (j := ly) hax).same (fun i j _ _ => by rw [mkd_step _ _ _ _ _ hxl hyl, hAX, hBY])
                      have HC5 : Hid (Chg (G + 1) (G + 1 + N) wd (wr.setCell ⟨G + 1 + ax, ly, none⟩ (.bool true))) := hc4.put (by omega) (by omega) _
                      clear htc hM4 hAX hBY HM4 HAX HBY
                      go_wp2_with fail
                      go_region
                      all_goals
                        go_wp2
                        go_roundw
                        case rel =>
                          exact ⟨y + 1, by omega, by go_num, ⟨(unhide HM5).top, (unhide HM5).row⟩, ⟨(unhide HC5).os, (unhide HC5).tape, (unhide HC5).output, (unhide HC5).size, (unhide HC5).block⟩⟩
                        case measure => simp [intOf]; omega
                    · have ey : y = Bq.length := by omega
                      subst ey
                      rw [List.take_length] at hM4
                      have HM4 := hide hM4
                      clear hM4
                      go_wp2_with fail
                      go_roundw
                      case rel =>
                        exact ⟨x + 1, by omega, by go_num, (unhide HM4).same (fun i j _ _ => mkd_row _ _ _ _ hxl i j), hc4⟩
                      case measure => simp [intOf]; omega
                · have ex : x = A.length := by omega
                  subst ex
                  rw [List.take_length] at HM3
                  go_wp2_with fail
                  go_roundw
                  case rel =>
                    exact ⟨k + 1, by omega, by go_num, by rw [unhide HE]; exact unhide HM3, hbd.trans (hc3.below.mono (by omega)), by rw [hc3.size]; omega⟩
                  case measure => simp [intOf]; omega
            · have HE : Hid ((oRun ini (xs.take (k + 1))).ln = (oRun ini (xs.take k)).ln) := by
                show (oRun ini (xs.take (k + 1))).ln = _
                rw [unhide HNX, hfl, ex, link_alt ol orr]
              clear el er ol orr bl br slM srM hsp hfl hkl
              go_wp2
              go_roundw
              case rel => exact ⟨k + 1, by omega, by go_num, by rw [unhide HE]; exact (unhide HM).keep hB2 hle, hb.trans (hB2.mono (by omega)), by rw [sz_alloc]; omega⟩
              case measure => simp [intOf]; omega
          · have ok2 := unhide Hok k hlt
            rw [unhide HX] at ok2
            simp only at hk2
            have ex : (⟨xk, xset, xmn, xmx⟩ : El) = ⟨4, [], xmn, xmx⟩ := by
              rcases ok2 with ⟨q1, q2, q3, q4⟩ | ⟨q1, q2, q3, q4⟩ | ⟨q1, q2, q3, q4, q5⟩ <;> simp only at q1 q2 q3 q4
              · omega
              · omega
              · obtain rfl := List.eq_nil_of_length_eq_zero q2
                rw [hk2]
            have okq : 0 ≤ xmn ∧ (xmx = -1 ∨ (xmn ≤ xmx ∧ xmx ≤ 250)) := by
              rcases ok2 with ⟨q1, q2, q3, q4⟩ | ⟨q1, q2, q3, q4⟩ | ⟨q1, q2, q3, q4, q5⟩ <;> simp only at q1 q2 q3 q4
              · omega
              · omega
              · exact ⟨q3, q5⟩
            obtain ⟨slM, al, la, sal, nl, el, ol, bl⟩ := hg o (by rw [hB]; simp)
            have hfl : xs.take k = flats B ++ o.1 := by rw [← hst, hB]; simp [flats]
            have hsp : xs = xs.take (k + 1) ++ xs.drop (k + 1) := (List.take_append_drop _ _).symm
            rw [unhide HNX, hfl, ex] at hsp
            have hkl : (flats B ++ o.1).length = k := by rw [← hfl, List.length_take]; omega
            obtain ⟨P, hP⟩ : ∃ P, P = flats B := ⟨_, rfl⟩
            obtain ⟨L, hL⟩ : ∃ L, L = o.1 := ⟨_, rfl⟩
            obtain ⟨S, hS⟩ : ∃ S, S = xs.drop (k + 1) := ⟨_, rfl⟩
            rw [← hL] at slM nl el ol bl
            rw [← hP, ← hL] at hfl hkl hsp
            rw [← hS] at hsp
            subst hk2
            clear hP hL hS hg hst hB ok2 nl
            simp only [List.length_append] at hkl
            obtain ⟨K, hK⟩ : ∃ K, K = (oRun ini (xs.take k)).ln := ⟨_, rfl⟩
            have HK := hide hK
            obtain ⟨A, hA⟩ : ∃ A, A = al.la.map (lvs P + ·) := ⟨_, rfl⟩
            obtain ⟨Bq, hBq⟩ : ∃ B, B = al.fi.map (lvs P + ·) := ⟨_, rfl⟩
            have HE : Hid ((oRun ini (xs.take (k + 1))).ln = K ++ [(A, Bq)]) := by
              show (oRun ini (xs.take (k + 1))).ln = _
              rw [unhide HNX, hfl, ex, link_rep ol xmn xmx, ← hfl, ← hK, ← hA, ← hBq]
            have hnl2 : N = lvs P + lvs L + lvs S := by rw [unhide HN, hsp]; simp only [lvs_app]; simp [lvs]
            have HAN : Hid (∀ i ∈ A, i < N) := fun i hi => by rw [hA] at hi; obtain ⟨j, hj, rfl⟩ := List.mem_map.1 hi; have := bl.2 j hj; omega
            have HBN : Hid (∀ i ∈ Bq, i < N) := fun i hi => by rw [hBq] at hi; obtain ⟨j, hj, rfl⟩ := List.mem_map.1 hi; have := bl.1 j hj; omega
            have hxl0 : xs.length = P.length + (L.length + 1) + S.length := by
              have := congrArg List.length hsp
              simp only [List.length_append, List.length_singleton] at this
              omega
            have HAL : A.length ≤ 3000 := by rw [hA, List.length_map]; have := el.2.1; omega
            have HBL : Bq.length ≤ 3000 := by rw [hBq, List.length_map]; have := el.1; omega
            obtain ⟨pl, hpl⟩ : ∃ n, n = P.length := ⟨_, rfl⟩
            unfold maxLen at hcap
            have HV : Hid (∀ W, Below G w1 W → ElsAt 0 W.heap.size W (.slice (some ⟨b, off, none⟩) xs.length cap) xs) := fun W hW => (unhide Hv).below (hW.mono hGw) (Nat.le_refl _)
            have HS1 : Hid (∀ W, Below G w1 W → Calls Tryd.prog 39 #[.slice (some ⟨b, off, none⟩) xs.length cap, .int .i64 ((k + 1 : Nat) : Int)] W fun e w' => e = .returned (.int .i64 (pl : Int)) ∧ w' = W) := fun W hW => by
              rw [hpl]
              exact l1start_seg _ P (L ++ [⟨4, [], xmn, xmx⟩]) S _ _ W (SegM.rep slM rfl okq.1 okq.2) ((unhide HV W hW).eq (by rw [hsp]; simp)) (by simp only [List.length_append, List.length_singleton]; omega) (by simp only [List.length_append, List.length_singleton]; omega)
            have HL1 : Hid (∀ W, Below G w1 W → Calls Tryd.prog 40 #[.slice (some ⟨b, off, none⟩) pl cap] W fun e w' => e = .returned (.int .i64 ((lvs P : Nat) : Int)) ∧ w' = W) := fun W hW => by
              rw [hpl]
              exact l2leaves_any _ P W (ElsAt.pre (len := xs.length) (q := L ++ ([⟨4, [], xmn, xmx⟩] ++ S)) ((unhide HV W hW).eq (by rw [hsp]; simp))) (by omega)
            have HEL : Hid (∀ W, Below G w1 W → ElsAt 0 W.heap.size W (.slice (some ⟨b, off + pl * 4, none⟩) (k - pl) (cap - pl)) L) := fun W hW => by
              rw [show k - pl = L.length by omega, hpl]
              exact ElsAt.mid (len := xs.length) (r := [⟨4, [], xmn, xmx⟩] ++ S) ((unhide HV W hW).eq (by rw [hsp]; simp)) (by unfold maxLen; omega)
            have HE1 : Hid (∀ W, Below G w1 W → Calls Tryd.prog 17 #[.slice (some ⟨b, off + pl * 4, none⟩) (k - pl) (cap - pl), .int .i64 ((lvs P : Nat) : Int), .bool true] W fun e w' => ∃ v', e = .returned v' ∧ w'.ownsRow W.heap.size 3 1 v' A.length ((A.map Int.ofNat).map mI) ∧ Below W.heap.size W w') := fun W hW => by
              have h := el.2.2 (.slice (some ⟨b, off + pl * 4, none⟩) (k - pl) (cap - pl)) W (lvs P) true (unhide HEL W hW) (by omega) (by have := lvs_le P; omega)
              rw [edgT, ← hA, List.length_map] at h
              exact h
            have HE2 : Hid (∀ W, Below G w1 W → Calls Tryd.prog 17 #[.slice (some ⟨b, off + pl * 4, none⟩) (k - pl) (cap - pl), .int .i64 ((lvs P : Nat) : Int), .bool false] W fun e w' => ∃ v', e = .returned v' ∧ w'.ownsRow W.heap.size 3 1 v' Bq.length ((Bq.map Int.ofNat).map mI) ∧ Below W.heap.size W w') := fun W hW => by
              have h := el.2.2 (.slice (some ⟨b, off + pl * 4, none⟩) (k - pl) (cap - pl)) W (lvs P) false (unhide HEL W hW) (by omega) (by have := lvs_le P; omega)
              rw [edgF, ← hBq, List.length_map] at h
              exact h
            have HL2 := HL1
            have f7 : IntKind.i64.wrap (k : Int) = (k : Int) := k64i (by omega) (by omega)
            have j1 : (pl : Int) ≤ (k : Int) := by omega
            have j3 : (k : Int) ≤ (cap : Int) := by omega
            have j5 : (pl : Int) ≤ (cap : Int) := by omega
            have hb0 : Below G w1 (wr.alloc (.cells #[.int .i64 4, .slice sa xset.length sc, .int .i64 xmn, .int .i64 xmx] 44)) := hb.alloc (by omega) _
            have hz0 : (wr.alloc (.cells #[.int .i64 4, .slice sa xset.length sc, .int .i64 xmn, .int .i64 xmx] 44)).heap.size = wr.heap.size + 1 := sz_alloc _ _
            clear hpl hA hBq el ol bl slM hsp hfl hkl hxl0 hK Hfo Hok hnl2 HV HNX HEL okq
            go_wp2_with fail
            refine (unhide HS1 _ hb0).mono ?_
            rintro e _ ⟨rfl, rfl⟩
            have f0 : (wr.alloc (.cells #[.int .i64 4, .slice sa xset.length sc, .int .i64 xmn, .int .i64 xmx] 44)).cell? ⟨wr.heap.size, 0, none⟩ = some (.int .i64 4) := (pushd_alloc wr _).news 0 _ rfl
            obtain ⟨wa, hwa⟩ : ∃ wa, wa = wr.alloc (.cells #[.int .i64 4, .slice sa xset.length sc, .int .i64 xmn, .int .i64 xmx] 44) := ⟨_, rfl⟩
            rw [← hwa] at hb0 hz0 hB2 f0 ⊢
            have hb_wa := hb0
            clear hwa hb0 HS1

            go_upto_region 19 with fail
            go_cut [9] (fun fv wx => wx.ownsRow wa.heap.size 3 1 fv A.length ((A.map Int.ofNat).map mI) ∧ Below wa.heap.size wa wx)
            case first =>
              go_region_with (first
                | (go_at_call 40; (with_reducible refine (unhide HL1 _ ?_).mono ?_); (first | exact hb_wa | exact hb_wa.drew | exact hb_wa.drew.drew); rintro e w7 ⟨rfl, rfl⟩)
                | (go_at_call 17; (with_reducible refine (unhide HE1 _ ?_).mono ?_); (first | exact hb_wa | exact hb_wa.drew | exact hb_wa.drew.drew); rintro e w8 ⟨v8, rfl, ho8, hb8⟩))
              all_goals go_wp2_with fail
              all_goals go_meet
              all_goals exact ⟨ho8, ⟨hb8.os, hb8.tape, hb8.output, hb8.size, hb8.block⟩⟩
            case rest =>
            obtain ⟨ho_wb, hk_wb⟩ := hcut
            obtain ⟨wb, hw_wb⟩ : ∃ wb, wb = wc := ⟨_, rfl⟩
            rw [← hw_wb] at ho_wb hk_wb ⊢
            clear hw_wb
            have hb_wb : Below G w1 wb := hb_wa.trans (hk_wb.mono (by omega))
            have hz_wb := hk_wb.size
            have HO_wb := hide ho_wb
            obtain ⟨fa, fc, rfl⟩ := own_is ho_wb
            clear ho_wb

            go_upto_region 20 with fail
            go_cut [10] (fun fv wx => wx.ownsRow wb.heap.size 3 1 fv Bq.length ((Bq.map Int.ofNat).map mI) ∧ Below wb.heap.size wb wx)
            case first =>
              go_region_with (first
                | (go_at_call 40; (with_reducible refine (unhide HL2 _ ?_).mono ?_); (first | exact hb_wb | exact hb_wb.drew | exact hb_wb.drew.drew); rintro e w7 ⟨rfl, rfl⟩)
                | (go_at_call 17; (with_reducible refine (unhide HE2 _ ?_).mono ?_); (first | exact hb_wb | exact hb_wb.drew | exact hb_wb.drew.drew); rintro e w8 ⟨v8, rfl, ho8, hb8⟩))
              all_goals go_wp2_with fail
              all_goals go_meet
              all_goals exact ⟨ho8, ⟨hb8.os, hb8.tape, hb8.output, hb8.size, hb8.block⟩⟩
            case rest =>
            obtain ⟨ho_wd, hk_wd⟩ := hcut
            obtain ⟨wd, hw_wd⟩ : ∃ wd, wd = wc := ⟨_, rfl⟩
            rw [← hw_wd] at ho_wd hk_wd ⊢
            clear hw_wd
            have hb_wd : Below G w1 wd := hb_wb.trans (hk_wd.mono (by omega))
            have hz_wd := hk_wd.size
            have HO_wd := hide ho_wd
            obtain ⟨ta, tc, rfl⟩ := own_is ho_wd
            clear ho_wd

            have hMd : Mx wd G N (mkd K) := by rw [unhide HK]; exact (((unhide HM).keep hB2 hle).keep (hk_wb.mono (by omega)) (Nat.le_refl _)).keep (hk_wd.mono (by omega)) (Nat.le_refl _)
            have HMd := hide hMd
            obtain ⟨_, _, e8, hFA⟩ := own_far (own_keep (unhide HO_wb) hk_wd (Nat.le_refl _)) rfl (by have := HAL; omega)
            cases e8
            obtain ⟨_, _, e9, hTB⟩ := own_far (unhide HO_wd) rfl (by have := HBL; omega)
            cases e9
            have HFA := hide hFA
            have HTB := hide hTB
            have hbd := hb_wd
            clear hMd hFA hTB HO_wb HO_wd HM hk_wb hk_wd HL1 HE1 HL2 HE2

            have hAl : A.length ≤ 3000 := HAL
            have hBl : Bq.length ≤ 3000 := HBL
            go_wp2_with fail
            go_loopw [12] (fun iv wr => ∃ x : Nat, x ≤ A.length ∧ iv = .int .i64 x ∧ Mx wr G N (mkd (K ++ [(A.take x, Bq)])) ∧ Chg (G + 1) (G + 1 + N) wd wr) (fun iv _ => A.length - (intOf iv).toNat)
            case atStart => exact ⟨0, Nat.zero_le _, rfl, (unhide HMd).same (fun i j _ _ => by rw [List.take_zero, mkd_none]), Chg.refl _ _ _⟩
            case round =>
              obtain ⟨x, hx, rfl, hM3, hc3⟩ := hrel
              have HM3 := hide hM3
              clear hM3
              by_cases hxl : x < A.length
              · have hxl' : (x : Int) < (A.length : Int) := by omega
                obtain ⟨fg, fo, rfl, hfg, hfg2, hfc⟩ := unhide HFA (by omega)
                have HFC := hide hfc
                have hax : A[x] < N := unhide HAN _ (List.getElem_mem hxl)
                clear hfc
                go_wp2_with fail
                go_loopw [13] (fun jv wr => ∃ y : Nat, y ≤ Bq.length ∧ jv = .int .i64 y ∧ Mx wr G N (mkd (K ++ [(A.take x, Bq)] ++ [([A[x]], Bq.take y)])) ∧ Chg (G + 1) (G + 1 + N) wd wr) (fun jv _ => Bq.length - (intOf jv).toNat)
                case atStart => exact ⟨0, Nat.zero_le _, rfl, (unhide HM3).same (fun i j _ _ => by rw [List.take_zero, mkd_none2]), hc3⟩
                case round =>
                  clear HM3 hc3
                  obtain ⟨y, hy, rfl, hM4, hc4⟩ := hrel
                  by_cases hyl : y < Bq.length
                  · have hyl' : (y : Int) < (Bq.length : Int) := by omega
                    obtain ⟨tg, tof, rfl, htg, htg2, htc⟩ := unhide HTB (by omega)
                    have hby : Bq[y] < N := unhide HBN _ (List.getElem_mem hyl)
                    obtain ⟨ax, hAX⟩ : ∃ ax, ax = A[x] := ⟨_, rfl⟩
                    obtain ⟨ly, hBY⟩ : ∃ ly, ly = Bq[y] := ⟨_, rfl⟩
                    have q1 := unhide HFC wr (hc4.block _ (Or.inr (by omega))) x hxl
                    have q2 := htc wr (hc4.block _ (Or.inr (by omega))) y hyl
                    rw [← hAX] at q1 hax
                    rw [← hBY] at q2 hby
                    have q3 := hM4.top.cell hax
                    have q4 := (hM4.row ax hax).cell hby
                    have q5 := (hM4.row ax hax).frozen ly
                    have hax' : (ax : Int) < (N : Int) := by omega
                    have hby' : (ly : Int) < (N : Int) := by omega
                    have HM4 := hide hM4
                    have HAX := hide hAX
                    have HBY := hide hBY
                    have HM5 : Hid (Mx (wr.setCell ⟨G + 1 + ax, ly, none⟩ (.bool true)) G N (mkd (K ++ [(A.take x, Bq)] ++ [([A[x]], Bq.take (y + 1))]))) := (hM4.put (j := ly) hax).same (fun i j _ _ => by rw [mkd_step _ _ _ _ _ hxl hyl, hAX, hBY])
                    have HC5 : Hid (Chg (G + 1) (G + 1 + N) wd (wr.setCell ⟨G + 1 + ax, ly, none⟩ (.bool true))) := hc4.put (by omega) (by omega) _
                    clear htc hM4 hAX hBY HM4 HAX HBY
                    go_wp2_with fail
                    go_region
                    all_goals
                      go_wp2
                      go_roundw
                      case rel =>
                        exact ⟨y + 1, by omega, by go_num, ⟨(unhide HM5).top, (unhide HM5).row⟩, ⟨(unhide HC5).os, (unhide HC5).tape, (unhide HC5).output, (unhide HC5).size, (unhide HC5).block⟩⟩
                      case measure => simp [intOf]; omega
                  · have ey : y = Bq.length := by omega
                    subst ey
                    rw [List.take_length] at hM4
                    have HM4 := hide hM4
                    clear hM4
                    go_wp2_with fail
                    go_roundw
                    case rel =>
                      exact ⟨x + 1, by omega, by go_num, (unhide HM4).same (fun i j _ _ => mkd_row _ _ _ _ hxl i j), hc4⟩
                    case measure => simp [intOf]; omega
              · have ex : x = A.length := by omega
                subst ex
                rw [List.take_length] at HM3
                go_wp2_with fail
                go_roundw
                case rel =>
                  exact ⟨k + 1, by omega, by go_num, by rw [unhide HE]; exact unhide HM3, hbd.trans (hc3.below.mono (by omega)), by rw [hc3.size]; omega⟩
                case measure => simp [intOf]; omega
        · have ek : k = xs.length := by omega
          subst ek
          rw [List.take_length] at HM
          have HQ : Hid (∃ G' cp, Ending.returned (.slice (some ⟨G, 0, none⟩) N N) = .returned (.slice (some ⟨G', 0, none⟩) N cp) ∧ w1.heap.size ≤ G' ∧ Mx wr G' N (mkd (oRun ini xs).ln) ∧ G' + 1 + N ≤ wr.heap.size ∧ Below w1.heap.size w1 wr) := ⟨G, N, rfl, hGw, unhide HM, hle, hb.mono hGw⟩
          clear HM
          go_wp2
          go_ret
          exact unhide HQ

end Go.Proofs.YtijejbdpagbmpaaDoor
