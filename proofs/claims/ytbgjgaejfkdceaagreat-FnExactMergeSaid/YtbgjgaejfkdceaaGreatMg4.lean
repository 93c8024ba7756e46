import Derived.Test.YtbgjgaejfkdceaaGreatMg3
import Derived.Deep.DeepCutAuto
namespace Go.Proofs.YtbgjgaejfkdceaaGreat
open Go.RowKit

/-- What Replace leaves of a store's row, its open lines beside it. -/
def RepP (e : Ending) (BX : Nat) (w9 w7 : World) (T : List Sv) (op : Value) (ps : List (Cl Int)) : Prop :=
  (∃ ga gn gc, e = .returned (.slice ga gn gc) ∧ SgRow (BX + 1) w7 (.slice ga gn gc) T) ∧ Below (BX + 1) w9 w7 ∧ LB (BX + 1) w7 op ps

theorem replace_store (BX H g cap kk : Nat) (A C : List Sv) (x y t : Sv) (w9 WA : World) (op : Value) (ps : List (Cl Int)) (hk : A.length = kk) (hrow : SgRow (BX + 1) w9 (.slice (some ⟨g, 0, none⟩) (kk + 2 + C.length) cap) (A ++ ([x, y] ++ C))) (hll : LB H w9 op ps) (hgH : g < H) (hBH : BX < H) (hlen : kk + 2 + C.length ≤ 1000)
    (ht : SegA t.l t.h w9 t.v t.g) (htb : BX + 1 ≤ t.l ∧ t.h ≤ w9.heap.size ∧ g < t.l) (ht1 : t.lv.oneCell' = true ∧ t.kv.oneCell' = true ∧ t.pv.oneCell' = true) (hP : Pushd w9 WA (.cells (cell4v t).toArray 56)) :
    Calls Tryz.prog 49 #[.slice (some ⟨g, 0, none⟩) (kk + 2 + C.length) cap, .int .i64 kk, .int .i64 ((kk : Int) + 2), .slice (some ⟨w9.heap.size, 0, none⟩) 1 1] WA fun e w7 => RepP e BX w9 w7 (A ++ ([t] ++ C)) op ps := by
  have hSS : (A ++ ([x, y] ++ C)).length = kk + 2 + C.length := by simp only [List.length_append, List.length_cons, List.length_nil]; omega
  obtain ⟨g', cap', R, e, hbg, hg, hnc, hcm, hL⟩ := hrow.cells (by omega)
  simp only [Value.slice.injEq, Option.some.injEq, Addr.mk.injEq, and_true] at e
  obtain ⟨rfl, -, rfl⟩ := e
  have hgz : g < w9.heap.size := (Array.getElem?_eq_some_iff.1 hg).1
  have hsz := hP.size
  have hold : ∀ s ∈ A ++ ([t] ++ C), s = t ∨ s ∈ A ++ ([x, y] ++ C) := fun s hs => by
    simp only [List.mem_append, List.mem_cons, List.not_mem_nil, or_false] at hs ⊢
    rcases hs with h | h | h
    · exact Or.inr (Or.inl h)
    · exact Or.inl h
    · exact Or.inr (Or.inr (Or.inr h))
  refine (replace_any (BX + 1) g cap kk w9.heap.size A C x y t R WA hk hbg (by rw [hP.old hgz]; exact hg) hnc hcm hL hlen hP.new (by omega) (fun s hs => ?_) (fun s hs => ?_) (fun s hs => ?_)).mono ?_
  · rcases hold s hs with rfl | h
    · exact ht.same (fun j _ j2 => hP.old (by have := htb.2.1; omega))
    · exact (hrow.seg s h).same (fun j _ j2 => hP.old (by have := (hrow.blk s h).2.1; omega))
  · rcases hold s hs with rfl | h
    · exact ⟨htb.1, by have := htb.2.1; omega, Or.inl htb.2.2⟩
    · exact ⟨(hrow.blk s h).1, by have := (hrow.blk s h).2.1; omega, (hrow.blk s h).2.2 g rfl⟩
  · rcases hold s hs with rfl | h
    · exact ht1
    · obtain ⟨a1, c1, a2, c2, a3, c3, e1, e2, e3⟩ := hrow.vals s h
      rw [e1, e2, e3]
      exact ⟨rfl, rfl, rfl⟩
  · rintro e w7 ⟨⟨v', rfl, hr⟩, ho⟩
    obtain ⟨ga, gc, rfl⟩ := hr.form
    have hb : Below (BX + 1) w9 w7 := (hP.below.mono (by omega)).trans (ho.below hbg)
    refine ⟨⟨_, _, _, rfl, hr⟩, hb, (hll.keepHi (fun j j1 j2 => ?_)).low (by omega)⟩
    rw [ho.block j (by omega), hP.old j2]

set_option maxHeartbeats 16000000 in
set_option maxRecDepth 100000 in
theorem mergeIn_any (BX H kk : Nat) (A C : List Sv) (x y : Sv) (oss : List (List Int)) (lr br : Int) (w : World) (hk : A.length = kk) (hst : StoreAt BX H w (A ++ ([x, y] ++ C)) oss lr br) (hlen : kk + 2 + C.length ≤ 1000)
    (hJ : Joins x.g.b x.g.xs x.g.ks x.g.pss y.g.b y.g.xs y.g.ks y.g.pss) (hi : SegIn x.g.b x.g.xs x.g.ks x.g.pss) (hi' : SegIn y.g.b y.g.xs y.g.ks y.g.pss) (hF : Fits x.g.b (x.g.xs ++ y.g.xs)) :
    Calls Tryz.prog 34 #[.pointer (some ⟨BX, 0, none⟩), .int .i64 kk] w fun e w' => e = .returned (.int .i64 0) ∧ Below BX w w' ∧ ∃ t ks pss, t.g = ⟨x.g.b, x.g.xs ++ y.g.xs, ks, pss⟩ ∧ SegR x.g.b (x.g.xs ++ y.g.xs) ks pss ∧ (ks.length ≤ 1048576 ∧ tot pss ≤ 1048576) ∧ StoreRd BX w' (A ++ ([t] ++ C)) oss := by
  obtain ⟨sg, op, ps, hbox, hrow, hll, hps, hgb, hsh, hBH, hHw⟩ := hst
  have hBXw := World.rowIs.lt hbox
  have hSS : (A ++ ([x, y] ++ C)).length = kk + 2 + C.length := by simp only [List.length_append, List.length_cons, List.length_nil]; omega
  have hx? : (A ++ ([x, y] ++ C))[kk]? = some x := by rw [List.getElem?_append_right (by omega), hk]; simp
  have hy? : (A ++ ([x, y] ++ C))[kk + 1]? = some y := by rw [List.getElem?_append_right (by omega), hk, show kk + 1 - kk = 1 by omega]; simp
  obtain ⟨g, cap, e1, hbg, hgw, d0, d1, d2, d3⟩ := hrow.at kk x hx?
  obtain ⟨g', cap', e1', -, -, d0', d1', d2', d3'⟩ := hrow.at (kk + 1) y hy?
  rw [e1] at e1'
  simp only [Value.slice.injEq, Option.some.injEq, Addr.mk.injEq, and_true, true_and] at e1'
  obtain ⟨rfl, rfl⟩ := e1'
  rw [hSS] at e1
  subst e1
  have hgH : g < H := hgb g rfl
  have HRX : Hid (SegRd w x.v x.g.b x.g.xs x.g.ks x.g.pss) := (hrow.seg x (List.mem_of_getElem? hx?)).rd (hrow.blk x (List.mem_of_getElem? hx?)).2.1
  have HRY : Hid (SegRd w y.v y.g.b y.g.xs y.g.ks y.g.pss) := (hrow.seg y (List.mem_of_getElem? hy?)).rd (hrow.blk y (List.mem_of_getElem? hy?)).2.1
  obtain ⟨x1a, x1c, x2a, x2c, x3a, x3c, ex1, ex2, ex3⟩ := hrow.vals x (List.mem_of_getElem? hx?)
  obtain ⟨y1a, y1c, y2a, y2c, y3a, y3c, ey1, ey2, ey3⟩ := hrow.vals y (List.mem_of_getElem? hy?)
  have HXV : x.v = .agg #[.int .i64 x.g.b, .slice x1a x.g.xs.length x1c, .slice x2a x.g.ks.length x2c, .slice x3a x.g.pss.length x3c] := by unfold Sv.v; rw [ex1, ex2, ex3]
  have HYV : y.v = .agg #[.int .i64 y.g.b, .slice y1a y.g.xs.length y1c, .slice y2a y.g.ks.length y2c, .slice y3a y.g.pss.length y3c] := by unfold Sv.v; rw [ey1, ey2, ey3]
  rw [HXV] at HRX
  rw [HYV] at HRY
  rw [ex1] at d1
  rw [ex2] at d2
  rw [ex3] at d3
  rw [ey1] at d1'
  rw [ey2] at d2'
  rw [ey3] at d3'
  clear ex1 ex2 ex3 ey1 ey2 ey3 HXV HYV hx? hy?
  have HROW := hide hrow
  obtain ⟨⟨xb, X, XK, XP⟩, hxg⟩ : ∃ q, q = x.g := ⟨_, rfl⟩
  obtain ⟨⟨yb, Y, YK, YP⟩, hyg⟩ : ∃ q, q = y.g := ⟨_, rfl⟩
  rw [← hxg] at hJ hi hF HRX d0 d1 d2 d3 ⊢
  rw [← hyg] at hJ hi' hF HRY d0' d1' d2' d3' ⊢
  dsimp only at hJ hi hi' hF HRX HRY d0 d1 d2 d3 d0' d1' d2' d3' ⊢
  clear hxg hyg
  have HJ := hide hJ
  have HI := hide hi
  have HI' := hide hi'
  have HFT := hide hF
  obtain ⟨hf0, hf1, hf2, -, hf4⟩ := hF
  rw [tot_app] at hf4
  rw [List.length_append] at hf1 hf2
  have HBX := hide hbox
  have HLL := hide hll
  have HPS := hide hps
  obtain ⟨m, hm⟩ : ∃ m, m = kk + 1 := ⟨_, rfl⟩
  rw [← hm] at d0' d1' d2' d3'
  have hw1 : IntKind.i64.wrap ((kk : Int) + 1) = (m : Int) := by rw [k64i (by omega) (by omega)]; omega
  have hw2 : IntKind.i64.wrap ((kk : Int) + 2) = (kk : Int) + 2 := k64i (by omega) (by omega)
  have hw3 : IntKind.i64.wrap (((kk + 2 + C.length : Nat) : Int) - 1) = ((kk + 1 + C.length : Nat) : Int) := by rw [k64i (by omega) (by omega)]; omega
  have hc0 : ¬ ((kk : Int) < 0) := by omega
  have hc1 : ¬ (((kk + 1 + C.length : Nat) : Int) ≤ (kk : Int)) := by omega
  have hin : kk < kk + 2 + C.length := by omega
  have hin' : m < kk + 2 + C.length := by omega
  have HLN := hide hlen
  obtain ⟨n, hn⟩ : ∃ n, n = kk + 2 + C.length := ⟨_, rfl⟩
  obtain ⟨n1, hn1⟩ : ∃ n1, n1 = kk + 1 + C.length := ⟨_, rfl⟩
  rw [← hn] at hw3 hin hin' hlen HBX hbox
  rw [← hn1] at hw3 hc1
  have HN := hide hn
  obtain ⟨Z, hZ⟩ : ∃ Z, Z = X ++ Y := ⟨_, rfl⟩
  rw [← hZ]
  have HZ := hide hZ
  clear hZ hn hm hn1
  clear hll hrow hps hJ hi hi' hgb hsh hSS
  obtain ⟨f0, f1, f2, f3, z0, z1, z2, z3⟩ := hbox.facts
  clear hbox
  have hS : Hid (∀ W' : World, Below w.heap.size w W' → W'.cell? ⟨BX, 0, none⟩ = some (.slice (some ⟨g, 0, none⟩) n cap) ∧ (W'.cell? ⟨g, kk * 4, none⟩ = some (.int .i64 xb) ∧ W'.cell? ⟨g, kk * 4 + 1, none⟩ = some (.slice x1a X.length x1c) ∧ W'.cell? ⟨g, kk * 4 + 2, none⟩ = some (.slice x2a XK.length x2c) ∧ W'.cell? ⟨g, kk * 4 + 3, none⟩ = some (.slice x3a XP.length x3c)) ∧
      (W'.cell? ⟨g, m * 4, none⟩ = some (.int .i64 yb) ∧ W'.cell? ⟨g, m * 4 + 1, none⟩ = some (.slice y1a Y.length y1c) ∧ W'.cell? ⟨g, m * 4 + 2, none⟩ = some (.slice y2a YK.length y2c) ∧ W'.cell? ⟨g, m * 4 + 3, none⟩ = some (.slice y3a YP.length y3c))) := fun W' hW => by
    have q : ∀ (b o : Nat), b < w.heap.size → W'.cell? ⟨b, o, none⟩ = w.cell? ⟨b, o, none⟩ := fun b o hb => hW.cell (p := ⟨b, o, none⟩) hb
    rw [q BX 0 hBXw, q g _ hgw, q g _ hgw, q g _ hgw, q g _ hgw, q g _ hgw, q g _ hgw, q g _ hgw, q g _ hgw]
    exact ⟨f0, ⟨d0, d1, d2, d3⟩, d0', d1', d2', d3'⟩
  have hBa : Below w.heap.size w w := Below.refl _ _
  have hBaa : ∀ o : Obj, Below w.heap.size w (w.alloc o) := fun o => below1 _ o
  go_enter Tryz.func34, Tryz.ntmps34
  go_upto_region 3 with fail
  go_cut [5, 6] (fun bx c wx => MrgBx bx c w wx xb Z)
  case first =>
    go_region_held3 (fun W' => W'.cell? ⟨BX, 0, none⟩ = some (.slice (some ⟨g, 0, none⟩) n cap) ∧ (W'.cell? ⟨g, kk * 4, none⟩ = some (.int .i64 xb) ∧ W'.cell? ⟨g, kk * 4 + 1, none⟩ = some (.slice x1a X.length x1c) ∧ W'.cell? ⟨g, kk * 4 + 2, none⟩ = some (.slice x2a XK.length x2c) ∧ W'.cell? ⟨g, kk * 4 + 3, none⟩ = some (.slice x3a XP.length x3c)) ∧
      (W'.cell? ⟨g, m * 4, none⟩ = some (.int .i64 yb) ∧ W'.cell? ⟨g, m * 4 + 1, none⟩ = some (.slice y1a Y.length y1c) ∧ W'.cell? ⟨g, m * 4 + 2, none⟩ = some (.slice y2a YK.length y2c) ∧ W'.cell? ⟨g, m * 4 + 3, none⟩ = some (.slice y3a YP.length y3c)))
      (first | (with_reducible exact unhide hS _ (hBda _)) | (with_reducible exact unhide hS _ hBd) | (with_reducible exact unhide hS _ (hBp _ _ _ _ _ (by omega))) | (with_reducible exact unhide hS _ (hBaa _)) | (with_reducible exact unhide hS _ hBa) | go_keep)
      (first
        | (go_at_call 48; refine (implMerge_fit _ _ xb yb X XP Y YP XK YK _ (by first | exact (unhide HRX).below ((Below.refl w.heap.size w).drew) (Nat.le_refl _) | exact (unhide HRX).below ((below1 w (.cells #[.int .i64 0, .slice none 0 0, .slice none 0 0, .slice none 0 0] 56)).drew) (Nat.le_refl _)) (by first | exact (unhide HRY).below ((Below.refl w.heap.size w).drew) (Nat.le_refl _) | exact (unhide HRY).below ((below1 w (.cells #[.int .i64 0, .slice none 0 0, .slice none 0 0, .slice none 0 0] 56)).drew) (Nat.le_refl _)) (unhide HI) (unhide HI') (by omega) (by omega) (unhide HJ) (unhide HFT)).mono ?_; rintro e w5 ⟨⟨v5, ks5, pss5, rfl, hsr5, hbd5, hF5⟩, hb5⟩; rw [← unhide HZ] at hsr5 hF5; have hBd : Below w.heap.size w w5 := (by first | exact ⟨hb5.os, hb5.tape, hb5.output, hb5.size, hb5.block⟩ | exact (below1 w (.cells #[.int .i64 0, .slice none 0 0, .slice none 0 0, .slice none 0 0] 56)).drew.trans (hb5.mono (by show w.heap.size ≤ (w.alloc _).heap.size; rw [sz_alloc]; omega))); have hBda : ∀ o : Obj, Below w.heap.size w (w5.alloc o) := fun o => hBd.alloc hBd.size o; have hBp : ∀ (N : Nat) (q0 q1 q2 q3 : Value), w.heap.size ≤ N → Below w.heap.size w ((((w5.setCell ⟨N, 0, none⟩ q0).setCell ⟨N, 1, none⟩ q1).setCell ⟨N, 2, none⟩ q2).setCell ⟨N, 3, none⟩ q3) := fun N q0 q1 q2 q3 hN => bput4 hBd hN q0 q1 q2 q3; have hsd := hBd.size; (try (have hsd2 : (w.alloc (.cells #[.int .i64 0, .slice none 0 0, .slice none 0 0, .slice none 0 0] 56)).heap.size ≤ w5.heap.size := hb5.size; rw [sz_alloc] at hsd2)); ((first | (have RZ5 := hide ((Row4.new w 56 (.int .i64 0) (.slice none 0 0) (.slice none 0 0) (.slice none 0 0)).below (show Below (w.alloc (.cells #[.int .i64 0, .slice none 0 0, .slice none 0 0, .slice none 0 0] 56)).heap.size (w.alloc (.cells #[.int .i64 0, .slice none 0 0, .slice none 0 0, .slice none 0 0] 56)) w5 from ⟨hb5.os, hb5.tape, hb5.output, hb5.size, hb5.block⟩) (by rw [sz_alloc]; exact Nat.lt_succ_self _))) | skip)); have HSR := hide hsr5; have HBD := hide hbd5; have HFA := hide hF5.a; obtain ⟨v1a, v1c, v2a, v2c, v3a, v3c, rfl⟩ := (hF5.rd (Nat.le_refl _)).val; (try obtain ⟨r0, r1, r2, r3, t0, t1, t2, t3⟩ := (unhide RZ5).facts); clear hsr5 hbd5 hF5))
    all_goals go_wp2_with fail
    all_goals go_meet
    all_goals first
      | exact ⟨_, ks5, pss5, _, _, _, _, _, _, _, _, rfl, rfl, unhide HSR, unhide HBD, Row4.new w5 _ _ _ _ _, (unhide HFA).same (fun j _ j2 => (below1 w5 _).block j j2), by first | exact Nat.le_refl _ | (show w.heap.size ≤ (w.alloc _).heap.size; rw [sz_alloc]; omega), by rw [sz_alloc]; omega, hBd.size, by rw [sz_alloc]; exact Nat.lt_succ_self _, hBda _⟩
      | exact ⟨_, ks5, pss5, _, _, _, _, _, _, _, _, rfl, rfl, unhide HSR, unhide HBD, (unhide RZ5).all _ _ _ _, (unhide HFA).putq (by first | omega | (show w.heap.size < (w.alloc _).heap.size; rw [sz_alloc]; omega)) _ _ _ _, by first | exact Nat.le_refl _ | (show w.heap.size ≤ (w.alloc _).heap.size; rw [sz_alloc]; omega), by rw [sz_put4]; exact Nat.le_refl _, by omega, by rw [sz_put4]; omega, hBp _ _ _ _ _ (by omega)⟩
  case rest =>
    obtain ⟨N, ks, pss, a1, c1, a2, c2, a3, c3, l, h, rfl, rfl, hsr, hbd, hrowN, hsa, hl, hh, hN, hN2, hE⟩ := hcut
    have HSR := hide hsr
    have HBD := hide hbd
    obtain ⟨w9, hw9⟩ : ∃ w9, w9 = wc := ⟨_, rfl⟩
    rw [← hw9] at hrowN hsa hh hN2 hE ⊢
    have hz9 := hE.size
    have HB9 := hide ((unhide HBX).below hE hBXw)
    have HRP : Hid (∀ WA : World, Pushd w9 WA (.cells #[.int .i64 xb, .slice a1 Z.length c1, .slice a2 ks.length c2, .slice a3 pss.length c3] 56) →
        Calls Tryz.prog 49 #[.slice (some ⟨g, 0, none⟩) n cap, .int .i64 kk, .int .i64 ((kk : Int) + 2), .slice (some ⟨w9.heap.size, 0, none⟩) 1 1] WA fun e w7 => RepP e BX w9 w7 (A ++ ([⟨.slice a1 Z.length c1, .slice a2 ks.length c2, .slice a3 pss.length c3, ⟨xb, Z, ks, pss⟩, l, h⟩] ++ C)) op ps) := fun WA hP => by
      rw [unhide HN]
      exact replace_store BX H g cap kk A C x y ⟨.slice a1 Z.length c1, .slice a2 ks.length c2, .slice a3 pss.length c3, ⟨xb, Z, ks, pss⟩, l, h⟩ w9 WA op ps hk ((unhide HROW).keep hE (Nat.le_refl _)) ((unhide HLL).keep hE (Nat.le_refl _)) hgH hBH (unhide HLN) hsa ⟨by show BX + 1 ≤ l; omega, hh, by show g < l; omega⟩ ⟨rfl, rfl, rfl⟩ hP
    obtain ⟨g0, g1, g2, g3, -⟩ := hrowN.facts
    clear hsr hbd hw9 hsa hS hBa hBaa f0 f1 f2 f3 z0 z1 z2 z3 d0 d1 d2 d3 d0' d1' d2' d3' hrowN
    obtain ⟨f0, f1, f2, f3, z0, z1, z2, z3⟩ := (unhide HB9).facts
    have hS9 : Hid (∀ W' : World, Below (BX + 1) w9 W' → W'.cell? ⟨BX, 0, none⟩ = some (.slice (some ⟨g, 0, none⟩) n cap) ∧ W'.frozen? ⟨BX, 0, none⟩ = false) := fun W' hW => by
      have := ((unhide HB9).below hW (Nat.lt_succ_self _)).facts
      exact ⟨this.1, this.2.2.2.2.1⟩
    obtain ⟨c9, z9⟩ := unhide hS9 _ ((below1 w9 (.cells #[.int .i64 xb, .slice a1 Z.length c1, .slice a2 ks.length c2, .slice a3 pss.length c3] 56)).mono (by omega))
    go_wp2_with fail
    go_region_law (
      (refine step_call_o 49 #[.tmp 44, .tmp 45, .tmp 47, .tmp 49] _ rfl #[.slice (some ⟨g, 0, none⟩) n cap, .int .i64 kk, .int .i64 ((kk : Int) + 2), .slice (some ⟨w9.heap.size, 0, none⟩) 1 1] rfl (by first | (simp [Act.eval]; done) | (simp [Act.eval, Act.put]; done)) (run_replace _ _ _ _) (unhide HRP _ ⟨rfl, rfl, rfl, rfl⟩) ?_; rintro e w7 ⟨⟨ha7, hn7, hc7, rfl, hr7⟩, hb7, hl7⟩; have HR7 := hide hr7; have HL7 := hide hl7; have HB7 := hide hb7; obtain ⟨c7, z7⟩ := unhide hS9 _ hb7; clear hr7 hl7 hb7; refine ⟨_, rfl, ?_⟩))
    all_goals
      go_wp2
      go_ret
      refine ⟨rfl, bput ((hE.mono (by omega)).trans ((unhide HB7).mono (by omega))) (Nat.le_refl _) _, ⟨.slice a1 Z.length c1, .slice a2 ks.length c2, .slice a3 pss.length c3, ⟨xb, Z, ks, pss⟩, l, h⟩, ks, pss, rfl, unhide HSR, unhide HBD, ?_⟩
      obtain ⟨oa, oc, rfl⟩ := own_is (unhide HLL).own
      exact ⟨_, _, _, _, _, _, ps, ((unhide HB9).below (unhide HB7) (Nat.lt_succ_self _)).put0, (unhide HR7).put (by omega), LL.keepHi (unhide HL7) (fun j j1 _ => Below.heap_setCell _ _ _ _ (by show j ≠ BX; omega)), unhide HPS⟩

end Go.Proofs.YtbgjgaejfkdceaaGreat
