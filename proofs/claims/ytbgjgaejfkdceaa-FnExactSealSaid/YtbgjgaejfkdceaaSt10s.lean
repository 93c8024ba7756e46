import Derived.Test.YtbgjgaejfkdceaaSt10
import Derived.Deep.DeepCutAuto
namespace Go.Proofs.Ytbgjgaejfkdceaa
open Go.RowKit

/-- The segment that was built, in a box. -/
def SealBox (bx c : Value) (w wx : World) (nl : Int) (oss : List (List Int)) : Prop :=
  ∃ (N : Nat) (ks : List Int) (pss : List (List Int)) (a1 : Option Addr) (c1 : Nat) (a2 : Option Addr) (c2 : Nat) (a3 : Option Addr) (c3 : Nat) (l h : Nat), bx = .pointer (some ⟨N, 0, none⟩) ∧ c = .int .i64 0 ∧ SegR nl oss ks pss ∧ (ks.length ≤ 1048576 ∧ tot pss ≤ 1048576) ∧ Row4 wx N 41 (.int .i64 nl) (.slice a1 oss.length c1) (.slice a2 ks.length c2) (.slice a3 pss.length c3) ∧
    SegA l h wx (.agg #[.int .i64 nl, .slice a1 oss.length c1, .slice a2 ks.length c2, .slice a3 pss.length c3]) ⟨nl, oss, ks, pss⟩ ∧ w.heap.size ≤ l ∧ h ≤ wx.heap.size ∧ w.heap.size ≤ N ∧ N < wx.heap.size ∧ Below w.heap.size w wx

theorem SegA.put4 {l h b : Nat} {w : World} {v : Value} {g : Sg} (H : SegA l h w v g) (hb : b < l) (d0 d1 d2 d3 : Value) : SegA l h ((((w.setCell ⟨b, 0, none⟩ d0).setCell ⟨b, 1, none⟩ d1).setCell ⟨b, 2, none⟩ d2).setCell ⟨b, 3, none⟩ d3) v g := by
  have q : ∀ (W : World) (o : Nat) (u : Value), SegA l h W v g → SegA l h (W.setCell ⟨b, o, none⟩ u) v g := fun W o u hW => hW.same (fun k k1 _ => Below.heap_setCell _ _ _ _ (by show k ≠ b; omega))
  exact q _ _ _ (q _ _ _ (q _ _ _ (q _ _ _ H)))

set_option maxHeartbeats 16000000 in
set_option maxRecDepth 100000 in
theorem seal_any (BX H : Nat) (ss : List Sv) (oss : List (List Int)) (lr br : Int) (w : World) (hst : StoreAt BX H w ss oss lr br) (hla : LastOk (ss.map Sv.g)) (hn : nL (ss.map Sv.g) + oss.length ≤ 1000) (hln : ss.length ≤ 1000) (hp : Plain oss) (ht : tot oss ≤ 20000) (hbo : ∀ x ∈ oss, Bytes x) :
    Calls Try.prog 19 #[.pointer (some ⟨BX, 0, none⟩)] w fun e w' => e = .returned (.int .i64 0) ∧ Below BX w w' ∧
      ((oss = [] ∧ StoreRd BX w' ss []) ∨ (oss ≠ [] ∧ ∃ t ks pss, t.g = ⟨((nL (ss.map Sv.g) : Nat) : Int), oss, ks, pss⟩ ∧ SegR ((nL (ss.map Sv.g) : Nat) : Int) oss ks pss ∧ (ks.length ≤ 1048576 ∧ tot pss ≤ 1048576) ∧ StoreRd BX w' (ss ++ [t]) [])) := by
  obtain ⟨j0, hj, hy0, hy1, hy2⟩ := info_parts Try.zinSeg
  have HST := hide hst
  obtain ⟨sg, op, ps, hbox, hrow, hll, hps, hgb, hsh, hBH, hHw⟩ := hst
  have HBX := hide hbox
  have HSG := hide hrow
  have HLA := hide hla
  have hBXw := World.rowIs.lt hbox
  have hop : SsAt mB 0 w.heap.size w op oss := by rw [← hps]; exact (LB.footR hll).all (Nat.le_refl _)
  have HOP := hide hop
  obtain ⟨oa, oc, rfl, hol, -⟩ := id hop
  obtain ⟨ga, gc, rfl⟩ := hrow.form
  obtain ⟨f0, f1, f2, f3, z0, z1, z2, z3⟩ := hbox.facts
  clear hbox hrow hll hla hop
  by_cases hz : oss = []
  · subst hz
    go_enter Try.func19, Try.ntmps19
    go_wp2
    go_ret
    exact ⟨rfl, Below.refl _ _, Or.inl ⟨by first | rfl | trivial, (unhide HST).rd⟩⟩
  have hpos : 0 < oss.length := List.length_pos_iff.2 hz
  have hpos' : ((oss.length : Int) == 0) = false := by rw [beq_eq_false_iff_ne]; omega
  have HNZ := hide hz
  clear hz
  obtain ⟨nl, hnl⟩ : ∃ nl, nL (ss.map Sv.g) = nl := ⟨_, rfl⟩
  rw [hnl] at hn ⊢
  have HNL := hide hnl
  clear hnl
  have HFT : Hid (Fits (nl : Int) oss) := ⟨by omega, by omega, by omega, hp, ht⟩
  have HBO := hide hbo
  clear hp hbo
  have hS : Hid (∀ W' : World, Below w.heap.size w W' → W'.cell? ⟨BX, 1, none⟩ = some (.slice oa oss.length oc)) := fun W' hW => ((unhide HBX).below hW hBXw).facts.2.1
  have hBa : Below w.heap.size w w := Below.refl _ _
  have hBaa : ∀ o : Obj, Below w.heap.size w (w.alloc o) := fun o => below1 _ o
  go_enter Try.func19, Try.ntmps19
  go_upto_region 3 with fail
  go_cut [3, 4] (fun bx c wx => SealBox bx c w wx nl oss)
  case first =>
    go_region_held3 (fun W' => W'.cell? ⟨BX, 1, none⟩ = some (.slice oa oss.length oc))
      (first | (with_reducible exact unhide hS _ (hBda _)) | (with_reducible exact unhide hS _ hBd) | (with_reducible exact unhide hS _ (hBp _ _ _ _ _ (by omega))) | (with_reducible exact unhide hS _ (hBba _)) | (with_reducible exact unhide hS _ hBb) | (with_reducible exact unhide hS _ (hBaa _)) | go_keep)
      (first
        | (go_at_call 36; refine (implBuild_fit (nl : Int) _ oss _ (by first | exact (unhide HOP).below hBb (Nat.le_refl _) | exact (unhide HOP).below (hBba _) (Nat.le_refl _)) (unhide HBO) (by omega) (by omega) (by omega) (by omega) (unhide HFT)).mono ?_; rintro e w5 ⟨⟨v5, ks5, pss5, rfl, hsr5, hbd5, hF5⟩, hb5⟩; have hBd : Below w.heap.size w w5 := (by first | exact hBb.trans (hb5.mono hBb.size) | exact (hBba _).trans (hb5.mono (hBba _).size)); have hBda : ∀ o : Obj, Below w.heap.size w (w5.alloc o) := fun o => hBd.alloc hBd.size o; have hBp : ∀ (N : Nat) (q0 q1 q2 q3 : Value), w.heap.size ≤ N → Below w.heap.size w ((((w5.setCell ⟨N, 0, none⟩ q0).setCell ⟨N, 1, none⟩ q1).setCell ⟨N, 2, none⟩ q2).setCell ⟨N, 3, none⟩ q3) := fun N q0 q1 q2 q3 hN => bput4 hBd hN q0 q1 q2 q3; have hsd := hb5.size; (try rw [sz_alloc] at hsd); ((first | (have RZ5 := hide ((unhide RZ3).below hb5 (by omega))) | (have RZ5 := hide ((Row4.new w3 41 (.int .i64 0) (.slice none 0 0) (.slice none 0 0) (.slice none 0 0)).below hb5 (by rw [sz_alloc]; exact Nat.lt_succ_self _))) | skip)); have HSR := hide hsr5; have HBD := hide hbd5; have HFA := hide hF5.a; obtain ⟨v1a, v1c, v2a, v2c, v3a, v3c, rfl⟩ := (hF5.rd (Nat.le_refl _)).val; (try obtain ⟨r0, r1, r2, r3, t0, t1, t2, t3⟩ := (unhide RZ5).facts); clear hsr5 hbd5 hF5)
        | (go_at_call 37; refine (sealedLines_any BX (BX + 1) _ (.slice oa oss.length oc) _ _ ss _ (by first | exact unhide HBX | exact Row4.alloc (unhide HBX) _) (by first | exact (unhide HSG).drew | exact ((unhide HSG).keep (below1 w _) (Nat.le_refl _)).drew) (unhide HLA) (by rw [unhide HNL]; omega) hln).mono ?_; rintro e w3 ⟨he3, hb3⟩; rw [unhide HNL] at he3; subst he3; have hBb : Below w.heap.size w w3 := (by first | exact ⟨hb3.os, hb3.tape, hb3.output, hb3.size, hb3.block⟩ | exact (below1 w (.cells #[.int .i64 0, .slice none 0 0, .slice none 0 0, .slice none 0 0] 41)).drew.trans (hb3.mono (by show w.heap.size ≤ (w.alloc _).heap.size; rw [sz_alloc]; omega))); have hBba : ∀ o : Obj, Below w.heap.size w (w3.alloc o) := fun o => hBb.alloc hBb.size o; have hsb := hBb.size; (try (have hsb2 : (w.alloc (.cells #[.int .i64 0, .slice none 0 0, .slice none 0 0, .slice none 0 0] 41)).heap.size ≤ w3.heap.size := hb3.size; rw [sz_alloc] at hsb2)); ((first | (have RZ3 := hide ((Row4.new w 41 (.int .i64 0) (.slice none 0 0) (.slice none 0 0) (.slice none 0 0)).below (show Below (w.alloc (.cells #[.int .i64 0, .slice none 0 0, .slice none 0 0, .slice none 0 0] 41)).heap.size (w.alloc (.cells #[.int .i64 0, .slice none 0 0, .slice none 0 0, .slice none 0 0] 41)) w3 from ⟨hb3.os, hb3.tape, hb3.output, hb3.size, hb3.block⟩) (by rw [sz_alloc]; exact Nat.lt_succ_self _))) | skip))))
    all_goals go_wp2_with fail
    all_goals go_meet
    all_goals first
      | exact ⟨_, ks5, pss5, _, _, _, _, _, _, _, _, rfl, rfl, unhide HSR, unhide HBD, Row4.new w5 _ _ _ _ _, (unhide HFA).same (fun j _ j2 => (below1 w5 _).block j j2), by first | exact hBb.size | exact (hBba _).size, by rw [sz_alloc]; omega, hBd.size, by rw [sz_alloc]; exact Nat.lt_succ_self _, hBda _⟩
      | exact ⟨_, ks5, pss5, _, _, _, _, _, _, _, _, rfl, rfl, unhide HSR, unhide HBD, (unhide RZ5).all _ _ _ _, (unhide HFA).put4 (by first | omega | (rw [sz_alloc]; omega)) _ _ _ _, by first | exact hBb.size | exact (hBba _).size, by rw [sz_put4]; exact Nat.le_refl _, by omega, by rw [sz_put4]; omega, hBp _ _ _ _ _ (by omega)⟩
  case rest =>
    obtain ⟨N, ks, pss, a1, c1, a2, c2, a3, c3, l, h, rfl, rfl, hsr, hbd, hrowN, hsa, hl, hh, hN, hN2, hE⟩ := hcut
    have HSR := hide hsr
    have HBD := hide hbd
    obtain ⟨w9, hw9⟩ : ∃ w9, w9 = wc := ⟨_, rfl⟩
    rw [← hw9] at hrowN hsa hh hN2 hE ⊢
    have hz9 := hE.size
    have HB9 := hide ((unhide HBX).below hE hBXw)
    have HSV9 := hide ((unhide HSG).keep hE (Nat.le_refl _))
    have HSA := hide hsa
    obtain ⟨g0, g1, g2, g3, -⟩ := hrowN.facts
    clear hsr hbd hw9 hsa hS hBa hBaa f0 f1 f2 f3 z0 z1 z2 z3
    obtain ⟨f0, f1, f2, f3, z0, z1, z2, z3⟩ := (unhide HB9).facts
    have hBX9 : BX + 1 ≤ w9.heap.size := by omega
    have HAPP : Hid (∀ (WA w7 : World) (gg cap' : Nat), w7.ownsRow (BX + 1) 41 4 (.slice (some ⟨gg, 0, none⟩) (ss.length + 1) cap') (ss.length + 1) (cellsV ss ++ [.int .i64 nl, .slice a1 oss.length c1, .slice a2 ks.length c2, .slice a3 pss.length c3]) →
        WA.grownBy w7 (Value.slice ga ss.length gc).ownBlock → ((Value.slice ga ss.length gc).ownBlock = some gg ∨ gg = w9.heap.size + 1) → Pushd w9 WA (.cells #[.int .i64 nl, .slice a1 oss.length c1, .slice a2 ks.length c2, .slice a3 pss.length c3] 41) →
        SgRow (BX + 1) w7 (.slice (some ⟨gg, 0, none⟩) (ss.length + 1) cap') (ss ++ [⟨.slice a1 oss.length c1, .slice a2 ks.length c2, .slice a3 pss.length c3, ⟨nl, oss, ks, pss⟩, l, h⟩]) ∧ Below (BX + 1) w9 w7) := fun WA w7 gg cap' r1 r2 r3 hPW => by
      have hA := hPW.below
      have hzA := hPW.size
      refine ⟨SgRow.app (D := w.heap.size) (unhide HSG) (by omega) (Below.mv (hE.trans (hA.mono hz9)) _) (Or.inr (Nat.le_refl _)) ((unhide HSA).same (fun j j1 j2 => hA.block j (by have h2 : j < h := j2; omega))) hl (by show h ≤ _; omega) r1 r2 ?_, ?_⟩
      · rcases r3 with r3 | r3
        · exact Or.inl r3.symm
        · exact Or.inr (by rw [r3, hzA]; rfl)
      · exact (hA.mono (by omega)).grown r2 (by omega) (fun j hj => ((unhide HSV9).own.lt j hj).1)
    have hS9 : Hid (∀ W' : World, Below (BX + 1) w9 W' → W'.cell? ⟨BX, 0, none⟩ = some (.slice ga ss.length gc) ∧ W'.cell? ⟨BX, 1, none⟩ = some (.slice oa oss.length oc) ∧ W'.frozen? ⟨BX, 0, none⟩ = false ∧ W'.frozen? ⟨BX, 1, none⟩ = false) := fun W' hW => by
      have := ((unhide HB9).below hW (Nat.lt_succ_self _)).facts
      exact ⟨this.1, this.2.1, this.2.2.2.2.1, this.2.2.2.2.2.1⟩
    obtain ⟨c9, c9', z9, z9'⟩ := unhide hS9 _ ((below1 w9 (.cells #[.int .i64 nl, .slice a1 oss.length c1, .slice a2 ks.length c2, .slice a3 pss.length c3] 41)).mono hBX9)
    go_wp2_with fail
    go_region_law (
      (refine step_append_lies _ rfl (.tmp 28) (.tmp 30) 34 rfl (BX + 1) 41 j0 (.agg #[.int .i64 0, .slice none 0 0, .slice none 0 0, .slice none 0 0]) 4 80 Try.underlying34 hj hy0 hy1 hy2 rfl (by decide) (.slice ga ss.length gc) ss.length (cellsV ss) (by first | (simp [Act.eval]; done) | (simp [Act.eval, Act.put]; done)) (by refine Pushd.own (w := w9) (o := .cells #[.int .i64 nl, .slice a1 oss.length c1, .slice a2 ks.length c2, .slice a3 pss.length c3] 41) ?_ (unhide HSV9).own; exact ⟨rfl, rfl, rfl, rfl⟩) ⟨w9.heap.size, 0, none⟩ 1 1 [.int .i64 nl, .slice a1 oss.length c1, .slice a2 ks.length c2, .slice a3 pss.length c3] (by first | (simp [Act.eval]; done) | (simp [Act.eval, Act.put]; done)) rfl (by refine Pushd.news (w := w9) (cs := #[.int .i64 nl, .slice a1 oss.length c1, .slice a2 ks.length c2, .slice a3 pss.length c3]) (t := 41) ?_; exact ⟨rfl, rfl, rfl, rfl⟩) (by intro u hu; simp only [List.mem_cons, List.not_mem_nil, or_false] at hu; rcases hu with rfl | rfl | rfl | rfl <;> rfl) (by decide) (by unfold maxLen; omega) (by omega) (by show BX + 1 ≤ (w9.alloc _).heap.size; rw [sz_alloc]; omega) (w9.heap.size + 1) (sz_alloc w9 _) (fun gg cap' w7 r1 r2 r3 r4 => ?_); have h7 := hide (unhide HAPP _ w7 gg cap' r1 r2 r3 (by exact ⟨rfl, rfl, rfl, rfl⟩)); obtain ⟨c7, c7', z7, z7'⟩ := unhide hS9 _ (unhide h7).2; clear r1 r2 r3 r4))
    all_goals
      go_wp2
      go_ret
      obtain ⟨r1, r2⟩ := unhide h7
      refine ⟨rfl, bput (bput ((hE.mono (by omega)).trans (r2.mono (by omega))) (Nat.le_refl _) _) (Nat.le_refl _) _, Or.inr ⟨unhide HNZ, _, ks, pss, ?_, unhide HSR, unhide HBD, _, _, _, _, _, _, [], (((unhide HB9).below r2 (Nat.lt_succ_self _)).put0).put1, (r1.put (by omega)).put (by omega), LL.nil, rfl⟩⟩
      rfl

end Go.Proofs.Ytbgjgaejfkdceaa
