import Derived.Test.YtbgjgaejfkdceaaGreatSt7
namespace Go.Proofs.YtbgjgaejfkdceaaGreat
open Go.RowKit

theorem takeRoom_yes (BX : Nat) (sg op v : Value) (lr br : Int) (xss : List (List Int)) (w : World) (hr : Row4 w BX 67 sg op (.int .i64 lr) (.int .i64 br)) (hv : SsAt mB 0 w.heap.size w v xss) (r0 : 0 ≤ lr) (r1 : lr ≤ 1000) (r2 : 0 ≤ br) (r3 : br ≤ 20000) (hT : tot xss ≤ 1048576) (hL : xss.length ≤ 1048576) (hc : (xss.length : Int) ≤ lr ∧ (tot xss : Int) ≤ br) :
    Calls Tryz.prog 41 #[.pointer (some ⟨BX, 0, none⟩), v] w fun e w' => e = .returned (.bool true) ∧ Row4 w' BX 67 sg op (.int .i64 (lr - xss.length)) (.int .i64 (br - tot xss)) ∧ Only BX w w' :=
  (takeRoom_any BX sg op v lr br xss w hr hv r0 r1 r2 r3 hT hL).mono (fun e w' h => by
    rcases h with ⟨-, h⟩ | ⟨h, -⟩
    · exact h
    · exact absurd hc h)
theorem takeRoom_no (BX : Nat) (sg op v : Value) (lr br : Int) (xss : List (List Int)) (w : World) (hr : Row4 w BX 67 sg op (.int .i64 lr) (.int .i64 br)) (hv : SsAt mB 0 w.heap.size w v xss) (r0 : 0 ≤ lr) (r1 : lr ≤ 1000) (r2 : 0 ≤ br) (r3 : br ≤ 20000) (hT : tot xss ≤ 1048576) (hL : xss.length ≤ 1048576) (hc : ¬ ((xss.length : Int) ≤ lr ∧ (tot xss : Int) ≤ br)) :
    Calls Tryz.prog 41 #[.pointer (some ⟨BX, 0, none⟩), v] w fun e w' => e = .returned (.bool false) ∧ Row4 w' BX 67 sg op (.int .i64 lr) (.int .i64 br) ∧ Only BX w w' :=
  (takeRoom_any BX sg op v lr br xss w hr hv r0 r1 r2 r3 hT hL).mono (fun e w' h => by
    rcases h with ⟨h, -⟩ | ⟨-, h⟩
    · exact absurd h hc
    · exact h)

/-- A store, in the box BX: its segments lie below H, its open lines from H on. -/
def StoreAt (BX H : Nat) (w : World) (ss : List Sv) (oss : List (List Int)) (lr br : Int) : Prop :=
  ∃ sg op ps, Row4 w BX 67 sg op (.int .i64 lr) (.int .i64 br) ∧ SgRow (BX + 1) w sg ss ∧ LB H w op ps ∧ ps.map Cl.xs = oss ∧ (∀ q, sg.ownBlock = some q → q < H) ∧ (∀ s ∈ ss, s.h ≤ H) ∧ BX < H ∧ H ≤ w.heap.size
/-- What storeOf answers. -/
def StoreGot (e : Ending) (w w' : World) (bss oss : List (List Int)) : Prop :=
  (∃ BX H ss, e = .returned (.tuple #[.pointer (some ⟨BX, 0, none⟩), .bool true]) ∧ StS bss oss (ss.map Sv.g) ∧ LastOk (ss.map Sv.g) ∧ w.heap.size ≤ BX ∧ StoreAt BX H w' ss oss (1000 - ((nL (ss.map Sv.g) : Nat) : Int) - oss.length) (20000 - ((nB (ss.map Sv.g) : Nat) : Int) - tot oss)) ∨ (e = .returned (.tuple #[.pointer none, .bool false]) ∧ StN bss oss)

theorem run_sealed (x : Value) (w : World) : Sem.run Tryz.prog (callFunc 55 #[x]) w = .ok (.enter 55 #[x]) w := by kernel_rfl
theorem SegRd.lines {w : World} {a1 a2 a3 : Option Addr} {n1 n2 n3 c1 c2 c3 : Nat} {b b' : Int} {xs pss : List (List Int)} {ks : List Int} (h : SegRd w (.agg #[.int .i64 b', .slice a1 n1 c1, .slice a2 n2 c2, .slice a3 n3 c3]) b xs ks pss) : SsAt mB 0 w.heap.size w (.slice a1 n1 c1) xs := by
  obtain ⟨lv, kv, pv, e, h1, -⟩ := h
  simp only [Value.agg.injEq, Array.mk.injEq, List.cons.injEq, and_true] at e
  obtain ⟨-, rfl, -⟩ := e
  exact h1
/-- A beginning that is too great can't be mended. -/
theorem Held.full {bss oss : List (List Int)} {k : Nat} {gs : List Sg} (h : Held bss k gs) (hf : 20000 < nB gs) : StN bss oss := h.p.full (Or.inr hf)

set_option maxHeartbeats 16000000 in
set_option maxRecDepth 100000 in
theorem storeOf_any (v : Value) (bss oss : List (List Int)) (w : World) (hv : StRd w v bss oss) (hby : ∀ x ∈ bss, Bytes x) (hbo : ∀ x ∈ oss, Bytes x) (t1 : tot bss ≤ 1048576) (l1 : bss.length ≤ 1048576) (t2 : tot oss ≤ 1048576) (l2 : oss.length ≤ 1048576) :
    Calls Tryz.prog 38 #[v] w fun e w' => StoreGot e w w' bss oss ∧ Below w.heap.size w w' := by
  obtain ⟨j0, hj, hy0, hy1, hy2⟩ := info_parts Tryz.zinSeg
  obtain ⟨i0, hi, hz0, hz1, hz2⟩ := info_parts Tryz.zinByteS
  obtain ⟨sv, ov, rfl, u1, u2⟩ := hv
  have U1 := hide u1
  have U2 := hide u2
  have HB := hide hby
  have HBO := hide hbo
  obtain ⟨a1, c1, rfl, -⟩ := id u1
  obtain ⟨a2, c2, rfl, -⟩ := id u2
  clear u1 u2 hby hbo
  have hb0 := below1 w (.cells #[.slice a1 bss.length c1, .slice a2 oss.length c2] 27)
  have RA := Row2.new w 27 (.slice a1 bss.length c1) (.slice a2 oss.length c2)
  have hzV : (w.alloc (.cells #[.slice a1 bss.length c1, .slice a2 oss.length c2] 27)).heap.size = w.heap.size + 1 := sz_alloc _ _
  go_enter Tryz.func38, Tryz.ntmps38
  go_wp2_with fail
  generalize w.alloc (.cells #[.slice a1 bss.length c1, .slice a2 oss.length c2] 27) = V at *
  refine (newStore_any V).mono ?_
  rintro e w1 ⟨rfl, rfl⟩
  have hb1 := below1 V (.cells #[.slice none 0 0, .slice none 0 0, .int .i64 1000, .int .i64 20000] 67)
  have RS := Row4.new V 67 (.slice none 0 0) (.slice none 0 0) (.int .i64 1000) (.int .i64 20000)
  have hzW : (V.alloc (.cells #[.slice none 0 0, .slice none 0 0, .int .i64 1000, .int .i64 20000] 67)).heap.size = V.heap.size + 1 := sz_alloc _ _
  generalize V.alloc (.cells #[.slice none 0 0, .slice none 0 0, .int .i64 1000, .int .i64 20000] 67) = W1 at *
  have hVz : w.heap.size + 1 ≤ V.heap.size := by omega
  have hVz' : V.heap.size ≤ w.heap.size + 1 := by omega
  have hWz : V.heap.size + 1 ≤ W1.heap.size := by omega
  obtain ⟨BX, hBX⟩ : ∃ BX, V.heap.size = BX := ⟨_, rfl⟩
  rw [hBX] at hb1 RS hVz hVz' hWz ⊢
  have hBX1 : V.heap.size ≤ BX := by omega
  have hBX2 : BX ≤ V.heap.size := by omega
  have HRA := hide RA
  clear RA hzV hzW hBX
  obtain ⟨x0, x1, -⟩ := Row2.facts4 (Row2.below (unhide HRA) hb1 (by omega))
  go_wp2_with fail
  go_loopw [15] (fun iv wr => ∃ (k : Nat) (ss : List Sv) (sg : Value), k ≤ bss.length ∧ iv = .int .i64 k ∧ Held bss k (ss.map Sv.g) ∧ LastOk (ss.map Sv.g) ∧ nB (ss.map Sv.g) ≤ 20000 ∧ Row4 wr BX 67 sg (.slice none 0 0) (.int .i64 (1000 - ((nL (ss.map Sv.g) : Nat) : Int))) (.int .i64 (20000 - ((nB (ss.map Sv.g) : Nat) : Int))) ∧ SgRow (BX + 1) wr sg ss ∧ Below BX V wr) (fun iv _ => bss.length - (intOf iv).toNat)
  case atStart => exact ⟨0, [], _, Nat.zero_le _, rfl, Held.start _, LastOk.nil, by simp [nB], by simpa [nL, nB] using RS, SgRow.nil _ _, hb1⟩
  case round =>
    obtain ⟨k, ss, sg, hk, rfl, hheld, hla, hnb, hbox, hrow, hb⟩ := hrel
    have hszr := hb.size
    have HH := hide hheld
    have HR := hide hrow
    have HLA := hide hla
    have HBX := hide hbox
    have hB : Below w.heap.size w wr := hb0.trans (hb.mono (by omega))
    have hBXr : BX < wr.heap.size := World.rowIs.lt hbox
    have hn1 : nL (ss.map Sv.g) ≤ 1000 := hheld.l
    have hn3 : ss.length ≤ 1000 := by have := hheld.n; rw [List.length_map] at this; omega
    obtain ⟨oa, oc, rfl⟩ := hrow.form
    obtain ⟨f0, f1, -⟩ := Row2.facts4 (Row2.below (unhide HRA) hb (by omega))
    clear hheld hrow hla hbox
    generalize hnl : nL (ss.map Sv.g) = nl at *
    generalize hnbb : nB (ss.map Sv.g) = nb at *
    have HNL := hide hnl
    have HNB := hide hnbb
    clear hnl hnbb
    by_cases hlt : k < bss.length
    · have hlt' : (k : Int) < (bss.length : Int) := by omega
      have U1r := (unhide U1).below hB (Nat.le_refl _)
      obtain ⟨_, _, e1, -, hc⟩ := U1r
      cases e1
      obtain ⟨b, off, rfl, hbn, hcell⟩ := hc (by omega)
      obtain ⟨s, hx, hs, hcs⟩ := hcell k hlt
      have HS := hide hs
      have HCS := hide hcs
      obtain ⟨sa, sc, rfl, -, -⟩ := hs
      have hxl := tot_get bss k
      have HBK := hide (unhide HB (bss[k]?.getD []) (by rw [List.getElem?_eq_getElem hlt]; exact List.getElem_mem _))
      have HST := hide (fun (g : Sg) (hd : DecG (bss[k]?.getD []) g) (hb : g.b = nl) => (unhide HH).step hlt hd (by rw [unhide HNL]; exact hb))
      have HNO : Hid (DecN (bss[k]?.getD []) → StN bss oss) := fun h => stO_none ((unhide HH).p.bad hlt h)
      have HNB2 : Hid (∀ g, DecG (bss[k]?.getD []) g → ¬ g.b = nl → StN bss oss) := fun g h hb => stO_none ((unhide HH).p.base hlt (decO_some h) (by rw [unhide HNL]; exact hb))
      clear hcell hc hcs f0 f1
      generalize bss[k]?.getD [] = x at *
      go_wp2_with fail
      refine (implDecode_any _ x wr (unhide HS) (unhide HCS) (unhide HBK) (by omega)).mono ?_
      rintro e w1 ⟨⟨v1, b1, xs, ks, pss, c, rfl, hdi, -, hF⟩, hb1⟩
      have hz1 := hb1.size
      have HF := hide hF.a
      have HRD := hide (hF.rd (Nat.le_refl _))
      obtain ⟨p1, q1, p2, q2, p3, q3, rfl⟩ := (hF.rd (Nat.le_refl _)).val
      have RB := Row4.new w1 56 (.int .i64 b1) (.slice p1 xs.length q1) (.slice p2 ks.length q2) (.slice p3 pss.length q3)
      have hV1 := below1 w1 (.cells #[.int .i64 b1, .slice p1 xs.length q1, .slice p2 ks.length q2, .slice p3 pss.length q3] 56)
      have hzV1 : (w1.alloc (.cells #[.int .i64 b1, .slice p1 xs.length q1, .slice p2 ks.length q2, .slice p3 pss.length q3] 56)).heap.size = w1.heap.size + 1 := sz_alloc _ _
      have hBV : Below wr.heap.size wr (w1.alloc (.cells #[.int .i64 b1, .slice p1 xs.length q1, .slice p2 ks.length q2, .slice p3 pss.length q3] 56)) := hb1.trans (hV1.mono hz1)
      clear hF hx hb1
      rcases hdi with ⟨hd, rfl⟩ | ⟨hd, rfl, rfl, rfl, rfl, rfl⟩
      · obtain ⟨fa, fb, fc, fd, fe⟩ := id hd.1
        by_cases hbb : b1 = (nl : Int)
        · have hbn' : (b1 != (nl : Int)) = false := by simp [hbb]
          have HS2 := hide (unhide HST ⟨b1, xs, ks, pss⟩ hd hbb)
          have HLA2 : Hid (LastOk (ss.map Sv.g ++ [⟨b1, xs, ks, pss⟩])) := LastOk.snoc (by rw [unhide HNL]; exact hbb)
          have hxl2 : (xs.length : Int) ≤ 1000 - (nl : Int) := by omega
          clear hbb hd HNO HNB2 HST
          go_wp2_with fail
          generalize w1.alloc (.cells #[.int .i64 b1, .slice p1 xs.length q1, .slice p2 ks.length q2, .slice p3 pss.length q3] 56) = V1 at *
          have hVV1 : w1.heap.size + 1 ≤ V1.heap.size := by omega
          have HzV1 := hide hzV1
          have HRB := hide RB
          have HRV := hide ((unhide HBX).below hBV hBXr)
          have HSV := hide ((unhide HR).keep hBV (Nat.le_refl _))
          have HLV := hide ((unhide HRD).below hV1 (Nat.le_refl _)).lines
          clear hzV1 RB
          obtain ⟨g0, g1, g2, g3, -⟩ := (unhide HRB).facts
          have hS : Hid (∀ W' : World, Mv V1.heap.size BX V1 W' → W'.cell? ⟨w1.heap.size, 0, none⟩ = some (.int .i64 b1) ∧ W'.cell? ⟨w1.heap.size, 1, none⟩ = some (.slice p1 xs.length q1)) := fun W' hW => by
            have := (Row4.of_block (unhide HRB) (hW.block w1.heap.size (by omega) (by omega))).facts
            exact ⟨this.1, this.2.1⟩
          by_cases hrm : (tot xs : Int) ≤ 20000 - (nb : Int)
          · first | (go_region_held3 (fun W' => W'.cell? ⟨w1.heap.size, 0, none⟩ = some (.int .i64 b1) ∧ W'.cell? ⟨w1.heap.size, 1, none⟩ = some (.slice p1 xs.length q1))
              (first | (with_reducible exact unhide hS _ hM9) | (with_reducible exact unhide hS _ hM8) | go_keep)
              (first
                | (go_at_call 55; refine (sealedLines_any BX (BX + 1) _ (.slice none 0 0) _ _ ss _ (by exact unhide HRV) (by exact (unhide HSV).drew) (unhide HLA) (by rw [unhide HNL]; exact hn1) hn3).mono ?_; rintro e w8 ⟨he8, hb8⟩; rw [unhide HNL] at he8; subst he8; have hB8 : Below V1.heap.size V1 w8 := ⟨hb8.os, hb8.tape, hb8.output, hb8.size, hb8.block⟩; have hM8 : Mv V1.heap.size BX V1 w8 := Below.mv hB8 BX; have hz8 := hB8.size; clear hb8)
                | (go_at_call 41; refine (takeRoom_yes BX _ (.slice none 0 0) _ _ _ xs _ (by exact (unhide HRV).below hB8 (by omega)) (by exact (unhide HLV).below hB8 (Nat.le_refl _)) (by omega) (by omega) (by omega) (by omega) (by omega) (by omega) ⟨hxl2, hrm⟩).mono ?_; rintro e w9 ⟨rfl, hbx9, ho9⟩; have hM9 : Mv V1.heap.size BX V1 w9 := hM8.trans (⟨ho9.os, ho9.tape, ho9.output, Nat.le_of_eq ho9.size.symm, fun j _ hj => ho9.block j hj⟩); have HB9 := hide hbx9; have hz9 : w8.heap.size ≤ w9.heap.size := Nat.le_of_eq ho9.size.symm; clear hbx9 ho9))) | fail
            have hMr : Mv wr.heap.size BX wr w9 := (Below.mv hBV BX).trans (hM9.mono hBV.size)
            have hzr9 : V1.heap.size ≤ w9.heap.size := by omega
            have hzrV : wr.heap.size ≤ w1.heap.size := hz1
            have HSG := hide ((unhide HF).same (w' := w9) (fun j j1 j2 => by rw [hM9.block j (by omega) (by omega)]; exact hV1.block j (by omega)))
            have HSV9 := hide ((unhide HSV).mv hM9 (Nat.le_refl _) (Or.inl (Nat.lt_succ_self _)))
            have HRB9 := hide (Row4.of_block (unhide HRB) (hM9.block w1.heap.size (by omega) (by omega)))
            clear g0 g1 g2 g3
            obtain ⟨g0, g1, g2, g3, -⟩ := (unhide HRB9).facts
            obtain ⟨y0, y1, y2, y3, z0, z1, z2, z3⟩ := (unhide HB9).facts
            have HAPP : Hid (∀ (WA w7 : World) (gg cap' : Nat), w7.ownsRow (BX + 1) 56 4 (.slice (some ⟨gg, 0, none⟩) (ss.length + 1) cap') (ss.length + 1) (cellsV ss ++ [.int .i64 b1, .slice p1 xs.length q1, .slice p2 ks.length q2, .slice p3 pss.length q3]) →
                WA.grownBy w7 (Value.slice oa ss.length oc).ownBlock → ((Value.slice oa ss.length oc).ownBlock = some gg ∨ gg = w9.heap.size + 1) → Pushd w9 WA (.cells #[.int .i64 b1, .slice p1 xs.length q1, .slice p2 ks.length q2, .slice p3 pss.length q3] 56) →
                SgRow (BX + 1) w7 (.slice (some ⟨gg, 0, none⟩) (ss.length + 1) cap') (ss ++ [⟨.slice p1 xs.length q1, .slice p2 ks.length q2, .slice p3 pss.length q3, ⟨b1, xs, ks, pss⟩, wr.heap.size, w1.heap.size⟩]) ∧ Below (BX + 1) w9 w7) := fun WA w7 gg cap' r1 r2 r3 hPW => by
              have hA := hPW.below
              have hzA := hPW.size
              refine ⟨SgRow.app (D := BX) (unhide HR) (by omega) (hMr.trans ((Below.mv hA BX).mono (by omega))) (Or.inl (Nat.lt_succ_self _)) ((unhide HSG).same (fun j j1 j2 => hA.block j (by have h2 : j < w1.heap.size := j2; omega))) (Nat.le_refl _) (by show w1.heap.size ≤ _; omega) r1 r2 ?_, ?_⟩
              · rcases r3 with r3 | r3
                · exact Or.inl r3.symm
                · exact Or.inr (by rw [r3, hzA]; rfl)
              · exact (hA.mono (by omega)).grown r2 (by omega) (fun j hj => ((unhide HSV9).own.lt j hj).1)
            have hS9 : Hid (∀ W' : World, Below (BX + 1) w9 W' → W'.cell? ⟨BX, 0, none⟩ = some (.slice oa ss.length oc) ∧ W'.frozen? ⟨BX, 0, none⟩ = false) := fun W' hW => by
              have := ((unhide HB9).below hW (Nat.lt_succ_self _)).facts
              exact ⟨this.1, this.2.2.2.2.1⟩
            have hBX9 : BX + 1 ≤ w9.heap.size := by omega
            obtain ⟨c9, z9⟩ := unhide hS9 _ ((below1 w9 (.cells #[.int .i64 b1, .slice p1 xs.length q1, .slice p2 ks.length q2, .slice p3 pss.length q3] 56)).mono hBX9)
            go_wp2_with fail
            go_region_law (
              (refine step_append_lies _ rfl (.tmp 44) (.tmp 46) 40 rfl (BX + 1) 56 j0 (.agg #[.int .i64 0, .slice none 0 0, .slice none 0 0, .slice none 0 0]) 4 80 Tryz.underlying40 hj hy0 hy1 hy2 rfl (by decide) (.slice oa ss.length oc) ss.length (cellsV ss) (by first | (simp [Act.eval]; done) | (simp [Act.eval, Act.put]; done)) (by refine Pushd.own (w := w9) (o := .cells #[.int .i64 b1, .slice p1 xs.length q1, .slice p2 ks.length q2, .slice p3 pss.length q3] 56) ?_ (unhide HSV9).own; exact ⟨rfl, rfl, rfl, rfl⟩) ⟨w9.heap.size, 0, none⟩ 1 1 [.int .i64 b1, .slice p1 xs.length q1, .slice p2 ks.length q2, .slice p3 pss.length q3] (by first | (simp [Act.eval]; done) | (simp [Act.eval, Act.put]; done)) rfl (by refine Pushd.news (w := w9) (cs := #[.int .i64 b1, .slice p1 xs.length q1, .slice p2 ks.length q2, .slice p3 pss.length q3]) (t := 56) ?_; exact ⟨rfl, rfl, rfl, rfl⟩) (by intro u hu; simp only [List.mem_cons, List.not_mem_nil, or_false] at hu; rcases hu with rfl | rfl | rfl | rfl <;> rfl) (by decide) (by unfold maxLen; omega) (by omega) (by show BX + 1 ≤ (w9.alloc _).heap.size; rw [sz_alloc]; omega) (w9.heap.size + 1) (sz_alloc w9 _) (fun gg cap' w7 r1 r2 r3 r4 => ?_); have h7 := hide (unhide HAPP _ w7 gg cap' r1 r2 r3 (by exact ⟨rfl, rfl, rfl, rfl⟩)); obtain ⟨c7, z7⟩ := unhide hS9 _ (unhide h7).2; clear r1 r2 r3 r4))
            all_goals
              go_wp2
              obtain ⟨r1, r2⟩ := unhide h7
              refine ⟨⟨k + 1, _, _, by omega, by go_num, by rw [map_push]; exact unhide HS2, by rw [map_push]; exact unhide HLA2, by rw [map_push, nB_app, nB_one, unhide HNB]; show nb + tot xs ≤ 20000; omega, ?_, r1.put (by omega), ?_⟩, by simp [intOf]; omega⟩
              · have h8 := ((unhide HB9).below r2 (Nat.lt_succ_self _)).put0 (u := .slice (some ⟨gg, 0, none⟩) (ss.length + 1) cap')
                have e1 : (1000 : Int) - ((nL ((ss ++ [(⟨.slice p1 xs.length q1, .slice p2 ks.length q2, .slice p3 pss.length q3, ⟨b1, xs, ks, pss⟩, wr.heap.size, w1.heap.size⟩ : Sv)]).map Sv.g) : Nat) : Int) = 1000 - (nl : Int) - (xs.length : Int) := by rw [map_push, nL_app, nL_one, unhide HNL]; push_cast; show (1000 : Int) - (nl + xs.length) = _; omega
                have e2 : (20000 : Int) - ((nB ((ss ++ [(⟨.slice p1 xs.length q1, .slice p2 ks.length q2, .slice p3 pss.length q3, ⟨b1, xs, ks, pss⟩, wr.heap.size, w1.heap.size⟩ : Sv)]).map Sv.g) : Nat) : Int) = 20000 - (nb : Int) - (tot xs : Int) := by rw [map_push, nB_app, nB_one, unhide HNB]; push_cast; show (20000 : Int) - (nb + tot xs) = _; omega
                rw [e1, e2]
                exact h8
              · exact bput (((hb.trans ((hMr.below (by omega)).mono (Nat.le_refl _)))).trans (r2.mono (by omega))) (Nat.le_refl _) _
          · have HS3 : Hid (StN bss oss) := (unhide HS2).full (by rw [nB_app, nB_one, unhide HNB]; show 20000 < nb + tot xs; omega)
            go_region_held3 (fun W' => W'.cell? ⟨w1.heap.size, 0, none⟩ = some (.int .i64 b1) ∧ W'.cell? ⟨w1.heap.size, 1, none⟩ = some (.slice p1 xs.length q1))
              (first | (with_reducible exact unhide hS _ hM9) | (with_reducible exact unhide hS _ hM8) | go_keep)
              (first
                | (go_at_call 55; refine (sealedLines_any BX (BX + 1) _ (.slice none 0 0) _ _ ss _ (by exact unhide HRV) (by exact (unhide HSV).drew) (unhide HLA) (by rw [unhide HNL]; exact hn1) hn3).mono ?_; rintro e w8 ⟨he8, hb8⟩; rw [unhide HNL] at he8; subst he8; have hB8 : Below V1.heap.size V1 w8 := ⟨hb8.os, hb8.tape, hb8.output, hb8.size, hb8.block⟩; have hM8 : Mv V1.heap.size BX V1 w8 := Below.mv hB8 BX; have hz8 := hB8.size; clear hb8)
                | (go_at_call 41; refine (takeRoom_no BX _ (.slice none 0 0) _ _ _ xs _ (by exact (unhide HRV).below hB8 (by omega)) (by exact (unhide HLV).below hB8 (Nat.le_refl _)) (by omega) (by omega) (by omega) (by omega) (by omega) (by omega) (fun h => by have := h.2; omega)).mono ?_; rintro e w9 ⟨rfl, hbx9, ho9⟩; have hM9 : Mv V1.heap.size BX V1 w9 := hM8.trans (⟨ho9.os, ho9.tape, ho9.output, Nat.le_of_eq ho9.size.symm, fun j _ hj => ho9.block j hj⟩); clear hbx9 ho9))
            have hMr : Mv wr.heap.size BX wr w9 := (Below.mv hBV BX).trans (hM9.mono hBV.size)
            have hBf : Below w.heap.size w w9 := hB.trans ((hMr.below (by omega)).mono (by omega))
            go_wp2
            go_ret2
            exact ⟨Or.inr ⟨rfl, unhide HS3⟩, hBf⟩
        · have HS2 := hide (unhide HNB2 ⟨b1, xs, ks, pss⟩ hd hbb)
          have hbn' : (b1 != (nl : Int)) = true := by simp [hbb]
          clear hbb hd
          go_wp2_with fail
          generalize w1.alloc (.cells #[.int .i64 b1, .slice p1 xs.length q1, .slice p2 ks.length q2, .slice p3 pss.length q3] 56) = V1 at *
          have HRB := hide RB
          have HRV := hide ((unhide HBX).below hBV hBXr)
          have HSV := hide ((unhide HR).keep hBV (Nat.le_refl _))
          have hVV1 : w1.heap.size + 1 ≤ V1.heap.size := by omega
          clear hzV1 RB
          have hS : Hid (∀ W' : World, Mv V1.heap.size BX V1 W' → W'.cell? ⟨w1.heap.size, 0, none⟩ = some (.int .i64 b1) ∧ W'.cell? ⟨w1.heap.size, 1, none⟩ = some (.slice p1 xs.length q1)) := fun W' hW => by
            have := (Row4.of_block (unhide HRB) (hW.block w1.heap.size (by omega) (by omega))).facts
            exact ⟨this.1, this.2.1⟩
          obtain ⟨g0, g1, g2, g3, -⟩ := (unhide HRB).facts
          first | (go_region_with ((first | (go_at_call 55; refine (sealedLines_any BX (BX + 1) _ (.slice none 0 0) _ _ ss _ (by exact unhide HRV) (by exact (unhide HSV).drew) (unhide HLA) (by rw [unhide HNL]; exact hn1) hn3).mono ?_; rintro e w8 ⟨he8, hb8⟩; rw [unhide HNL] at he8; subst he8; have hB8 : Below V1.heap.size V1 w8 := ⟨hb8.os, hb8.tape, hb8.output, hb8.size, hb8.block⟩; have hM8 : Mv V1.heap.size BX V1 w8 := Below.mv hB8 BX; obtain ⟨c8, c8'⟩ := unhide hS _ hM8; clear hb8)))) | fail
          all_goals
            have hBf : Below w.heap.size w w8 := hB.trans ((hBV.trans (hB8.mono hBV.size)).mono (by omega))
            go_wp2
            go_ret2
            exact ⟨Or.inr ⟨rfl, unhide HS2⟩, hBf⟩
      · have HS2 := hide (unhide HNO (decO_none hd))
        have hBf : Below w.heap.size w (w1.alloc (.cells #[.int .i64 0, .slice p1 ([] : List (List Int)).length q1, .slice p2 ([] : List Int).length q2, .slice p3 ([] : List (List Int)).length q3] 56)) := hB.trans (hBV.mono (by omega))
        obtain ⟨g0, g1, g2, g3, -⟩ := RB.facts
        clear hd
        go_wp2_with fail
        go_quiet (fail)
        go_wp2
        go_ret2
        exact ⟨Or.inr ⟨rfl, unhide HS2⟩, below_drewN hBf _⟩
    · have hlt' : ¬ (k : Int) < (bss.length : Int) := by omega
      obtain rfl : k = bss.length := by omega
      have HD := hide ((unhide HH).p.done)
      obtain ⟨w4, hw4⟩ : ∃ w4, w4 = wr := ⟨_, rfl⟩
      rw [← hw4] at hb hszr HR HBX hB hBXr f0 f1 ⊢
      clear hw4
      by_cases hrm : (oss.length : Int) ≤ 1000 - (nl : Int) ∧ (tot oss : Int) ≤ 20000 - (nb : Int)
      · go_wp2_with fail
        refine (takeRoom_yes BX _ (.slice none 0 0) _ _ _ oss w4 (unhide HBX) ((unhide U2).below hB (Nat.le_refl _)) (by omega) (by omega) (by omega) (by omega) t2 l2 hrm).mono ?_
        rintro e w5 ⟨rfl, hbx5, ho5⟩
        have hM5 : Mv w4.heap.size BX w4 w5 := ho5.mv _
        have hz5 : w4.heap.size ≤ w5.heap.size := hM5.size
        have HB5 := hide hbx5
        have HR5 := hide ((unhide HR).mv hM5 (Nat.le_refl _) (Or.inl (Nat.lt_succ_self _)))
        have hB5 : Below w.heap.size w w5 := hB.trans ((hM5.below (by omega)).mono (by omega))
        have HRA5 := hide (Row2.below (unhide HRA) (hb.trans (hM5.below (by omega))) (by omega))
        clear f0 f1
        obtain ⟨f0, f1, -⟩ := Row2.facts4 (unhide HRA5)
        clear hbx5 ho5
        go_wp2_with fail
        refine (containsFunc_any _ oss w5 ((unhide U2).below hB5 (Nat.le_refl _)) (unhide HBO) l2).mono ?_
        rintro e w6 ⟨hr, rfl⟩
        rcases hr.cases with ⟨rfl, hm⟩ | ⟨rfl, hm⟩
        · have HS2 : Hid (StN bss oss) := stO_no (unhide HD) (fun h => hm h.1)
          clear hm hr
          go_wp2
          go_ret2
          exact ⟨Or.inr ⟨rfl, unhide HS2⟩, hB5⟩
        · have HS2 : Hid (StS bss oss (ss.map Sv.g)) := stO_yes (unhide HD) ⟨Classical.not_not.1 hm, by rw [unhide HNL]; omega, by rw [unhide HNB]; omega⟩
          clear hm hr
          have hBX5 : BX < w6.heap.size := by omega
          go_wp2_with fail
          go_loopw [64] (fun iv wr => ∃ (k : Nat) (op : Value) (ps : List (Cl Int)), k ≤ oss.length ∧ ps.length ≤ k ∧ iv = .int .i64 k ∧ ps.map Cl.xs = oss.take k ∧ Row4 wr BX 67 (.slice oa ss.length oc) op (.int .i64 (1000 - (nl : Int) - oss.length)) (.int .i64 (20000 - (nb : Int) - tot oss)) ∧ LB w6.heap.size wr op ps ∧ Mv w6.heap.size BX w6 wr) (fun iv _ => oss.length - (intOf iv).toNat)
          case atStart => exact ⟨0, _, [], Nat.zero_le _, Nat.le_refl _, rfl, by simp, unhide HB5, LL.nil, Mv.refl _ _ _⟩
          case round =>
            obtain ⟨k, op, ps, hk, hpk, rfl, hln, hbox, hll, hmv⟩ := hrel
            have hszr := hmv.size
            have Hll := hide hll
            have Hln := hide hln
            have Hbx := hide hbox
            have HMV := hide hmv
            obtain ⟨la, lc, rfl⟩ := own_is hll.own
            obtain ⟨y0, y1, y2, y3, z0, z1, z2, z3⟩ := hbox.facts
            have hBw : Below w.heap.size w wr := hB5.trans ((hmv.below (by omega)).mono (by omega))
            clear hll hln hbox hmv
            by_cases hlt : k < oss.length
            · have hlt' : (k : Int) < (oss.length : Int) := by omega
              obtain ⟨_, _, e1, -, hc⟩ := (unhide U2).below hBw (Nat.le_refl _)
              cases e1
              obtain ⟨b, off, rfl, hbn, hcell⟩ := hc (by omega)
              obtain ⟨s, hx, hs, -⟩ := hcell k hlt
              have Hs := hide hs
              have ht := tot_get oss k
              have Hsn := hide (take_snoc oss [] k hlt)
              obtain ⟨sa, sc, rfl, -, -⟩ := hs
              clear hcell hc
              generalize oss[k]?.getD [] = x at *
              have hS : Hid (∀ W' : World, Below wr.heap.size wr W' → W'.cell? ⟨BX, 1, none⟩ = some (.slice la ps.length lc) ∧ W'.frozen? ⟨BX, 1, none⟩ = false) := fun W' hW => by
                have := ((unhide Hbx).below hW (by omega)).facts
                exact ⟨this.2.1, this.2.2.2.2.2.1⟩
              have hS2 : Hid (∀ W' : World, Below w6.heap.size wr W' → W'.cell? ⟨BX, 1, none⟩ = some (.slice la ps.length lc) ∧ W'.frozen? ⟨BX, 1, none⟩ = false) := fun W' hW => by
                have := ((unhide Hbx).below hW (by omega)).facts
                exact ⟨this.2.1, this.2.2.2.2.2.1⟩
              go_wp2_with fail
              go_region_law (
                (first
                  | (refine step_call_o 58 #[.tmp 73] _ rfl #[.slice sa x.length sc] rfl (by first | (simp [Act.eval]; done) | (simp [Act.eval, Act.put]; done)) (run_bclone _) (bclone_any _ x _ (by exact unhide Hs) (by omega)) ?_; rintro e w5 ⟨⟨v5, rfl, hown5⟩, hb5⟩; have hB5 : Below wr.heap.size wr w5 := ⟨hb5.os, hb5.tape, hb5.output, hb5.size, hb5.block⟩; have Hown5 : Hid (w5.ownsRow wr.heap.size 5 1 v5 x.length (x.map mB)) := hown5; have hz5 := hB5.size; have HLk := hide ((unhide Hll).keep hB5 (Nat.le_refl _)); have Hpu := hide (LB.push (unhide Hll) (by omega) hB5 (Below.refl _ wr) (unhide Hown5)); obtain ⟨ya, yc, rfl⟩ := own_is hown5; obtain ⟨c5, z5⟩ := unhide hS _ hB5; obtain ⟨c6, z6⟩ := unhide hS _ (hB5.alloc hz5 (.cells #[.slice ya x.length yc] 25)); clear hown5 hb5; refine ⟨_, rfl, ?_⟩)
                  | (refine step_append_lies _ rfl (.tmp 72) (.tmp 75) 22 rfl w6.heap.size 25 i0 (.slice none 0 0) 1 24 Tryz.underlying22 hi hz0 hz1 hz2 rfl (by decide) (.slice la ps.length lc) ps.length (ps.map Cl.v) (by first | (simp [Act.eval]; done) | (simp [Act.eval, Act.put]; done)) (by refine Pushd.own (w := w5) (o := .cells #[.slice ya x.length yc] 25) ?_ (unhide HLk).own; exact ⟨rfl, rfl, rfl, rfl⟩) ⟨w5.heap.size, 0, none⟩ 1 1 [.slice ya x.length yc] (by first | (simp [Act.eval]; done) | (simp [Act.eval, Act.put]; done)) rfl (by refine Pushd.news (w := w5) (cs := #[.slice ya x.length yc]) (t := 25) ?_; exact ⟨rfl, rfl, rfl, rfl⟩) (by intro u hu; simp at hu; subst hu; rfl) (by decide) (by unfold maxLen; omega) (by omega) (by show w6.heap.size ≤ (w5.alloc _).heap.size; rw [sz_alloc]; omega) (w5.heap.size + 1) (sz_alloc w5 _) (fun gg cap' w7 q1 q2 q3 q4 => ?_); have h7 := hide (unhide Hpu w7 (.slice (some ⟨gg, 0, none⟩) (ps.length + 1) cap') q1 q2); have hB7 : Below w6.heap.size wr w7 := (by obtain ⟨_, _, _, r⟩ := unhide h7; exact r); obtain ⟨c7, z7⟩ := unhide hS2 _ hB7; clear q1 q2 q3 q4)))
              all_goals
                go_wp2
                obtain ⟨p, r1, r2, r3⟩ := unhide h7
                exact ⟨⟨k + 1, _, ps ++ [p], by omega, by simp; omega, by go_num, by rw [unhide Hsn, ← unhide Hln, ← r1, List.map_append]; rfl, ((unhide Hbx).below hB7 (by omega)).put1, r2.putlo (by omega), ((unhide HMV).trans (Below.mv hB7 BX)).put⟩, by simp [intOf]; omega⟩
            · obtain rfl : k = oss.length := by omega
              have Hx : Hid (ps.map Cl.xs = oss) := by
                have := unhide Hln
                rwa [List.take_length] at this
              have HRf := hide ((unhide HR5).mv (unhide HMV) (Nat.le_refl _) (Or.inl (Nat.lt_succ_self _)))
              go_wp2
              go_ret2
              refine ⟨Or.inl ⟨BX, w6.heap.size, ss, rfl, unhide HS2, unhide HLA, by omega, _, _, ps, by rw [unhide HNL, unhide HNB]; exact unhide Hbx, unhide HRf, unhide Hll, unhide Hx, fun q e => ((unhide HR5).own.lt q e).2, fun s hs => ((unhide HR5).blk s hs).2.1, hBX5, hszr⟩, hBw⟩
      · have HS2 : Hid (StN bss oss) := stO_no (unhide HD) (fun h => hrm ⟨by have := h.2.1; rw [unhide HNL] at this; omega, by have := h.2.2; rw [unhide HNB] at this; omega⟩)
        go_wp2_with fail
        refine (takeRoom_no BX _ (.slice none 0 0) _ _ _ oss w4 (unhide HBX) ((unhide U2).below hB (Nat.le_refl _)) (by omega) (by omega) (by omega) (by omega) t2 l2 hrm).mono ?_
        rintro e w5 ⟨rfl, -, ho5⟩
        have hB5 : Below w.heap.size w w5 := hB.trans (((ho5.mv w4.heap.size).below (by omega)).mono (by omega))
        clear ho5
        go_wp2
        go_ret2
        exact ⟨Or.inr ⟨rfl, unhide HS2⟩, hB5⟩

end Go.Proofs.YtbgjgaejfkdceaaGreat
