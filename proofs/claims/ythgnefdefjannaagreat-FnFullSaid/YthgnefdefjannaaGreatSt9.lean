import Derived.Test.YthgnefdefjannaaGreatSt8
import Derived.Test.YthgnefdefjannaaGreatSt3
namespace Go.Proofs.YthgnefdefjannaaGreat
open Go.RowKit

def encG (g : Sg) : List Int := encL g.b g.xs g.ks g.pss
theorem run_encoded (x : Value) (w : World) : Sem.run Tryz.prog (callFunc 53 #[x]) w = .ok (.enter 53 #[x]) w := by kernel_rfl
theorem below_sub {a b : Nat} {w w' : World} (h : Below b w w') (hab : a ≤ b) : Below a w w' := h.mono hab

set_option maxHeartbeats 8000000 in
set_option maxRecDepth 100000 in
theorem state_any (BX base : Nat) (sg : Value) (oa : Option Addr) (on oc : Nat) (lr br : Int) (ss : List Sv) (w : World) (hr : Row4 w BX 71 sg (.slice oa on oc) (.int .i64 lr) (.int .i64 br)) (hs : SgRow base w sg ss) (he : ∀ s ∈ ss, EncIn s.g.b s.g.xs s.g.ks s.g.pss) (hln : ss.length ≤ 1000) :
    Calls Tryz.prog 33 #[.pointer (some ⟨BX, 0, none⟩)] w fun e w' => (∃ sv ps, e = .returned (.agg #[sv, .slice oa on oc]) ∧ ps.map Cl.xs = ss.map (fun s => encG s.g) ∧ LB w.heap.size w' sv ps) ∧ Below w.heap.size w w' := by
  obtain ⟨i0, hi, hz0, hz1, hz2⟩ := info_parts Tryz.zinByteS
  have HR := hide hr
  have HS := hide hs
  have HE := hide he
  obtain ⟨ga, gc, rfl⟩ := hs.form
  have hBX := World.rowIs.lt hr
  have hb0 := below2 w (.cells #[.slice none 0 0, .slice none 0 0] 25) (.cells #[.slice none 0 0, .slice oa on oc] 25)
  have RR := (Row2.new w 25 (.slice none 0 0) (.slice none 0 0)).alloc (.cells #[.slice none 0 0, .slice oa on oc] 25)
  have RS := Row2.new (w.alloc (.cells #[.slice none 0 0, .slice none 0 0] 25)) 25 (.slice none 0 0) (.slice oa on oc)
  rw [sz_alloc] at RS
  obtain ⟨f0, f1, -⟩ := (hr.alloc (.cells #[.slice none 0 0, .slice none 0 0] 25)).facts
  obtain ⟨k0, k1, -⟩ := ((hr.alloc (.cells #[.slice none 0 0, .slice none 0 0] 25)).alloc (.cells #[.slice none 0 0, .slice oa on oc] 25)).facts
  have hzV : ((w.alloc (.cells #[.slice none 0 0, .slice none 0 0] 25)).alloc (.cells #[.slice none 0 0, .slice oa on oc] 25)).heap.size = w.heap.size + 2 := by simp
  clear hr hs he
  go_enter Tryz.func33, Tryz.ntmps33
  go_wp2_with fail
  generalize (w.alloc (.cells #[.slice none 0 0, .slice none 0 0] 25)).alloc (.cells #[.slice none 0 0, .slice oa on oc] 25) = V at *
  have hVz : w.heap.size + 2 ≤ V.heap.size := by omega
  have HRR := hide RR
  clear hzV f0 f1 k0 k1 RR
  go_loopw [16] (fun iv wr => ∃ (k : Nat) (sv : Value) (ps : List (Cl Int)), k ≤ ss.length ∧ ps.length ≤ k ∧ iv = .int .i64 k ∧ ps.map Cl.xs = (ss.map (fun s => encG s.g)).take k ∧ Row2 wr (w.heap.size + 1) 25 sv (.slice oa on oc) ∧ LB (w.heap.size + 2) wr sv ps ∧ Below (w.heap.size + 1) V wr) (fun iv _ => ss.length - (intOf iv).toNat)
  case atStart => exact ⟨0, _, [], Nat.zero_le _, Nat.le_refl _, rfl, by simp, RS, LL.nil, Below.refl _ _⟩
  case round =>
    obtain ⟨k, sv, ps, hk, hpk, rfl, hln2, hbox, hll, hb⟩ := hrel
    have hszr := hb.size
    have Hll := hide hll
    have Hln := hide hln2
    have Hbx := hide hbox
    obtain ⟨la, lc, rfl⟩ := own_is hll.own
    have hB : Below w.heap.size w wr := hb0.trans (hb.mono (by omega))
    clear hll hln2 hbox
    by_cases hlt : k < ss.length
    · have hlt' : (k : Int) < (ss.length : Int) := by omega
      obtain ⟨s, hsk⟩ : ∃ s, ss[k]? = some s := ⟨ss[k], by simp [hlt]⟩
      have hmem : s ∈ ss := List.mem_of_getElem? hsk
      have hSr := (unhide HS).keep hB (Nat.le_refl _)
      obtain ⟨q, cap, e1, hq1, hq2, c0, c1, c2, c3⟩ := hSr.at k s hsk
      obtain ⟨a1, k1, a2, k2, a3, k3, v1, v2, v3⟩ := hSr.vals s hmem
      have hrd := (hSr.seg s hmem).rd (hSr.blk s hmem).2.1
      unfold Sv.v at hrd
      rw [v1] at c1 hrd
      rw [v2] at c2 hrd
      rw [v3] at c3 hrd
      have HRD := hide hrd
      have HEK := hide (unhide HE s hmem)
      have Hsn : Hid ((ss.map (fun s => encG s.g)).take (k + 1) = (ss.map (fun s => encG s.g)).take k ++ [encL s.g.b s.g.xs s.g.ks s.g.pss]) := by
        show _ = _
        rw [List.take_add_one, List.getElem?_map, hsk]
        rfl
      simp only [Value.slice.injEq] at e1
      obtain ⟨rfl, -, rfl⟩ := e1
      have hel := encL_len (unhide HEK)
      clear hsk hmem hSr hrd v1 v2 v3 HE
      generalize s.g = g at *
      obtain ⟨gb, gxs, gks, gps⟩ := g
      dsimp only at c0 c1 c2 c3 HRD HEK Hsn hel
      have hb1 := below1 wr (.cells #[.int .i64 gb, .slice a1 gxs.length k1, .slice a2 gks.length k2, .slice a3 gps.length k3] 59)
      have RB := Row4.new wr 59 (.int .i64 gb) (.slice a1 gxs.length k1) (.slice a2 gks.length k2) (.slice a3 gps.length k3)
      have hz1 : (wr.alloc (.cells #[.int .i64 gb, .slice a1 gxs.length k1, .slice a2 gks.length k2, .slice a3 gps.length k3] 59)).heap.size = wr.heap.size + 1 := sz_alloc _ _
      go_wp2_with fail
      generalize wr.alloc (.cells #[.int .i64 gb, .slice a1 gxs.length k1, .slice a2 gks.length k2, .slice a3 gps.length k3] 59) = V1 at *
      have hz1' : wr.heap.size + 1 ≤ V1.heap.size := by omega
      have HL1 := hide ((unhide Hll).keep hb1 (Nat.le_refl _))
      have Hb1 := hide ((unhide Hbx).below hb1 (by omega))
      have HRD1 := hide ((unhide HRD).below hb1 (Nat.le_refl _))
      obtain ⟨g0, g1, g2, g3, -⟩ := RB.facts
      obtain ⟨y0, y1, y2, y3⟩ := (unhide Hb1).facts4
      clear c0 c1 c2 c3 hz1
      have hS : Hid (∀ W' : World, Below V1.heap.size V1 W' → W'.cell? ⟨w.heap.size + 1, 0, none⟩ = some (.slice la ps.length lc) ∧ W'.frozen? ⟨w.heap.size + 1, 0, none⟩ = false) := fun W' hW => by
        have := ((unhide Hb1).below hW (by omega)).facts4
        exact ⟨this.1, this.2.2.1⟩
      have hS2 : Hid (∀ W' : World, Below (w.heap.size + 2) V1 W' → W'.cell? ⟨w.heap.size + 1, 0, none⟩ = some (.slice la ps.length lc) ∧ W'.frozen? ⟨w.heap.size + 1, 0, none⟩ = false) := fun W' hW => by
        have := ((unhide Hb1).below hW (by omega)).facts4
        exact ⟨this.1, this.2.2.1⟩
      generalize hEE : encL gb gxs gks gps = x at *
      have HEE := hide hEE
      clear hEE
      go_region_law (
        (first
          | (refine step_call_o 53 #[.tmp 22] _ rfl #[.agg #[.int .i64 gb, .slice a1 gxs.length k1, .slice a2 gks.length k2, .slice a3 gps.length k3]] rfl (by first | (simp [Act.eval]; done) | (simp [Act.eval, Act.put]; done)) (run_encoded _) (encoded_any _ gb gxs gps gks _ (by exact unhide HRD1) (unhide HEK)) ?_; rintro e w5 ⟨⟨v5, rfl, hown5⟩, hb5⟩; rw [unhide HEE] at hown5; have hB5 : Below V1.heap.size V1 w5 := ⟨hb5.os, hb5.tape, hb5.output, hb5.size, hb5.block⟩; have Hown5 : Hid (w5.ownsRow V1.heap.size 5 1 v5 x.length (x.map mB)) := hown5; have hz5 := hB5.size; have HLk := hide ((unhide HL1).keep hB5 (Nat.le_refl _)); have Hpu := hide (LB.push (unhide HL1) (by omega) hB5 (Below.refl _ V1) (unhide Hown5)); obtain ⟨ya, yc, rfl⟩ := own_is hown5; obtain ⟨c5, z5⟩ := unhide hS _ hB5; obtain ⟨c6, z6⟩ := unhide hS _ (hB5.alloc hz5 (.cells #[.slice ya x.length yc] 22)); clear hown5 hb5; refine ⟨_, rfl, ?_⟩)
          | (refine step_append_lies _ rfl (.tmp 21) (.tmp 24) 23 rfl (w.heap.size + 2) 22 i0 (.slice none 0 0) 1 24 Tryz.underlying23 hi hz0 hz1 hz2 rfl (by decide) (.slice la ps.length lc) ps.length (ps.map Cl.v) (by first | (simp [Act.eval]; done) | (simp [Act.eval, Act.put]; done)) (by refine Pushd.own (w := w5) (o := .cells #[.slice ya x.length yc] 22) ?_ (unhide HLk).own; exact ⟨rfl, rfl, rfl, rfl⟩) ⟨w5.heap.size, 0, none⟩ 1 1 [.slice ya x.length yc] (by first | (simp [Act.eval]; done) | (simp [Act.eval, Act.put]; done)) rfl (by refine Pushd.news (w := w5) (cs := #[.slice ya x.length yc]) (t := 22) ?_; exact ⟨rfl, rfl, rfl, rfl⟩) (by intro u hu; simp at hu; subst hu; rfl) (by decide) (by unfold maxLen; omega) (by omega) (by show w.heap.size + 2 ≤ (w5.alloc _).heap.size; rw [sz_alloc]; omega) (w5.heap.size + 1) (sz_alloc w5 _) (fun gg cap' w7 q1 q2 q3 q4 => ?_); have h7 := hide (unhide Hpu w7 (.slice (some ⟨gg, 0, none⟩) (ps.length + 1) cap') q1 q2); have hB7 : Below (w.heap.size + 2) V1 w7 := (by obtain ⟨_, _, _, r⟩ := unhide h7; exact r); obtain ⟨c7, z7⟩ := unhide hS2 _ hB7; clear q1 q2 q3 q4)))
      all_goals
        go_wp2
        obtain ⟨p, r1, r2, r3⟩ := unhide h7
        exact ⟨⟨k + 1, _, ps ++ [p], by omega, by simp; omega, by go_num, by rw [unhide Hsn, ← unhide Hln, ← r1, List.map_append]; rfl, ((unhide Hb1).below hB7 (by omega)).put0, r2.putlo (by omega), bput (hb.trans ((hb1.mono (by omega)).trans (hB7.mono (by omega)))) (Nat.le_refl _) _⟩, by simp [intOf]; omega⟩
    · obtain rfl : k = ss.length := by omega
      have Hx : Hid (ps.map Cl.xs = ss.map (fun s => encG s.g)) := by
        have := unhide Hln
        rwa [List.take_of_length_le (by simp)] at this
      obtain ⟨y0, y1, y2, y3⟩ := (unhide Hbx).facts4
      have HRf := hide ((unhide HRR).below hb (by omega))
      obtain ⟨r0, r1, r2, r3⟩ := (unhide HRf).facts4
      go_wp2_with fail
      obtain ⟨e0, e1, -⟩ := (((unhide HRf).put0 (u := .slice la ps.length lc)).put1 (u := .slice oa on oc)).facts4
      exact bodyPost_ret (v := .agg #[.slice la ps.length lc, .slice oa on oc]) (by simp [results, Tryz.results33, go_sem, e0, e1]) rfl ⟨⟨_, ps, rfl, unhide Hx, (((unhide Hll).putlo (B := w.heap.size) (by omega)).putlo (B := w.heap.size) (by omega)).low (by omega)⟩, bput2 hB (Nat.le_refl _) _ _⟩

end Go.Proofs.YthgnefdefjannaaGreat
