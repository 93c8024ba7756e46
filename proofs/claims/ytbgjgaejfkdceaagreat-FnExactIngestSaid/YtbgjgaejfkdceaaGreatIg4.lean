import Derived.Test.YtbgjgaejfkdceaaGreatIg2
import Derived.Test.YtbgjgaejfkdceaaGreatIg3
import Derived.Test.YtbgjgaejfkdceaaGreatSt3
namespace Go.Proofs.YtbgjgaejfkdceaaGreat
open Go.RowKit

theorem IngIs.small {bss oss ls b o : List (List Int)} {c : Int} (h : IngIs bss oss ls b o c) (t1 : tot bss ≤ 1048576) (t2 : tot oss ≤ 1048576) (t3 : tot ls ≤ 1048576) : tot b ≤ 2097152 ∧ tot o ≤ 2097152 := by
  rcases h with ⟨-, rfl, rfl, -⟩ | ⟨gs, -, -, rfl, rfl, -⟩ | ⟨gs, -, -, rfl, rfl, -⟩
  · simp [Go.Proofs.YtbgjgaejfkdceaaGreat.tot]
  · exact ⟨by omega, by rw [tot_app]; omega⟩
  · exact ⟨by omega, by omega⟩

set_option maxHeartbeats 16000000 in
set_option maxRecDepth 100000 in
theorem lawIngest_any (u tv : Value) (bss oss : List (List Int)) (bs : List Int) (w : World) (hu : StRd w u bss oss) (hby : ∀ x ∈ bss, Bytes x) (hbo : ∀ x ∈ oss, Bytes x) (htv : SlAt mB 0 0 w.heap.size w tv bs) (hbb : Bytes bs) :
    Calls Tryz.prog 3 #[u, tv] w fun e w' => e = .returned (.bool true) ∧ Below w.heap.size w w' := by
  have HU := hide hu
  have HB := hide hby
  have HBO := hide hbo
  have HTV := hide htv
  have HBB := hide hbb
  obtain ⟨ta, tc, rfl, -, -⟩ := htv
  obtain ⟨a1, c1, a2, c2, rfl⟩ := hu.val
  have hb0 := below1 w (.cells #[.slice a1 bss.length c1, .slice a2 oss.length c2] 24)
  have RA := Row2.new w 24 (.slice a1 bss.length c1) (.slice a2 oss.length c2)
  have hzV : (w.alloc (.cells #[.slice a1 bss.length c1, .slice a2 oss.length c2] 24)).heap.size = w.heap.size + 1 := sz_alloc _ _
  clear hu hby hbo hbb
  by_cases hlen : 1048576 < bs.length
  · have hlen' : (1048576 : Int) < (bs.length : Int) := by omega
    go_enter Tryz.func3, Tryz.ntmps3
    go_wp2
    go_ret
    exact ⟨rfl, hb0⟩
  have hlen' : ¬ (1048576 : Int) < (bs.length : Int) := by omega
  have hL : bs.length ≤ 1048576 := by omega
  clear hlen
  go_enter Tryz.func3, Tryz.ntmps3
  go_wp2_with fail
  generalize w.alloc (.cells #[.slice a1 bss.length c1, .slice a2 oss.length c2] 24) = V at *
  refine (szState_w _ 1048576 bss oss _ ((unhide HU).below hb0 (Nat.le_refl _)) (by omega) (by omega)).mono ?_
  rintro e w2 ⟨⟨r, rfl, hr⟩, hb1⟩
  have hz1 := hb1.size
  have RA2 := hide (RA.below hb1 (by omega))
  have hB2 : Below w.heap.size w w2 := hb0.trans (hb1.mono (by omega))
  clear RA hb0 hb1
  by_cases hn : r < 0
  · clear hr
    go_wp2
    go_ret
    exact ⟨rfl, hB2⟩
  have hr' := hr.resolve_left hn
  have i1 : tot bss ≤ 1048576 := by omega
  have i2 : bss.length ≤ 1048576 := by omega
  have i3 : tot oss ≤ 1048576 := by omega
  have i4 : oss.length ≤ 1048576 := by omega
  clear hr hr'
  obtain ⟨f0, f1, -⟩ := (unhide RA2).facts4
  go_wp2_with fail
  refine (toState_w _ bss oss w2 ((unhide HU).below hB2 (Nat.le_refl _)) i1 i2 i3 i4).mono ?_
  rintro e w3 ⟨u3, rfl, hF3, hb3⟩
  have hz3 := hb3.size
  have S3 := hide (hF3.rd (Nat.le_refl _))
  obtain ⟨s1a, s1c, s2a, s2c, rfl⟩ := (unhide S3).val
  clear hF3 f0 f1
  go_wp2_with fail
  refine (toByteS_wc _ bs w3 ((unhide HTV).below (hB2.trans (hb3.mono (by omega))) (Nat.le_refl _)) hL).mono ?_
  rintro e w3b ⟨u3b, rfl, hs3b, -, hb3b⟩
  have hz3b := hb3b.size
  have S3b := hide (hs3b.all (Nat.le_refl _))
  have S3' := hide ((unhide S3).below hb3b (Nat.le_refl _))
  have hE3b : Below w2.heap.size w2 w3b := hb3.trans (hb3b.mono (by omega))
  obtain ⟨t3a, t3c, rfl, -⟩ := hs3b
  clear hb3b S3
  go_wp2_with fail
  refine (specIngest_any _ _ bss oss bs w3b (unhide S3') (unhide HB) i1 i2 i3 i4 (unhide S3b) hL).mono ?_
  rintro e w4 ⟨⟨vw, b, o, c, rfl, his, hrw⟩, hb4⟩
  have hz4 := hb4.size
  have hE4 : Below w2.heap.size w2 w4 := hE3b.trans (hb4.mono (by omega))
  have HIS := hide his
  have hsm := his.small i1 i3 (Nat.le_trans (lns_tot bs) hL)
  have RW := hide hrw
  obtain ⟨wa1, wc1, wa2, wc2, rfl⟩ := hrw.val
  clear his hrw hb3 hb4 S3' S3b hE3b
  obtain ⟨f0, f1, -⟩ := (((unhide RA2).below hE4 (by omega)).alloc (.cells #[.slice wa1 b.length wc1, .slice wa2 o.length wc2] 27)).facts4
  have hV4 := below1 w4 (.cells #[.slice wa1 b.length wc1, .slice wa2 o.length wc2] 27)
  have BW := Row2.new w4 27 (.slice wa1 b.length wc1) (.slice wa2 o.length wc2)
  have hzV4 : (w4.alloc (.cells #[.slice wa1 b.length wc1, .slice wa2 o.length wc2] 27)).heap.size = w4.heap.size + 1 := sz_alloc _ _
  go_wp2_with fail
  generalize w4.alloc (.cells #[.slice wa1 b.length wc1, .slice wa2 o.length wc2] 27) = V4 at *
  have hzV4' : w4.heap.size + 1 ≤ V4.heap.size := by omega
  clear hzV4
  refine (toState_w _ bss oss V4 ((unhide HU).below (hB2.trans ((hE4.trans (hV4.mono (by omega))).mono (by omega))) (Nat.le_refl _)) i1 i2 i3 i4).mono ?_
  rintro e w5 ⟨u5, rfl, hF5, hb5⟩
  have hz5 := hb5.size
  have HF5 := hide hF5
  obtain ⟨x1a, x1c, x2a, x2c, rfl⟩ := (hF5.rd (Nat.le_refl _)).val
  have hD5 : Below w4.heap.size w4 w5 := hV4.trans (hb5.mono (by omega))
  have hE5 : Below w2.heap.size w2 w5 := hE4.trans (hD5.mono (by omega))
  have BW5 := hide (BW.below hb5 (by omega))
  clear hF5 hb5 hV4 BW f0 f1
  have hV5 := below1 w5 (.cells #[.slice x1a bss.length x1c, .slice x2a oss.length x2c] 27)
  have BX := Row2.new w5 27 (.slice x1a bss.length x1c) (.slice x2a oss.length x2c)
  have hzV5 : (w5.alloc (.cells #[.slice x1a bss.length x1c, .slice x2a oss.length x2c] 27)).heap.size = w5.heap.size + 1 := sz_alloc _ _
  obtain ⟨f0, f1, -⟩ := BX.facts4
  go_wp2_with fail
  generalize w5.alloc (.cells #[.slice x1a bss.length x1c, .slice x2a oss.length x2c] 27) = V5 at *
  have hzV5' : w5.heap.size + 1 ≤ V5.heap.size := by omega
  clear hzV5
  have hVV5 : Below w.heap.size w V5 := hB2.trans ((hE5.trans (hV5.mono (by omega))).mono (by omega))
  refine (toByteS_wc _ bs V5 ((unhide HTV).below hVV5 (Nat.le_refl _)) hL).mono ?_
  rintro e w5b ⟨u5b, rfl, hs5b, hcp5b, hb5b⟩
  have hz5b := hb5b.size
  have S5b := hide hs5b
  have C5b := hide hcp5b
  have hV5b : Below w5.heap.size w5 w5b := hV5.trans (hb5b.mono (by omega))
  have BXb := BX.below hb5b (by omega)
  obtain ⟨t5a, t5c, rfl, -⟩ := hs5b
  clear hcp5b hVV5 f0 f1
  obtain ⟨f0, f1, -⟩ := BXb.facts4
  go_wp2_with fail
  refine (implIngest_any _ _ bss oss bs w5b (((unhide HF5).rd (Nat.le_refl _)).below hV5b (Nat.le_refl _)) (unhide HB) (unhide HBO) i1 i2 i3 i4 ((unhide S5b).all (Nat.le_refl _)) (unhide C5b) (unhide HBB) hL).mono ?_
  rintro e w6 ⟨⟨vg, b', o', c', rfl, hig, hFG⟩, hb6⟩
  obtain ⟨rfl, rfl, rfl⟩ := (unhide HIS).uniq hig
  have hz6 := hb6.size
  have S6b := hide ((unhide S5b).keep hb6 (Nat.le_refl _))
  have HFG := hide hFG
  obtain ⟨ga1, gc1, ga2, gc2, rfl⟩ := (hFG.rd (Nat.le_refl _)).val
  have hB56 : Below w5.heap.size w5 w6 := hV5b.trans (hb6.mono (by omega))
  have hE6 : Below w2.heap.size w2 w6 := hE5.trans (hB56.mono (by omega))
  have hD6 : Below w4.heap.size w4 w6 := hD5.trans (hB56.mono (by omega))
  have BX6 := hide (BXb.below hb6 (by omega))
  have BW6 := hide ((unhide BW5).below hB56 (by omega))
  have HF56 := hide ((unhide HF5).keep hB56 (Nat.le_refl _))
  clear hig hFG hb6 hV5 BX BXb HF5 BW5 f0 f1 S5b hV5b hb5b
  have hV6 := below1 w6 (.cells #[.slice ga1 b.length gc1, .slice ga2 o.length gc2] 27)
  have BG := Row2.new w6 27 (.slice ga1 b.length gc1) (.slice ga2 o.length gc2)
  have hzV6 : (w6.alloc (.cells #[.slice ga1 b.length gc1, .slice ga2 o.length gc2] 27)).heap.size = w6.heap.size + 1 := sz_alloc _ _
  obtain ⟨g0, g1, -⟩ := BG.facts4
  obtain ⟨y0, y1, -⟩ := ((unhide BW6).alloc (.cells #[.slice ga1 b.length gc1, .slice ga2 o.length gc2] 27)).facts4
  go_wp2_with fail
  generalize w6.alloc (.cells #[.slice ga1 b.length gc1, .slice ga2 o.length gc2] 27) = V6 at *
  have hzV6' : w6.heap.size + 1 ≤ V6.heap.size := by omega
  clear hzV6
  have hE6' : Below w2.heap.size w2 V6 := hE6.trans (hV6.mono (by omega))
  have hD6' : Below w4.heap.size w4 V6 := hD6.trans (hV6.mono (by omega))
  refine (eqState_w _ _ b o V6 (((unhide HFG).rd (Nat.le_refl _)).below hV6 (Nat.le_refl _)) ((unhide RW).below hD6' (Nat.le_refl _))).mono ?_
  rintro e w7 ⟨rfl, hb7⟩
  have hz7 := hb7.size
  have hE7 : Below w2.heap.size w2 w7 := hE6'.trans (hb7.mono (by omega))
  have hD7 : Below w4.heap.size w4 w7 := hD6'.trans (hb7.mono (by omega))
  have h67 : Below w6.heap.size w6 w7 := hV6.trans (hb7.mono (by omega))
  have BX7 := hide ((unhide BX6).below h67 (by omega))
  have BW7 := hide ((unhide BW6).below h67 (by omega))
  have BG7 := hide (BG.below hb7 (by omega))
  have HF57 := hide ((unhide HF56).keep h67 (by omega))
  have HG7 := hide ((unhide HFG).keep h67 (Nat.le_refl _))
  have S7b := hide ((unhide S6b).keep h67 (by omega))
  clear S6b hb7 hV6 h67 BX6 BW6 BG HF56 HFG g0 g1 y0 y1 hE6 hE6' hD6 hD6'
  have hS : Hid (∀ W' : World, Below w7.heap.size w7 W' → (W'.cell? ⟨w5.heap.size, 0, none⟩ = some (.slice x1a bss.length x1c) ∧ W'.cell? ⟨w5.heap.size, 1, none⟩ = some (.slice x2a oss.length x2c)) ∧ W'.cell? ⟨w.heap.size, 0, none⟩ = some (.slice a1 bss.length c1) ∧ W'.cell? ⟨w.heap.size, 1, none⟩ = some (.slice a2 oss.length c2)) := fun W' hW => by
    have h1 := ((unhide BX7).below hW (by omega)).facts4
    have h2 := (((unhide RA2).below hE7 (by omega)).below hW (by omega)).facts4
    exact ⟨⟨h1.1, h1.2.1⟩, h2.1, h2.2.1⟩
  obtain ⟨⟨f0, f1⟩, g0, g1⟩ := unhide hS w7 (Below.refl _ _)
  go_wp2_with fail
  go_region_held3 (fun W' => (W'.cell? ⟨w5.heap.size, 0, none⟩ = some (.slice x1a bss.length x1c) ∧ W'.cell? ⟨w5.heap.size, 1, none⟩ = some (.slice x2a oss.length x2c)) ∧ W'.cell? ⟨w.heap.size, 0, none⟩ = some (.slice a1 bss.length c1) ∧ W'.cell? ⟨w.heap.size, 1, none⟩ = some (.slice a2 oss.length c2))
    (first | (with_reducible exact unhide hS _ hB9) | (with_reducible exact unhide hS _ hB8) | go_keep)
    (first
      | (go_at_call 7; refine (toState_w _ bss oss _ (by exact (unhide HU).below ((hB2.trans (hE7.mono (by omega))).drew) (Nat.le_refl _)) i1 i2 i3 i4).mono ?_; rintro e w8 ⟨u8, rfl, hF8, hb8⟩; have hB8 : Below w7.heap.size w7 w8 := ⟨hb8.os, hb8.tape, hb8.output, hb8.size, hb8.block⟩; have S8 := hide (hF8.rd (Nat.le_refl _)); obtain ⟨s1a, s1c, s2a, s2c, rfl⟩ := (unhide S8).val; clear hF8 hb8)
      | (go_at_call 10; refine (eqState_w _ _ bss oss _ (by exact ((unhide HF57).rd (by omega)).below hB8 (Nat.le_refl _)) (by exact unhide S8)).mono ?_; rintro e w9 ⟨rfl, hb9⟩; have hB9 : Below w7.heap.size w7 w9 := hB8.trans (hb9.mono hB8.size); clear hb9))
  have hz9 := hB9.size
  have hE9 : Below w2.heap.size w2 w9 := hE7.trans (hB9.mono (by omega))
  have hD9 : Below w4.heap.size w4 w9 := hD7.trans (hB9.mono (by omega))
  have BX9 := hide ((unhide BX7).below hB9 (by omega))
  have BW9 := hide ((unhide BW7).below hB9 (by omega))
  have BG9 := hide ((unhide BG7).below hB9 (by omega))
  have HF59 := hide ((unhide HF57).keep hB9 (by omega))
  have HG9 := hide ((unhide HG7).keep hB9 (by omega))
  have S9b := hide ((unhide S7b).keep hB9 (by omega))
  clear S7b hB8 hB9 S8 hS BX7 BW7 BG7 HF57 HG7 f0 f1 g0 g1 hE7 hD7
  go_wp2_with fail
  refine (toByteS_wc _ bs w9 ((unhide HTV).below (hB2.trans (hE9.mono (by omega))) (Nat.le_refl _)) hL).mono ?_
  rintro e wa ⟨ua, rfl, hsa, -, hba⟩
  have hza := hba.size
  have Sa := hide (hsa.all (Nat.le_refl _))
  have S9a := hide ((unhide S9b).keep hba (by omega))
  obtain ⟨taa, tac, rfl, -⟩ := hsa
  go_wp2_with fail
  refine (eqByteS_w _ _ bs wa ((unhide S9a).all (by omega)) (unhide Sa)).mono ?_
  rintro e wb ⟨rfl, nb', hwb⟩
  have hbab : Below wa.heap.size wa wb := by rw [hwb]; exact drewB nb'
  have hzb := hbab.size
  have h9b : Below w9.heap.size w9 wb := hba.trans (hbab.mono (by omega))
  have hE9' : Below w2.heap.size w2 wb := hE9.trans (h9b.mono (by omega))
  have hD9' : Below w4.heap.size w4 wb := hD9.trans (h9b.mono (by omega))
  have BX9' := hide ((unhide BX9).below h9b (by omega))
  have BW9' := hide ((unhide BW9).below h9b (by omega))
  have BG9' := hide ((unhide BG9).below h9b (by omega))
  have HF59' := hide ((unhide HF59).keep h9b (by omega))
  have HG9' := hide ((unhide HG9).keep h9b (by omega))
  have S9' := hide ((unhide S9a).keep hbab (by omega))
  clear hwb hba hbab h9b hE9 hD9 BX9 BW9 BG9 HF59 HG9 S9a S9b Sa
  obtain ⟨f0, f1, -⟩ := (unhide BX9').facts4
  go_wp2_with fail
  refine (markState_w _ 1 bss oss V4.heap.size w5.heap.size wb (unhide HF59') (by omega) (by omega) (by omega) (by omega) (by omega) (by omega)).mono ?_
  rintro e wd ⟨rfl, -, hbd, hhid⟩
  have hzd := hbd.size
  have hEd : Below w2.heap.size w2 wd := hE9'.trans (hbd.mono (by omega))
  have hDd : Below w4.heap.size w4 wd := hD9'.trans (hbd.mono (by omega))
  have BWd := hide ((unhide BW9').below hbd (by omega))
  have BGd := hide (World.rowIs.of_block (unhide BG9') (hhid _ (by omega) (by omega)))
  have HGd := hide ((unhide HG9').same (w' := wd) (fun k k1 k2 => hhid k (by omega) (by omega)))
  have Sd := hide ((unhide S9').same (w' := wd) (fun k k1 k2 => hhid k (by omega) (by omega)))
  clear hbd hhid BX9' BW9' BG9' HF59' HG9' S9' f0 f1 hE9' hD9'
  go_wp2_with fail
  refine (markByteS_any _ bs (1 + tot bss + tot oss) V5.heap.size w5b.heap.size wd (unhide Sd) (by omega) (by omega) (by omega)).mono ?_
  rintro e w10 ⟨rfl, -, hc10⟩
  have hz10' := hc10.size
  have hz10 : wd.heap.size ≤ w10.heap.size := by omega
  have hb10 : Below V5.heap.size wd w10 := hc10.below
  have hE10 : Below w2.heap.size w2 w10 := hEd.trans (hb10.mono (by omega))
  have hD10 : Below w4.heap.size w4 w10 := hDd.trans (hb10.mono (by omega))
  have BW10 := hide (Row2.below (unhide BWd) hb10 (by omega))
  have BG10 := hide (World.rowIs.of_block (unhide BGd) (hc10.block _ (by omega)))
  have HG10 := hide ((unhide HGd).same (w' := w10) (fun k k1 k2 => hc10.block k (by omega)))
  have hk1 : ¬ (1 : Int) + (tot bss : Int) + (tot oss : Int) + (bs.length : Int) < 0 := by omega
  obtain ⟨y0, y1, -⟩ := Row2.facts4 (unhide BW10)
  obtain ⟨g0, g1, -⟩ := Row2.facts4 (unhide BG10)
  clear hb10 hc10 hz10' BWd BGd HGd Sd hEd hDd
  go_wp2_with fail
  refine (eqState_w _ _ b o w10 ((unhide HG10).rd (by omega)) ((unhide RW).below hD10 (Nat.le_refl _))).mono ?_
  rintro e w11 ⟨rfl, hb11⟩
  have hz11 := hb11.size
  have hE11 : Below w2.heap.size w2 w11 := hE10.trans (hb11.mono (by omega))
  have hD11 : Below w4.heap.size w4 w11 := hD10.trans (hb11.mono (by omega))
  have BW11 := hide (Row2.below (unhide BW10) hb11 (by omega))
  have BG11 := hide (Row2.below (unhide BG10) hb11 (by omega))
  have HG11 := hide ((unhide HG10).keep hb11 (by omega))
  clear y0 y1 g0 g1
  obtain ⟨g0, g1, -⟩ := Row2.facts4 (unhide BG11)
  clear hb11 BW10 BG10 HG10 hE10 hD10
  go_wp2_with fail
  refine (markState_w _ 1 b o w5b.heap.size w6.heap.size w11 (unhide HG11) (by omega) (by omega) (by omega) (by omega) hsm.1 hsm.2).mono ?_
  rintro e w12 ⟨rfl, hmk, hb12, hhi12⟩
  have hz12 := hb12.size
  have hE12 : Below w2.heap.size w2 w12 := hE11.trans (hb12.mono (by omega))
  have hD12 : Below w4.heap.size w4 w12 := hD11.trans (hb12.mono (by omega))
  have BW12 := hide (Row2.below (unhide BW11) hb12 (by omega))
  have BG12 := hide (World.rowIs.of_block (unhide BG11) (hhi12 _ (by omega) (by omega)))
  have HMK := hide hmk
  clear g0 g1
  obtain ⟨g0, g1, -⟩ := Row2.facts4 (unhide BG12)
  clear hmk hb12 hhi12 BW11 BG11 HG11 hE11 hD11
  go_wp2_with fail
  refine (heldState_w _ 1 b o w12 (unhide HMK) (by omega) (by omega) hsm.1 hsm.2).mono ?_
  rintro e w13 ⟨rfl, hb13⟩
  have hz13 := hb13.size
  have hE13 : Below w2.heap.size w2 w13 := hE12.trans (hb13.mono (by omega))
  have hD13 : Below w4.heap.size w4 w13 := hD12.trans (hb13.mono (by omega))
  have BW13 := hide (Row2.below (unhide BW12) hb13 (by omega))
  have hk2 : ¬ (1 : Int) + (tot b : Int) + (tot o : Int) < 0 := by omega
  obtain ⟨f0, f1, -⟩ := ((unhide RA2).below hE13 (by omega)).facts4
  clear hb13 BW12 BG12 HMK hE12 hD12 g0 g1
  go_wp2_with fail
  refine (toState_w _ bss oss w13 ((unhide HU).below (hB2.trans (hE13.mono (by omega))) (Nat.le_refl _)) i1 i2 i3 i4).mono ?_
  rintro e w14 ⟨u14, rfl, hF14, hb14⟩
  have hz14 := hb14.size
  have S14 := hide (hF14.rd (Nat.le_refl _))
  obtain ⟨s1a, s1c, s2a, s2c, rfl⟩ := (unhide S14).val
  clear hF14 f0 f1
  go_wp2_with fail
  refine (toByteS_wc _ bs w14 ((unhide HTV).below (hB2.trans ((hE13.trans (hb14.mono (by omega))).mono (by omega))) (Nat.le_refl _)) hL).mono ?_
  rintro e w14b ⟨u14b, rfl, hs14b, hcp14b, hb14b⟩
  have hz14b := hb14b.size
  have S14b := hide (hs14b.all (Nat.le_refl _))
  have C14b := hide hcp14b
  have S14' := hide ((unhide S14).below hb14b (Nat.le_refl _))
  obtain ⟨t14a, t14c, rfl, -⟩ := hs14b
  clear hcp14b
  go_wp2_with fail
  refine (implIngest_any _ _ bss oss bs w14b (unhide S14') (unhide HB) (unhide HBO) i1 i2 i3 i4 (unhide S14b) (unhide C14b) (unhide HBB) hL).mono ?_
  rintro e w15 ⟨⟨vh, bh, oh, ch, rfl, hih, hFH⟩, hb15⟩
  obtain ⟨rfl, rfl, rfl⟩ := (unhide HIS).uniq hih
  have hz15 := hb15.size
  have hB1315 : Below w13.heap.size w13 w15 := (hb14.trans (hb14b.mono (by omega))).trans (hb15.mono (by omega))
  have hD15 : Below w4.heap.size w4 w15 := hD13.trans (hB1315.mono (by omega))
  have hE15 : Below w2.heap.size w2 w15 := hE13.trans (hB1315.mono (by omega))
  have RH := hide (hFH.rd (Nat.le_refl _))
  have BW15 := hide (Row2.below (unhide BW13) hB1315 (by omega))
  obtain ⟨h1a, h1c, h2a, h2c, rfl⟩ := (unhide RH).val
  obtain ⟨y0, y1, -⟩ := (Row2.alloc (unhide BW15) (.cells #[.slice h1a b.length h1c, .slice h2a o.length h2c] 27)).facts4
  have hV15 := below1 w15 (.cells #[.slice h1a b.length h1c, .slice h2a o.length h2c] 27)
  clear hFH hih hb14 hb14b hb15 S14 S14' S14b
  go_wp2_with fail
  refine (eqState_w _ _ b o _ ((unhide RH).below hV15 (Nat.le_refl _)) ((unhide RW).below (hD15.trans (hV15.mono (by omega))) (Nat.le_refl _))).mono ?_
  rintro e w16 ⟨rfl, hb16⟩
  have hBf : Below w.heap.size w w16 := hB2.trans ((hE15.trans ((hV15.trans (hb16.mono (by rw [sz_alloc]; omega))).mono (by omega))).mono (by omega))
  clear hb16 hV15 y0 y1
  go_wp2
  go_ret
  exact ⟨rfl, hBf⟩

end Go.Proofs.YtbgjgaejfkdceaaGreat
