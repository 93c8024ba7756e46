import Derived.Test.YtfjnhmgmcldidaaCa2
import Derived.Test.YtfjnhmgmcldidaaQt0
import Derived.BigQuiet
namespace Go.Proofs.Ytfjnhmgmcldidaa
open Go.RowKit

theorem Try.zinBoC : (Try.prog.info? 4).map (fun i => (i.zero, i.size, i.bytes)) = some (some (.bool false), 1, 1) := by kernel_rfl
/-- One number more in a row that is owned. -/
theorem app_i1 {w : World} {ops : Array Oper} {rest : List Oper} {o : Oper} {a : Act} {Q : Exit → Act → World → Prop} (hgd : o.guard = none) (s x : Operand)
    (ho : o.op = .call { callee := .builtin .append, args := #[s, x], argTypes := #[23, 23] }) (base : Nat) (v : Value) (hs : a.eval s = v) (y : Int) (hx : a.eval x = .slice (some ⟨w.heap.size, 0, none⟩) 1 1) (xs : List Int)
    (h1 : w.ownsRow base 3 1 v xs.length (xs.map mI)) (hb : base ≤ w.heap.size) (hl : xs.length ≤ 1000000)
    (h : ∀ v' w', w'.ownsRow base 3 1 v' (xs ++ [y]).length ((xs ++ [y]).map mI) → Below base w w' → wpList Try.prog ops Q rest (a.put o.dst v') w') : wpList Try.prog ops Q (o :: rest) a (w.alloc (.cells #[.int .i64 y] 3)) := by
  obtain ⟨i0, hi, hz0, hz1, hz2⟩ := info_parts Try.zinInt
  refine wpList_append_own_at _ hgd s x 23 ho base 3 i0 (.int .i64 0) 1 8 Try.underlying23 hi hz0 hz1 hz2 rfl (by decide) v xs.length (xs.map mI) hs (h1.alloc _) ⟨w.heap.size, 0, none⟩ 1 1 [.int .i64 y] hx rfl (cell_1 ((pushd_al w _).news 0 _ rfl)) (fun u hu => by rw [List.mem_singleton] at hu; subst hu; rfl) (by unfold maxLen; omega) (by omega) (by rw [sz_alloc]; omega) ?_
  intro v' w' r1 r2 _ r3
  refine h v' w' ?_ ((below1 w _).mono hb |>.trans (grown_bel (h1.alloc _) (by rw [sz_alloc]; omega) r2))
  rw [List.length_append, List.map_append]
  exact r1
def rchB (xss : List (List Int)) (ks : List Int) (pss qss : List (List Int)) : Bool :=
  decide (xss.length ≤ 1000) && decide (ks.length ≤ 20000) && pss.all (fun p => decide (p.length ≤ 1000)) && decide (qss.length ≤ 1000) && qss.all (fun p => decide (p.length ≤ 1000))
theorem all_at {pss : List (List Int)} : pss.all (fun p => decide (p.length ≤ 1000)) = true ↔ ∀ i : Nat, i < pss.length → (pss[i]?.getD []).length ≤ 1000 := by
  rw [List.all_eq_true]
  constructor
  · intro h i hi
    rw [List.getElem?_eq_getElem hi]
    exact of_decide_eq_true (h _ (List.getElem_mem hi))
  · intro h p hp
    obtain ⟨i, hi, e⟩ := List.getElem_of_mem hp
    have := h i hi
    rw [List.getElem?_eq_getElem hi, Option.getD_some, e] at this
    exact decide_eq_true this
theorem rchB_iff (xss : List (List Int)) (ks : List Int) (pss qss : List (List Int)) : rchB xss ks pss qss = true ↔ Rch xss ks pss qss := by
  unfold rchB Rch
  rw [Bool.and_eq_true, Bool.and_eq_true, Bool.and_eq_true, Bool.and_eq_true, decide_eq_true_eq, decide_eq_true_eq, decide_eq_true_eq, all_at, all_at]
  exact ⟨fun ⟨⟨⟨⟨a, b⟩, c⟩, d⟩, e⟩ => ⟨a, b, c, d, e⟩, fun ⟨a, b, c, d, e⟩ => ⟨⟨⟨⟨a, b⟩, c⟩, d⟩, e⟩⟩
/-- The answer of Candidates. -/
def cndA (base : Int) (xss : List (List Int)) (ks : List Int) (pss qss : List (List Int)) : List Int := if rchB xss ks pss qss = true then cndL base xss.length (smB base ks pss qss qss.length) else []
theorem cndA_yes {base : Int} {xss : List (List Int)} {ks : List Int} {pss qss : List (List Int)} (h : Rch xss ks pss qss) : cndA base xss ks pss qss = cndL base xss.length (smB base ks pss qss qss.length) := if_pos ((rchB_iff _ _ _ _).2 h)
theorem cndA_no {base : Int} {xss : List (List Int)} {ks : List Int} {pss qss : List (List Int)} (h : ¬ Rch xss ks pss qss) : cndA base xss ks pss qss = [] := if_neg (fun q => h ((rchB_iff _ _ _ _).1 q))
theorem smB_zero (base : Int) (ks : List Int) (pss qss : List (List Int)) (i : Nat) : smB base ks pss qss 0 i = false := by
  cases h : smB base ks pss qss 0 i with
  | false => rfl
  | true => rw [smB_iff] at h; obtain ⟨c, hc, -⟩ := h; omega
theorem smB_succ (base : Int) (ks : List Int) (pss qss : List (List Int)) (c i : Nat) : smB base ks pss qss (c + 1) i = (smB base ks pss qss c i || mkB base ks pss (qss[c]?.getD []) i) := by
  rw [Bool.eq_iff_iff, Bool.or_eq_true, smB_iff, smB_iff, mkB_iff]
  constructor
  · rintro ⟨c', h1, h2⟩
    by_cases e : c' = c
    · subst e; exact .inr h2
    · exact .inl ⟨c', by omega, h2⟩
  · rintro (⟨c', h1, h2⟩ | h)
    · exact ⟨c', by omega, h2⟩
    · exact ⟨c, by omega, h⟩
theorem mkB_nil (base : Int) (ks : List Int) (pss : List (List Int)) (i : Nat) : mkB base ks pss [] i = true := (mkB_iff _ _ _ _ _).2 (by simp)
theorem mkB_snoc (base : Int) (ks : List Int) (pss : List (List Int)) (ts : List Int) (t : Int) (i : Nat) : mkB base ks pss (ts ++ [t]) i = (mkB base ks pss ts i && lstB base ks pss t i) := by
  rw [Bool.eq_iff_iff, Bool.and_eq_true, mkB_iff, mkB_iff, lstB_iff]
  constructor
  · intro h; exact ⟨fun x hx => h x (List.mem_append_left _ hx), h t (by simp)⟩
  · rintro ⟨h1, h2⟩ x hx
    rcases List.mem_append.1 hx with q | q
    · exact h1 x q
    · rw [List.mem_singleton] at q; rw [q]; exact h2
theorem take_snoc {ts : List Int} {k : Nat} (h : k < ts.length) : ts.take (k + 1) = ts.take k ++ [ts[k]?.getD 0] := by
  rw [List.take_add_one, List.getElem?_eq_getElem h]; rfl

set_option maxHeartbeats 8000000 in
set_option maxRecDepth 100000 in
theorem specCand_any (v u : Value) (base : Int) (xss pss qss : List (List Int)) (ks : List Int) (w : World) (hv : SegRd w v base xss ks pss) (hu : SsAt mI 0 w.heap.size w u qss) (htp : tot pss ≤ 1048576) :
    Calls Try.prog 6 #[v, .agg #[u]] w fun e w' => ∃ ov, e = .returned ov ∧ w'.ownsRow w.heap.size 3 1 ov (cndA base xss ks pss qss).length ((cndA base xss ks pss qss).map mI) ∧ Below w.heap.size w w' := by
  obtain ⟨lv, kv, pv, rfl, h1, h2, h3⟩ := id hv
  obtain ⟨la, lc, rfl, -, -⟩ := id h1
  obtain ⟨ka, kc, rfl, -, -⟩ := id h2
  obtain ⟨pa, pc, rfl, -, -⟩ := id h3
  obtain ⟨ua, uc, rfl, hul, hus⟩ := ss_at hu
  obtain ⟨W2, hW2⟩ : ∃ W2, W2 = (w.alloc (.cells #[.int .i64 base, .slice la xss.length lc, .slice ka ks.length kc, .slice pa pss.length pc] 32)).alloc (.cells #[.slice ua qss.length uc] 34) := ⟨_, rfl⟩
  have hB2 : Below w.heap.size w W2 := by rw [hW2]; exact below2 w _ _
  have hz2 : W2.heap.size = w.heap.size + 2 := by rw [hW2, sz_alloc, sz_alloc]
  have hR2 : Row4 W2 w.heap.size 32 (.int .i64 base) (.slice la xss.length lc) (.slice ka ks.length kc) (.slice pa pss.length pc) := by rw [hW2]; exact (Row4.new w _ _ _ _ _).alloc _
  have hq : W2.cell? ⟨w.heap.size + 1, 0, none⟩ = some (.slice ua qss.length uc) := by
    have := (pushd_al (w.alloc (.cells #[.int .i64 base, .slice la xss.length lc, .slice ka ks.length kc, .slice pa pss.length pc] 32)) (.cells #[.slice ua qss.length uc] 34)).news 0 _ rfl
    rw [sz_alloc] at this
    rw [hW2]
    exact this
  have HGR := hide (l4great_any _ _ base xss pss qss ks W2 (hv.below hB2 (Nat.le_refl _)) (hu.below hB2 (Nat.le_refl _)))
  obtain ⟨k0, k1, k2, k3, -⟩ := hR2.facts
  have HV := hide hv
  have HUS : Hid (∀ W, Below w.heap.size w W → ∀ j : Nat, j < qss.length → ∃ b off sa sc, ua = some ⟨b, off, none⟩ ∧ W.cell? ⟨b, off + j, none⟩ = some (.slice sa (qss[j]?.getD []).length sc) ∧ SlAt mI 0 0 W.heap.size W (.slice sa (qss[j]?.getD []).length sc) (qss[j]?.getD [])) := fun W hW j hj => by
    obtain ⟨b, off, sa, sc, rfl, hb, hcell, hsl, -⟩ := hus j hj
    exact ⟨b, off, sa, sc, rfl, by rw [hW.cell (p := ⟨b, off + j, none⟩) hb]; exact hcell, hsl.below hW (Nat.le_refl _)⟩
  have HW2 := hide hW2
  have HB2 := hide hB2
  have HR2 := hide hR2
  have HQ := hide hq
  have hz2' : w.heap.size + 2 ≤ W2.heap.size := by omega
  obtain ⟨R, hR⟩ : ∃ R, R = cndA base xss ks pss qss := ⟨_, rfl⟩
  rw [← hR]
  have HRR := hide hR
  clear h1 h2 h3 hu hus hW2 hB2 hR2 hq hz2 hv hR
  go_enter Try.func6, Try.ntmps6
  go_wp2_with fail
  rw [← unhide HW2]
  clear HW2
  refine (unhide HGR).mono ?_
  rintro e w3 ⟨hret, hb3⟩
  have hz3 := hb3.size
  have hB3 : Below w.heap.size w w3 := (unhide HB2).trans (hb3.mono (by omega))
  rcases hret.cases with ⟨rfl, hno⟩ | ⟨rfl, hyes⟩
  · have HX : Hid (R = []) := by rw [unhide HRR]; exact cndA_no hno
    clear hno hb3
    go_wp2
    go_ret
    rw [unhide HX]
    exact ⟨_, rfl, World.ownsRow_nil _ _ _ _, hB3⟩
  · have hrch : Rch xss ks pss qss := Classical.not_not.1 hyes
    have hn := hrch.1
    have hks := hrch.2.1
    have hql := hrch.2.2.2.1
    have HQC := hide hrch.2.2.2.2
    have HRE : Hid (R = cndL base xss.length (smB base ks pss qss qss.length)) := by rw [unhide HRR]; exact cndA_yes hrch
    obtain ⟨n, hnn⟩ : ∃ n, n = xss.length := ⟨_, rfl⟩
    have hmk := run_make_row' (P := Try.prog) 46 4 (.bool false) 1 Try.underlying46 Try.zinBoC rfl .i64 .i64 n (by omega) (by omega)
    have hR3 := (unhide HR2).below hb3 (by omega)
    have hq3 : w3.cell? ⟨w.heap.size + 1, 0, none⟩ = some (.slice ua qss.length uc) := by rw [hb3.cell (p := ⟨w.heap.size + 1, 0, none⟩) (by show w.heap.size + 1 < _; omega)]; exact unhide HQ
    obtain ⟨k0, k1, k2, k3, -⟩ := hR3.facts
    rw [← hnn] at k1 HRE hn
    have hR3 : Row4 w3 w.heap.size 32 (.int .i64 base) (.slice la n lc) (.slice ka ks.length kc) (.slice pa pss.length pc) := by rw [hnn]; exact hR3
    have HNN := hide hnn
    have HR3 := hide hR3
    have HQ3 := hide hq3
    have HB3 := hide hB3
    obtain ⟨w4, hw4⟩ : ∃ w4, w4 = w3.alloc (.cells (madeCells #[.bool false] n) 4) := ⟨_, rfl⟩
    have hP4 : w4.rowIs w3.heap.size 4 n (fun i => .bool (smB base ks pss qss 0 i)) := by rw [hw4]; exact (World.rowIs_made w3 _ n _).congr (fun k _ => by rw [smB_zero])
    have hb4 : Below w3.heap.size w3 w4 := by rw [hw4]; exact below1 w3 _
    have hz4 : w3.heap.size + 1 ≤ w4.heap.size := by rw [hw4, sz_alloc]; omega
    have HP4 := hide hP4
    have HB4 := hide hb4
    have HW4 := hide hw4
    clear hyes hrch hb3 hR3 hq3 hB3 hP4 hb4 hw4 hnn HR2 HQ HB2 HGR
    go_wp2_with fail
    rw [← unhide HW4]
    clear HW4 k0 k1 k2 k3
    go_loopw [6] (fun cv wr => ∃ c : Nat, c ≤ qss.length ∧ cv = .int .i64 (c : Nat) ∧ wr.rowIs w3.heap.size 4 n (fun i => .bool (smB base ks pss qss c i)) ∧ Below w3.heap.size w3 wr ∧ w3.heap.size + 1 ≤ wr.heap.size) (fun cv _ => qss.length - (intOf cv).toNat)
    case atStart => exact ⟨0, by omega, rfl, unhide HP4, unhide HB4, hz4⟩
    case round =>
      clear HP4 HB4 hz4
      obtain ⟨c, hc, rfl, hP, hB, hz⟩ := hrel
      obtain ⟨w5, rfl⟩ : ∃ w5, w5 = wr := ⟨_, rfl⟩
      have hR5 := (unhide HR3).below hB (by omega)
      have hq5 : w5.cell? ⟨w.heap.size + 1, 0, none⟩ = some (.slice ua qss.length uc) := by rw [hB.cell (p := ⟨w.heap.size + 1, 0, none⟩) (by show w.heap.size + 1 < _; omega)]; exact unhide HQ3
      obtain ⟨k0, k1, k2, k3, -⟩ := hR5.facts
      have HP := hide hP
      have HB := hide hB
      by_cases hcl : c < qss.length
      · have hcl' : (c : Int) < (qss.length : Int) := by omega
        obtain ⟨w6, hw6⟩ : ∃ w6, w6 = w5.alloc (.cells (madeCells #[.bool false] n) 4) := ⟨_, rfl⟩
        have hM6 : w6.rowIs w5.heap.size 4 n (fun i => .bool (decide (i < 0))) := by rw [hw6]; exact (World.rowIs_made w5 _ n _).congr (fun k _ => by simp)
        have hb6 : Below w5.heap.size w5 w6 := by rw [hw6]; exact below1 w5 _
        have hz6 : w5.heap.size + 1 ≤ w6.heap.size := by rw [hw6, sz_alloc]; omega
        have HM6 := hide hM6
        have HB6 := hide hb6
        have HW6 := hide hw6
        clear hP hB hR5 hM6 hb6 hw6
        go_wp2_with fail
        rw [← unhide HW6]
        clear HW6
        go_loopw [8] (fun iv wx => ∃ i : Nat, i ≤ n ∧ iv = .int .i64 (i : Nat) ∧ wx.rowIs w5.heap.size 4 n (fun k => .bool (decide (k < i))) ∧ Below w5.heap.size w5 wx ∧ w5.heap.size + 1 ≤ wx.heap.size) (fun iv _ => n - (intOf iv).toNat)
        case atStart => exact ⟨0, by omega, rfl, unhide HM6, unhide HB6, hz6⟩
        case round =>
          clear HM6 HB6 hz6
          obtain ⟨i, hi, rfl, hM, hb7, hz7⟩ := hrel
          obtain ⟨w7, rfl⟩ : ∃ w7, w7 = wr := ⟨_, rfl⟩
          by_cases hil : i < n
          · have hil' : (i : Int) < (n : Int) := by omega
            have c0 := hM.cell hil
            have f0 := hM.frozen i
            have hM8 : (w7.setCell ⟨w5.heap.size, i, none⟩ (.bool true)).rowIs w5.heap.size 4 n (fun k => .bool (decide (k < i + 1))) := (World.rowIs.set hM i _).congr (fun k hk => by
              by_cases e : k = i
              · subst e; simp
              · have : decide (k < i + 1) = decide (k < i) := by rw [Bool.eq_iff_iff, decide_eq_true_iff, decide_eq_true_iff]; omega
                simp [e, this])
            have hb8 : Below w5.heap.size w5 (w7.setCell ⟨w5.heap.size, i, none⟩ (.bool true)) := bput hb7 (Nat.le_refl _) _
            have HM8 := hide hM8
            have HB8 := hide hb8
            have HZ8 : Hid (w5.heap.size + 1 ≤ (w7.setCell ⟨w5.heap.size, i, none⟩ (.bool true)).heap.size) := by show _ ≤ _; rw [sz_put]; exact hz7
            clear hM hb7 hM8 hb8
            go_wp2
            go_roundw
            case rel => exact ⟨i + 1, by omega, by go_num, unhide HM8, unhide HB8, unhide HZ8⟩
            case measure => simp [intOf]; omega
          · have hil' : ¬ (i : Int) < (n : Int) := by omega
            have hM7 : w7.rowIs w5.heap.size 4 n (fun k => .bool (mkB base ks pss ((qss[c]?.getD []).take 0) k)) := hM.congr (fun k hk => by
              rw [List.take_zero, mkB_nil, decide_eq_true (by omega : k < i)])
            have HM7 := hide hM7
            have HB7 := hide hb7
            obtain ⟨ts, hts⟩ : ∃ ts, ts = qss[c]?.getD [] := ⟨_, rfl⟩
            rw [← hts] at HM7
            have htl : ts.length ≤ 1000 := by rw [hts]; exact unhide HQC c hcl
            have HTS := hide hts
            clear hM hb7 hM7 hts
            go_wp2_with fail
            go_loopw [7, 9] (fun mv kv wx => mv = .slice (some ⟨w5.heap.size, 0, none⟩) n n ∧ ∃ k : Nat, k ≤ ts.length ∧ kv = .int .i64 (k : Nat) ∧ wx.rowIs w5.heap.size 4 n (fun i => .bool (mkB base ks pss (ts.take k) i)) ∧ Below w5.heap.size w5 wx ∧ w5.heap.size + 1 ≤ wx.heap.size) (fun _ kv _ => ts.length - (intOf kv).toNat)
            case atStart => exact ⟨rfl, 0, by omega, rfl, unhide HM7, unhide HB7, hz7⟩
            case round =>
              clear HM7 HB7 hz7
              obtain ⟨rfl, k, hk, rfl, hM, hb8, hz8⟩ := hrel
              obtain ⟨w8, rfl⟩ : ∃ w8, w8 = wr := ⟨_, rfl⟩
              have hB8 : Below w3.heap.size w3 w8 := (unhide HB).trans (hb8.mono (by omega))
              have hBw8 : Below w.heap.size w w8 := (unhide HB3).trans (hB8.mono (by have := (unhide HB3).size; omega))
              have hR8 := (unhide HR3).below hB8 (by omega)
              have hq8 : w8.cell? ⟨w.heap.size + 1, 0, none⟩ = some (.slice ua qss.length uc) := by rw [hB8.cell (p := ⟨w.heap.size + 1, 0, none⟩) (by show w.heap.size + 1 < _; omega)]; exact unhide HQ3
              obtain ⟨y0, y1, y2, y3, -⟩ := hR8.facts
              obtain ⟨qb, qo, sa, sc, rfl, hqc, hqs⟩ := unhide HUS w8 hBw8 c hcl
              rw [← unhide HTS] at hqc hqs
              by_cases hkl : k < ts.length
              · have hkl' : (k : Int) < (ts.length : Int) := by omega
                obtain ⟨a9, c9, e9, -, hc9⟩ := id hqs
                cases e9
                obtain ⟨tb, to, rfl, -, -, htc⟩ := hc9 (by omega)
                have z0 := htc k hkl
                obtain ⟨t, ht⟩ : ∃ t, t = ts[k]?.getD 0 := ⟨_, rfl⟩
                rw [← ht] at z0
                unfold mI at z0
                have HN := hide (l4narrow_any _ base t xss pss ks w5.heap.size n (mkB base ks pss (ts.take k)) w8.drew (((unhide HV).below hBw8 (Nat.le_refl _)).below (Below.refl w8.heap.size w8).drew (Nat.le_refl _)) hn hks htp (hM.of_block rfl))
                rw [← unhide HNN] at HN
                have HTK : Hid (ts.take (k + 1) = ts.take k ++ [t]) := by rw [ht]; exact take_snoc hkl
                have HB8 := hide hb8
                clear hM hb8 hB8 hBw8 hR8 hqs htc hc9 ht
                go_wp2_with fail
                refine wp_region_quiet_tail 10 (by kernel_rfl) (by kernel_rfl) ?_
                simp only [List.take_succ_cons, List.take_zero, List.drop_succ_cons, List.drop_zero]
                repeat (first | go_big_quiet_skip | (go_big_quiet_want; go_big_quiet_op; go_big_quiet_on))
                refine wpQuiet_nil ?_
                go_wp2_with fail
                refine (unhide HN).mono ?_
                rintro e w9 ⟨rfl, hM9, hf9⟩
                have hM9 : w9.rowIs w5.heap.size 4 n (fun i => .bool (mkB base ks pss (ts.take (k + 1)) i)) := hM9.congr (fun i _ => by rw [unhide HTK, mkB_snoc])
                have hb9 : Below w5.heap.size w5 w9 := (unhide HB8).trans ⟨hf9.os, hf9.tape, hf9.output, hf9.size, fun q hq => hf9.block q (by have : w8.drew.heap.size = w8.heap.size := rfl; rintro (h | h) <;> omega)⟩
                have hz9 : w5.heap.size + 1 ≤ w9.heap.size := Nat.le_trans hz8 hf9.size
                have HM9 := hide hM9
                have HB9 := hide hb9
                clear hM9 hf9 hb9 HN HB8 z0 hqc y0 y1 y2 y3
                go_wp2
                go_roundw
                case rel => exact ⟨by first | trivial | rfl, k + 1, by omega, by go_num, unhide HM9, unhide HB9, hz9⟩
                case measure => simp [intOf]; omega
              · have hkl' : ¬ (k : Int) < (ts.length : Int) := by omega
                have hM8 : w8.rowIs w5.heap.size 4 n (fun i => .bool (mkB base ks pss ts i)) := hM.congr (fun i _ => by rw [List.take_of_length_le (by omega)])
                have hP8 := (unhide HP).of_block (hb8.block _ (by omega))
                have HM8 := hide hM8
                have HP8 := hide hP8
                have HB8 := hide hB8
                clear hM hb8 hB8 hM8 hP8 hR8 hqs hBw8
                go_wp2_with fail
                go_loopw [10] (fun iv wx => ∃ i : Nat, i ≤ n ∧ iv = .int .i64 (i : Nat) ∧ wx.rowIs w3.heap.size 4 n (fun k => .bool (smB base ks pss qss c k || (decide (k < i) && mkB base ks pss ts k))) ∧ Obk w3.heap.size w8 wx) (fun iv _ => n - (intOf iv).toNat)
                case atStart => exact ⟨0, by omega, rfl, (unhide HP8).congr (fun k _ => by simp), ⟨rfl, rfl, rfl, rfl, fun _ _ => rfl⟩⟩
                case round =>
                  obtain ⟨i, hi, rfl, hS, hob⟩ := hrel
                  obtain ⟨w9, rfl⟩ : ∃ w9, w9 = wr := ⟨_, rfl⟩
                  have hM9 := (unhide HM8).of_block (hob.block _ (by omega))
                  by_cases hil : i < n
                  · have hil' : (i : Int) < (n : Int) := by omega
                    have c0 := hS.cell hil
                    have f0 := hS.frozen i
                    have c1 := hM9.cell hil
                    rw [show decide (i < i) = false from decide_eq_false (by omega)] at c0
                    simp only [Bool.false_and, Bool.or_false] at c0
                    have hfr : ∀ y : Bool, y = (smB base ks pss qss c i || mkB base ks pss ts i) → (w9.setCell ⟨w3.heap.size, i, none⟩ (.bool y)).rowIs w3.heap.size 4 n (fun k => .bool (smB base ks pss qss c k || (decide (k < i + 1) && mkB base ks pss ts k))) ∧ Obk w3.heap.size w8 (w9.setCell ⟨w3.heap.size, i, none⟩ (.bool y)) := fun y hy => by
                      refine ⟨(World.rowIs.set hS i _).congr (fun k hk => ?_), hob.trans (obk_put i _)⟩
                      by_cases e : k = i
                      · subst e; simp [hy]
                      · have : decide (k < i + 1) = decide (k < i) := by rw [Bool.eq_iff_iff, decide_eq_true_iff, decide_eq_true_iff]; omega
                        simp [e, this]
                    obtain ⟨y1, hy1⟩ : ∃ y1, y1 = smB base ks pss qss c i := ⟨_, rfl⟩
                    obtain ⟨y2, hy2⟩ : ∃ y2, y2 = mkB base ks pss ts i := ⟨_, rfl⟩
                    rw [← hy1] at c0
                    rw [← hy2] at c1
                    rw [← hy1, ← hy2] at hfr
                    clear hy1 hy2 hS hob hM9
                    cases y1 with
                    | false =>
                      have HFR := hide (hfr y2 (by simp))
                      clear hfr
                      go_wp2
                      go_roundw
                      case rel => exact ⟨i + 1, by omega, by go_num, (unhide HFR).1, (unhide HFR).2⟩
                      case measure => simp [intOf]; omega
                    | true =>
                      have HFR := hide (hfr true (by simp))
                      clear hfr
                      go_wp2
                      go_roundw
                      case rel => exact ⟨i + 1, by omega, by go_num, (unhide HFR).1, (unhide HFR).2⟩
                      case measure => simp [intOf]; omega
                  · have hil' : ¬ (i : Int) < (n : Int) := by omega
                    have hP9 : w9.rowIs w3.heap.size 4 n (fun k => .bool (smB base ks pss qss (c + 1) k)) := hS.congr (fun k hk => by rw [smB_succ, ← unhide HTS, decide_eq_true (by omega : k < i), Bool.true_and])
                    have hB9 : Below w3.heap.size w3 w9 := (unhide HB8).trans ⟨hob.os, hob.tape, hob.output, by rw [hob.size]; exact Nat.le_refl _, fun q hq => hob.block q (by omega)⟩
                    have HP9 := hide hP9
                    have HB9 := hide hB9
                    have HZ9 : Hid (w3.heap.size + 1 ≤ w9.heap.size) := by show _ ≤ _; rw [hob.size]; omega
                    clear hS hob hM9 hP9 hB9
                    go_wp2
                    go_roundw
                    case rel => exact ⟨c + 1, by omega, by go_num, unhide HP9, unhide HB9, unhide HZ9⟩
                    case measure => simp [intOf]; omega
      · have hcl' : ¬ (c : Int) < (qss.length : Int) := by omega
        have hP5 : w5.rowIs w3.heap.size 4 n (fun i => .bool (smB base ks pss qss qss.length i)) := by rw [show qss.length = c by omega]; exact hP
        have HRE2 : Hid (R = cndL base n (smB base ks pss qss qss.length)) := by rw [unhide HRE]; exact rfl
        have HP5 := hide hP5
        have hBw5 : Below w.heap.size w w5 := (unhide HB3).trans (hB.mono (by have := (unhide HB3).size; omega))
        have HBW5 := hide hBw5
        have HR5 := hide hR5
        have hwl := (unhide HB3).size
        clear hP hB hP5 hR5 hBw5 k0 k1 k2 k3
        go_wp2_with fail
        go_loopw [11, 12] (fun av iv wx => ∃ (i : Nat) (zs : List Int), i ≤ n ∧ iv = .int .i64 (i : Nat) ∧ zs = cndL base i (smB base ks pss qss qss.length) ∧ wx.ownsRow w5.heap.size 3 1 av zs.length (zs.map mI) ∧ Below w5.heap.size w5 wx) (fun _ iv _ => n - (intOf iv).toNat)
        case atStart => exact ⟨0, [], by omega, rfl, rfl, World.ownsRow_nil _ _ _ _, Below.refl _ _⟩
        case round =>
          obtain ⟨i, zs, hi, rfl, hzs, hown, hb⟩ := hrel
          obtain ⟨w6, rfl⟩ : ∃ w6, w6 = wr := ⟨_, rfl⟩
          have hz6 := hb.size
          have hP6 := (unhide HP5).of_block (hb.block _ (by omega))
          have hR6 := (unhide HR5).below hb (by omega)
          obtain ⟨k0, k1, k2, k3, -⟩ := hR6.facts
          obtain ⟨av, ac, e1⟩ := own_is hown
          subst e1
          have hzl : zs.length ≤ 1000 := by rw [hzs]; exact Nat.le_trans (cndL_len _ _ _) (by omega)
          have HOWN := hide hown
          have HB := hide hb
          by_cases hil : i < n
          · have hil' : (i : Int) < (n : Int) := by omega
            have c0 := hP6.cell hil
            obtain ⟨y, hy⟩ : ∃ y, y = smB base ks pss qss qss.length i := ⟨_, rfl⟩
            rw [← hy] at c0
            cases y with
            | false =>
              have HZ : Hid (zs = cndL base (i + 1) (smB base ks pss qss qss.length)) := by rw [cndL_no (by rw [← hy]; simp)]; exact hzs
              clear hzs hown hb hP6 hR6 hy
              go_wp2
              go_roundw
              case rel => exact ⟨i + 1, zs, by omega, by go_num, unhide HZ, unhide HOWN, unhide HB⟩
              case measure => simp [intOf]; omega
            | true =>
              have HZ : Hid (zs ++ [wrap64 (base + i)] = cndL base (i + 1) (smB base ks pss qss qss.length)) := by show zs ++ _ = _; rw [cndL_yes (by rw [← hy]), ← hzs]
              obtain ⟨z, hz⟩ : ∃ z, z = wrap64 (base + i) := ⟨_, rfl⟩
              clear hzs hown hb hP6 hR6 hy
              go_wp2_with (at_builtin; refine app_i1 rfl _ _ rfl w5.heap.size (.slice av zs.length ac) rfl (wrap64 (base + i)) rfl zs (unhide HOWN) ?_ ?_ ?_)
              · omega
              · omega
              intro v7 w7 r1 r2
              obtain ⟨zs2, hzs2⟩ : ∃ zs2, zs2 = zs ++ [wrap64 (base + i)] := ⟨_, rfl⟩
              have r1 : w7.ownsRow w5.heap.size 3 1 v7 zs2.length (zs2.map mI) := by rw [hzs2, List.length_append, List.map_append]; exact r1
              rw [← hzs2] at HZ
              obtain ⟨a7, c7, e7⟩ := own_is r1
              subst e7
              have HO7 := hide r1
              have HB7 := hide ((unhide HB).trans r2)
              clear r1 r2 hzs2 HOWN HB c0 k0 k1 k2 k3
              go_wp2
              go_roundw
              case rel => exact ⟨i + 1, zs2, by omega, by go_num, unhide HZ, unhide HO7, unhide HB7⟩
              case measure => simp [intOf]; omega
          · have hil' : ¬ (i : Int) < (n : Int) := by omega
            have hzR : zs = R := by rw [hzs, unhide HRE2, show i = n by omega]
            have HZR := hide hzR
            clear hzs hown hb hP6 hR6 hzR
            go_wp2
            go_ret
            rw [← unhide HZR]
            exact ⟨_, rfl, own_low (unhide HOWN) (unhide HBW5).size, (unhide HBW5).trans ((unhide HB).mono (unhide HBW5).size)⟩

end Go.Proofs.Ytfjnhmgmcldidaa
