import Derived.Test.YtfjnhmgmcldidaaCa1
import Derived.Test.YtfjnhmgmcldidaaOb
namespace Go.Proofs.Ytfjnhmgmcldidaa
open Go.RowKit

theorem grown_bel {base e sz n : Nat} {w w' : World} {v : Value} {xs : List Value} (h : w.ownsRow base e sz v n xs) (hb : base ≤ w.heap.size) (r : w.grownBy w' v.ownBlock) : Below base w w' :=
  ⟨r.os, r.tape, r.output, r.size, fun k hk => r.block k (by omega) (fun e9 => by have := (h.lt k e9.symm).1; omega)⟩
/-- A readable list of numbers is put behind a row that is owned. -/
theorem app_sl {w : World} {ops : Array Oper} {rest : List Oper} {o : Oper} {a : Act} {Q : Exit → Act → World → Prop} (hgd : o.guard = none) (s x : Operand)
    (ho : o.op = .call { callee := .builtin .append, args := #[s, x], argTypes := #[23, 23] }) (base : Nat) (v : Value) (hs : a.eval s = v) (xs : List Int) (h1 : w.ownsRow base 3 1 v xs.length (xs.map mI)) (sa : Option Addr) (sc : Nat) (ys : List Int) (hx : a.eval x = .slice sa ys.length sc)
    (hy : SlAt mI 0 0 w.heap.size w (.slice sa ys.length sc) ys) (hb : base ≤ w.heap.size) (hl : xs.length + ys.length ≤ 2000000)
    (h : ∀ v' w', w'.ownsRow base 3 1 v' (xs ++ ys).length ((xs ++ ys).map mI) → Below base w w' → wpList Try.prog ops Q rest (a.put o.dst v') w') : wpList Try.prog ops Q (o :: rest) a w := by
  obtain ⟨i0, hi, hz0, hz1, hz2⟩ := info_parts Try.zinInt
  obtain ⟨a', c', e, -, hc⟩ := hy
  cases e
  cases sa with
  | none =>
    have hn : ys.length = 0 := by
      apply Nat.eq_zero_of_not_pos
      intro hp
      obtain ⟨b, off, e, -⟩ := hc hp
      cases e
    have : ys = [] := List.eq_nil_of_length_eq_zero hn
    subst this
    exact wpList_append_none_c hgd s x 23 ho base 3 i0 1 Try.underlying23 hi v xs.length _ hs h1 sc hx (h v w (by simpa using h1) (Below.refl _ _))
  | some ad =>
    refine wpList_append_own_at w hgd s x 23 ho base 3 i0 (.int .i64 0) 1 8 Try.underlying23 hi hz0 hz1 hz2 rfl (by decide) v xs.length (xs.map mI) hs h1 ad ys.length sc (ys.map mI) hx (by simp) (fun j u hu => ?_) (fun u hu => ?_) (by unfold maxLen; omega) (by omega) hb ?_
    · rw [List.getElem?_map] at hu
      have hj : j < ys.length := by
        apply Nat.lt_of_not_le
        intro hle
        rw [List.getElem?_eq_none hle] at hu
        cases hu
      obtain ⟨b, off, e, -, -, hcell⟩ := hc (by omega)
      cases e
      rw [List.getElem?_eq_getElem hj] at hu
      have := hcell j hj
      rw [List.getElem?_eq_getElem hj] at this
      rw [show (⟨b, off, none⟩ : Addr).add j = ⟨b, off + j, none⟩ by cases j <;> rfl]
      rw [this]
      exact hu
    · obtain ⟨z, -, rfl⟩ := List.mem_map.1 hu
      rfl
    intro v' w' r1 r2 _ _
    refine h v' w' ?_ (grown_bel h1 hb r2)
    rw [List.length_append, List.map_append]
    exact r1
set_option maxHeartbeats 4000000 in
set_option maxRecDepth 100000 in
theorem l4narrow_any (v : Value) (base t : Int) (xss pss : List (List Int)) (ks : List Int) (mb n : Nat) (m : Nat → Bool) (w : World) (hv : SegRd w v base xss ks pss) (hn : n ≤ 1000) (hks : ks.length ≤ 20000) (htp : tot pss ≤ 1048576) (hm : w.rowIs mb 4 n (fun i => .bool (m i))) :
    Calls Try.prog 21 #[v, .int .i64 t, .slice (some ⟨mb, 0, none⟩) n n] w fun e w' => e = .returned (.slice (some ⟨mb, 0, none⟩) n n) ∧ w'.rowIs mb 4 n (fun i => .bool (m i && lstB base ks pss t i)) ∧ FrO (fun k => k = mb ∨ w.heap.size ≤ k) w w' := by
  obtain ⟨lv, kv, pv, rfl, h1, h2, h3⟩ := hv
  obtain ⟨la, lc, rfl, -, -⟩ := id h1
  obtain ⟨ka, kc, rfl, -, hkc⟩ := id h2
  obtain ⟨W1, hW1⟩ : ∃ W1, W1 = w.alloc (.cells #[.int .i64 base, .slice la xss.length lc, .slice ka ks.length kc, pv] 32) := ⟨_, rfl⟩
  have hB1 : Below w.heap.size w W1 := by rw [hW1]; exact below1 w _
  have hz1 : W1.heap.size = w.heap.size + 1 := by rw [hW1, sz_alloc]
  have hR1 : Row4 W1 w.heap.size 32 (.int .i64 base) (.slice la xss.length lc) (.slice ka ks.length kc) pv := by rw [hW1]; exact Row4.new w _ _ _ _ _
  obtain ⟨pa, pc, rfl, hpl, hps⟩ := ss_at h3
  have hml := hm.lt
  have HK : Hid (∀ W, Below w.heap.size w W → ∀ j : Nat, j < ks.length → ∃ kb ko, ka = some ⟨kb, ko, none⟩ ∧ W.cell? ⟨kb, ko + j, none⟩ = some (.int .i64 (ks[j]?.getD 0))) := fun W hW j hj => by
    obtain ⟨kb, ko, rfl, -, hkb, hcell⟩ := hkc (by omega)
    exact ⟨kb, ko, rfl, by rw [hW.cell (p := ⟨kb, ko + j, none⟩) hkb]; exact hcell j hj⟩
  have HPS : Hid (∀ W, Below w.heap.size w W → ∀ j : Nat, j < pss.length → ∃ b off sa sc, pa = some ⟨b, off, none⟩ ∧ W.cell? ⟨b, off + j, none⟩ = some (.slice sa (pss[j]?.getD []).length sc) ∧ SlAt mI 0 0 W.heap.size W (.slice sa (pss[j]?.getD []).length sc) (pss[j]?.getD [])) := fun W hW j hj => by
    obtain ⟨b, off, sa, sc, rfl, hb, hcell, hsl, -⟩ := hps j hj
    exact ⟨b, off, sa, sc, rfl, by rw [hW.cell (p := ⟨b, off + j, none⟩) hb]; exact hcell, hsl.below hW (Nat.le_refl _)⟩
  have HW1 := hide hW1
  have HB1 := hide hB1
  have HR1 := hide hR1
  have HM := hide hm
  have HTP := hide htp
  have hz1' : w.heap.size + 1 ≤ W1.heap.size := by omega
  clear h1 h2 h3 hkc hps hW1 hB1 hR1 hm hz1 htp
  go_enter Try.func21, Try.ntmps21
  go_wp2_with fail
  rw [← unhide HW1]
  clear HW1
  go_loopw [7, 8] (fun av jv wr => ∃ (j : Nat) (zs : List Int), j ≤ ks.length ∧ j ≤ pss.length ∧ jv = .int .i64 (j : Nat) ∧ wr.ownsRow (w.heap.size + 1) 3 1 av zs.length (zs.map mI) ∧ (∀ z, z ∈ zs ↔ ∃ j', j' < j ∧ ks[j']?.getD 0 = t ∧ z ∈ pss[j']?.getD []) ∧ zs.length ≤ tot (pss.take j) ∧ Below (w.heap.size + 1) W1 wr) (fun _ jv _ => ks.length - (intOf jv).toNat)
  case atStart => exact ⟨0, [], by omega, by omega, rfl, World.ownsRow_nil _ _ _ _, fun z => by simp, by simp [tot], Below.refl _ _⟩
  case round =>
    obtain ⟨j, zs, hj1, hj2, rfl, hown, hmem, hzl, hB⟩ := hrel
    obtain ⟨w2, rfl⟩ : ∃ w2, w2 = wr := ⟨_, rfl⟩
    have hR2 := (unhide HR1).below hB (by omega)
    obtain ⟨k0, k1, k2, k3, -⟩ := hR2.facts
    have hB2 : Below w.heap.size w w2 := (unhide HB1).trans (hB.mono (by omega))
    have hz2 := hB.size
    have htk := tot_take pss j
    have htp2 := unhide HTP
    obtain ⟨av, ac, e1⟩ := own_is hown
    subst e1
    have HR2 := hide hR2
    have HMEM := hide hmem
    by_cases hlk : j < ks.length
    · by_cases hlp : j < pss.length
      · have hlk' : (j : Int) < (ks.length : Int) := by omega
        have hlp' : (j : Int) < (pss.length : Int) := by omega
        obtain ⟨kb, ko, rfl, hkcell⟩ := unhide HK w2 hB2 j hlk
        obtain ⟨b, off, sa, sc, rfl, hpcell, hpsl⟩ := unhide HPS w2 hB2 j hlp
        have hts := tot_step pss j hlp
        have htk2 := tot_take pss (j + 1)
        obtain ⟨kj, hkj⟩ : ∃ kj, kj = ks[j]?.getD 0 := ⟨_, rfl⟩
        obtain ⟨pj, hpj⟩ : ∃ pj, pj = pss[j]?.getD [] := ⟨_, rfl⟩
        rw [← hkj] at hkcell
        rw [← hpj] at hpcell hpsl hts
        have HOWN := hide hown
        have HB := hide hB
        have HPSL := hide hpsl
        by_cases heq : kj = t
        · have HMEM2 : Hid (∀ z, z ∈ zs ++ pj ↔ ∃ j', j' < j + 1 ∧ ks[j']?.getD 0 = t ∧ z ∈ pss[j']?.getD []) := fun z => by
            rw [List.mem_append, hmem z]
            constructor
            · rintro (⟨j', q1, q2, q3⟩ | q)
              · exact ⟨j', by omega, q2, q3⟩
              · exact ⟨j, by omega, by rw [← hkj]; exact heq, by rw [← hpj]; exact q⟩
            · rintro ⟨j', q1, q2, q3⟩
              by_cases e9 : j' = j
              · subst e9; rw [← hpj] at q3; exact .inr q3
              · exact .inl ⟨j', by omega, q2, q3⟩
          have HZL2 : Hid ((zs ++ pj).length ≤ tot (pss.take (j + 1))) := by show (zs ++ pj).length ≤ _; rw [List.length_append]; omega
          clear hown hB hpsl hmem hkj hpj hB2 hR2
          subst heq
          go_wp2_with (at_builtin; refine app_sl rfl _ _ rfl (w.heap.size + 1) (.slice av zs.length ac) rfl zs (unhide HOWN) sa sc pj rfl (unhide HPSL) ?_ ?_ ?_)
          · omega
          · omega
          intro v3 w3 r1 r2
          obtain ⟨zs2, hzs2⟩ : ∃ zs2, zs2 = zs ++ pj := ⟨_, rfl⟩
          have r1 : w3.ownsRow (w.heap.size + 1) 3 1 v3 zs2.length (zs2.map mI) := by rw [hzs2, List.length_append, List.map_append]; exact r1
          rw [← hzs2] at HMEM2 HZL2
          obtain ⟨a3, c3, e3⟩ := own_is r1
          subst e3
          have HO3 := hide r1
          have HB3 := hide ((unhide HB).trans r2)
          clear r1 r2 hzs2 HOWN HB HPSL k0 k1 k2 k3 hkcell hpcell
          go_wp2
          go_roundw
          case rel => exact ⟨j + 1, zs2, by omega, by omega, by go_num, unhide HO3, unhide HMEM2, unhide HZL2, unhide HB3⟩
          case measure => simp [intOf]; omega
        · have HMEM2 : Hid (∀ z, z ∈ zs ↔ ∃ j', j' < j + 1 ∧ ks[j']?.getD 0 = t ∧ z ∈ pss[j']?.getD []) := fun z => by
            rw [hmem z]
            constructor
            · rintro ⟨j', q1, q2, q3⟩
              exact ⟨j', by omega, q2, q3⟩
            · rintro ⟨j', q1, q2, q3⟩
              by_cases e9 : j' = j
              · subst e9; rw [← hkj] at q2; exact absurd q2 heq
              · exact ⟨j', by omega, q2, q3⟩
          have HZL2 : Hid (zs.length ≤ tot (pss.take (j + 1))) := by show zs.length ≤ _; omega
          clear hown hB hpsl hmem hkj hpj hB2 hR2
          go_wp2
          go_roundw
          case rel => exact ⟨j + 1, zs, by omega, by omega, by go_num, unhide HOWN, unhide HMEM2, unhide HZL2, unhide HB⟩
          case measure => simp [intOf]; omega
      · have hlk' : (j : Int) < (ks.length : Int) := by omega
        have hlp' : ¬ (j : Int) < (pss.length : Int) := by omega
        have hend : ∀ z, z ∈ zs ↔ ∃ j', j' < ks.length ∧ j' < pss.length ∧ ks[j']?.getD 0 = t ∧ z ∈ pss[j']?.getD [] := fun z => by
          rw [hmem z]
          constructor
          · rintro ⟨j', q1, q2, q3⟩; exact ⟨j', by omega, by omega, q2, q3⟩
          · rintro ⟨j', q1, q2, q3, q4⟩; exact ⟨j', by omega, q3, q4⟩
        have HEND := hide hend
        have hslz : SlAt mI 0 0 w2.heap.size w2 (.slice av zs.length ac) zs := (own_slw hown (Nat.zero_le _) (by unfold maxLen; omega)).at
        have HOR := hide (l3order_any zs.length (.slice av zs.length ac) zs w2 (Nat.le_refl _) (by omega) hslz (own_cap hown))
        have HB := hide hB
        have HB2 := hide hB2
        clear hown hB hmem HMEM hend hslz hB2 hR2
        go_wp2_with fail
        refine (unhide HOR).mono ?_
        rintro e w3 ⟨⟨ov, os, rfl, hord, hol, hosl⟩, hb3⟩
        have hz3 := hb3.size
        have hR3 := (unhide HR2).below hb3 (by omega)
        have hosa : SlAt mI 0 0 w3.heap.size w3 ov os := hosl.at.mono (Nat.zero_le _) (Nat.le_refl _)
        obtain ⟨oa, oc, e4, -, -⟩ := id hosa
        subst e4
        have hB3 : Below w.heap.size w w3 := (unhide HB2).trans (hb3.mono (by omega))
        have hm3 := (unhide HM).of_block (hB3.block mb hml)
        have HLST : Hid (∀ i : Nat, (wrap64 (base + i) ∈ os ↔ Lst base ks pss t i)) := fun i => by
          rw [hord.mem, unhide HEND]
          unfold Lst
          exact Iff.rfl
        have HNE : Hid (∀ b off, oa = some ⟨b, off, none⟩ → 0 < os.length → b ≠ mb) := fun b off e hp => by
          obtain ⟨a9, c9, e9, -, q2⟩ := id hosl
          have e8 : oa = a9 := by cases e9; rfl
          obtain ⟨b2, off2, e7, q3, -⟩ := q2 hp
          rw [e8, e7] at e
          cases e
          omega
        have HOS := hide hosa
        have HASC := hide hord.asc
        have HR3 := hide hR3
        have HB3 := hide hB3
        have HM3 := hide hm3
        have hol2 : os.length ≤ 1048576 := by omega
        have hoR : mb ≠ w.heap.size := by omega
        clear hord hosl hb3 hR3 hosa hB3 hm3 HOR HEND HR2 HB HB2 k0 k1 k2 k3
        go_wp2_with fail
        go_loopw [9] (fun iv wr => ∃ i : Nat, i ≤ n ∧ iv = .int .i64 (i : Nat) ∧ wr.rowIs mb 4 n (fun k => .bool (m k && (decide (i ≤ k) || lstB base ks pss t k))) ∧ Obk mb w3 wr) (fun iv _ => n - (intOf iv).toNat)
        case atStart => exact ⟨0, by omega, rfl, (unhide HM3).congr (fun k _ => by simp), ⟨rfl, rfl, rfl, rfl, fun _ _ => rfl⟩⟩
        case round =>
          obtain ⟨i, hi, rfl, hrow, hob⟩ := hrel
          obtain ⟨w4, rfl⟩ : ∃ w4, w4 = wr := ⟨_, rfl⟩
          have hR4 := World.rowIs.of_block (unhide HR3) (hob.block w.heap.size (by omega))
          obtain ⟨k0, k1, k2, k3, -⟩ := Row4.facts hR4
          by_cases hlt : i < n
          · have hlt' : (i : Int) < (n : Int) := by omega
            have hci := hrow.cell hlt
            have hfi := hrow.frozen i
            have hfr : ∀ y : Bool, y = lstB base ks pss t i → (w4.setCell ⟨mb, i, none⟩ (.bool (m i && y))).rowIs mb 4 n (fun k => .bool (m k && (decide (i + 1 ≤ k) || lstB base ks pss t k))) ∧ Obk mb w3 (w4.setCell ⟨mb, i, none⟩ (.bool (m i && y))) := fun y hy => by
              refine ⟨(World.rowIs.set hrow i _).congr (fun k hk => ?_), hob.trans (obk_put i _)⟩
              by_cases e : k = i
              · subst e; have e5 : decide (k + 1 ≤ k) = false := decide_eq_false (by omega); simp [hy, e5]
              · have : (decide (i + 1 ≤ k)) = decide (i ≤ k) := by rw [Bool.eq_iff_iff, decide_eq_true_iff, decide_eq_true_iff]; omega
                simp [e, this]
            cases hmi : m i with
            | false =>
              rw [hmi] at hci hfr
              simp only [Bool.false_and] at hci
              have HFR := hide (hfr _ rfl)
              simp only [Bool.false_and] at HFR
              clear hfr hmi hrow hob hR4
              go_wp2
              go_roundw
              case rel => exact ⟨i + 1, by omega, by go_num, (unhide HFR).1, (unhide HFR).2⟩
              case measure => simp [intOf]; omega
            | true =>
              rw [hmi] at hci hfr
              simp only [Bool.true_and, decide_true, Bool.true_or, Nat.le_refl] at hci
              have hosl4 : SlAt mI 0 0 w4.heap.size w4 (.slice oa os.length oc) os := by
                obtain ⟨a9, c9, e9, q1, q2⟩ := unhide HOS
                cases e9
                refine ⟨_, _, rfl, q1, fun hp => ?_⟩
                obtain ⟨b, off, rfl, q3, q4, q5⟩ := q2 hp
                refine ⟨b, off, rfl, q3, by rw [hob.size]; exact q4, fun k hk => ?_⟩
                rw [World.cell?_of_block (a := ⟨b, off + k, none⟩) (hob.block b (unhide HNE b off rfl hp))]
                exact q5 k hk
              have HFO := hide (l3found_any (.slice oa os.length oc) os (wrap64 (base + i)) w4 hosl4 (unhide HASC) hol2)
              have HFR := hide hfr
              clear hfr hmi hrow hob hR4 hosl4
              go_wp2_with fail
              refine (unhide HFO).mono ?_
              rintro e w5 ⟨⟨y, rfl, hy⟩, rfl⟩
              have hyl : y = lstB base ks pss t i := by rw [Bool.eq_iff_iff, hy, lstB_iff]; exact unhide HLST i
              have HFR2 := hide (unhide HFR y hyl)
              simp only [Bool.true_and] at HFR2
              clear hy hyl HFO HFR
              go_wp2
              go_roundw
              case rel => exact ⟨i + 1, by omega, by go_num, (unhide HFR2).1, (unhide HFR2).2⟩
              case measure => simp [intOf]; omega
          · have hlt' : ¬ (i : Int) < (n : Int) := by omega
            have hx : w4.rowIs mb 4 n (fun k => .bool (m k && lstB base ks pss t k)) := hrow.congr (fun k hk => by
              have : decide (i ≤ k) = false := decide_eq_false (by omega)
              simp [this])
            have HX := hide hx
            have HFRO : Hid (FrO (fun k => k = mb ∨ w.heap.size ≤ k) w w4) := ⟨hob.os.trans (unhide HB3).os, hob.tape.trans (unhide HB3).tape, hob.output.trans (unhide HB3).output, by rw [hob.size]; exact (unhide HB3).size, fun k hk => (hob.block k (fun e => hk (.inl e))).trans ((unhide HB3).block k (by apply Nat.lt_of_not_le; intro e; exact hk (.inr e)))⟩
            clear hx hrow hob hR4
            go_wp2
            go_ret
            exact ⟨rfl, unhide HX, unhide HFRO⟩
    · have hlk' : ¬ (j : Int) < (ks.length : Int) := by omega
      have hend : ∀ z, z ∈ zs ↔ ∃ j', j' < ks.length ∧ j' < pss.length ∧ ks[j']?.getD 0 = t ∧ z ∈ pss[j']?.getD [] := fun z => by
        rw [hmem z]
        constructor
        · rintro ⟨j', q1, q2, q3⟩; exact ⟨j', by omega, by omega, q2, q3⟩
        · rintro ⟨j', q1, q2, q3, q4⟩; exact ⟨j', by omega, q3, q4⟩
      have HEND := hide hend
      have hslz : SlAt mI 0 0 w2.heap.size w2 (.slice av zs.length ac) zs := (own_slw hown (Nat.zero_le _) (by unfold maxLen; omega)).at
      have HOR := hide (l3order_any zs.length (.slice av zs.length ac) zs w2 (Nat.le_refl _) (by omega) hslz (own_cap hown))
      have HB := hide hB
      have HB2 := hide hB2
      clear hown hB hmem HMEM hend hslz hB2 hR2
      go_wp2_with fail
      refine (unhide HOR).mono ?_
      rintro e w3 ⟨⟨ov, os, rfl, hord, hol, hosl⟩, hb3⟩
      have hz3 := hb3.size
      have hR3 := (unhide HR2).below hb3 (by omega)
      have hosa : SlAt mI 0 0 w3.heap.size w3 ov os := hosl.at.mono (Nat.zero_le _) (Nat.le_refl _)
      obtain ⟨oa, oc, e4, -, -⟩ := id hosa
      subst e4
      have hB3 : Below w.heap.size w w3 := (unhide HB2).trans (hb3.mono (by omega))
      have hm3 := (unhide HM).of_block (hB3.block mb hml)
      have HLST : Hid (∀ i : Nat, (wrap64 (base + i) ∈ os ↔ Lst base ks pss t i)) := fun i => by
        rw [hord.mem, unhide HEND]
        unfold Lst
        exact Iff.rfl
      have HNE : Hid (∀ b off, oa = some ⟨b, off, none⟩ → 0 < os.length → b ≠ mb) := fun b off e hp => by
        obtain ⟨a9, c9, e9, -, q2⟩ := id hosl
        have e8 : oa = a9 := by cases e9; rfl
        obtain ⟨b2, off2, e7, q3, -⟩ := q2 hp
        rw [e8, e7] at e
        cases e
        omega
      have HOS := hide hosa
      have HASC := hide hord.asc
      have HR3 := hide hR3
      have HB3 := hide hB3
      have HM3 := hide hm3
      have hol2 : os.length ≤ 1048576 := by omega
      have hoR : mb ≠ w.heap.size := by omega
      clear hord hosl hb3 hR3 hosa hB3 hm3 HOR HEND HR2 HB HB2 k0 k1 k2 k3
      go_wp2_with fail
      go_loopw [9] (fun iv wr => ∃ i : Nat, i ≤ n ∧ iv = .int .i64 (i : Nat) ∧ wr.rowIs mb 4 n (fun k => .bool (m k && (decide (i ≤ k) || lstB base ks pss t k))) ∧ Obk mb w3 wr) (fun iv _ => n - (intOf iv).toNat)
      case atStart => exact ⟨0, by omega, rfl, (unhide HM3).congr (fun k _ => by simp), ⟨rfl, rfl, rfl, rfl, fun _ _ => rfl⟩⟩
      case round =>
        obtain ⟨i, hi, rfl, hrow, hob⟩ := hrel
        obtain ⟨w4, rfl⟩ : ∃ w4, w4 = wr := ⟨_, rfl⟩
        have hR4 := World.rowIs.of_block (unhide HR3) (hob.block w.heap.size (by omega))
        obtain ⟨k0, k1, k2, k3, -⟩ := Row4.facts hR4
        by_cases hlt : i < n
        · have hlt' : (i : Int) < (n : Int) := by omega
          have hci := hrow.cell hlt
          have hfi := hrow.frozen i
          have hfr : ∀ y : Bool, y = lstB base ks pss t i → (w4.setCell ⟨mb, i, none⟩ (.bool (m i && y))).rowIs mb 4 n (fun k => .bool (m k && (decide (i + 1 ≤ k) || lstB base ks pss t k))) ∧ Obk mb w3 (w4.setCell ⟨mb, i, none⟩ (.bool (m i && y))) := fun y hy => by
            refine ⟨(World.rowIs.set hrow i _).congr (fun k hk => ?_), hob.trans (obk_put i _)⟩
            by_cases e : k = i
            · subst e; have e5 : decide (k + 1 ≤ k) = false := decide_eq_false (by omega); simp [hy, e5]
            · have : (decide (i + 1 ≤ k)) = decide (i ≤ k) := by rw [Bool.eq_iff_iff, decide_eq_true_iff, decide_eq_true_iff]; omega
              simp [e, this]
          cases hmi : m i with
          | false =>
            rw [hmi] at hci hfr
            simp only [Bool.false_and] at hci
            have HFR := hide (hfr _ rfl)
            simp only [Bool.false_and] at HFR
            clear hfr hmi hrow hob hR4
            go_wp2
            go_roundw
            case rel => exact ⟨i + 1, by omega, by go_num, (unhide HFR).1, (unhide HFR).2⟩
            case measure => simp [intOf]; omega
          | true =>
            rw [hmi] at hci hfr
            simp only [Bool.true_and, decide_true, Bool.true_or, Nat.le_refl] at hci
            have hosl4 : SlAt mI 0 0 w4.heap.size w4 (.slice oa os.length oc) os := by
              obtain ⟨a9, c9, e9, q1, q2⟩ := unhide HOS
              cases e9
              refine ⟨_, _, rfl, q1, fun hp => ?_⟩
              obtain ⟨b, off, rfl, q3, q4, q5⟩ := q2 hp
              refine ⟨b, off, rfl, q3, by rw [hob.size]; exact q4, fun k hk => ?_⟩
              rw [World.cell?_of_block (a := ⟨b, off + k, none⟩) (hob.block b (unhide HNE b off rfl hp))]
              exact q5 k hk
            have HFO := hide (l3found_any (.slice oa os.length oc) os (wrap64 (base + i)) w4 hosl4 (unhide HASC) hol2)
            have HFR := hide hfr
            clear hfr hmi hrow hob hR4 hosl4
            go_wp2_with fail
            refine (unhide HFO).mono ?_
            rintro e w5 ⟨⟨y, rfl, hy⟩, rfl⟩
            have hyl : y = lstB base ks pss t i := by rw [Bool.eq_iff_iff, hy, lstB_iff]; exact unhide HLST i
            have HFR2 := hide (unhide HFR y hyl)
            simp only [Bool.true_and] at HFR2
            clear hy hyl HFO HFR
            go_wp2
            go_roundw
            case rel => exact ⟨i + 1, by omega, by go_num, (unhide HFR2).1, (unhide HFR2).2⟩
            case measure => simp [intOf]; omega
        · have hlt' : ¬ (i : Int) < (n : Int) := by omega
          have hx : w4.rowIs mb 4 n (fun k => .bool (m k && lstB base ks pss t k)) := hrow.congr (fun k hk => by
            have : decide (i ≤ k) = false := decide_eq_false (by omega)
            simp [this])
          have HX := hide hx
          have HFRO : Hid (FrO (fun k => k = mb ∨ w.heap.size ≤ k) w w4) := ⟨hob.os.trans (unhide HB3).os, hob.tape.trans (unhide HB3).tape, hob.output.trans (unhide HB3).output, by rw [hob.size]; exact (unhide HB3).size, fun k hk => (hob.block k (fun e => hk (.inl e))).trans ((unhide HB3).block k (by apply Nat.lt_of_not_le; intro e; exact hk (.inr e)))⟩
          clear hx hrow hob hR4
          go_wp2
          go_ret
          exact ⟨rfl, unhide HX, unhide HFRO⟩

end Go.Proofs.Ytfjnhmgmcldidaa
