import Derived.Test.YtfjnhmgmcldidaaCb7
namespace Go.Proofs.Ytfjnhmgmcldidaa
open Go.RowKit

set_option maxHeartbeats 8000000 in
set_option maxRecDepth 100000 in
theorem listedLines_any (v u : Value) (base : Int) (xss pss qss : List (List Int)) (ks : List Int) (w : World) (hv : SegRd w v base xss ks pss) (hu : SsAt mI 0 w.heap.size w u qss) (hr : Rch xss ks pss qss) (hb : In64' base) (hk : ∀ i : Nat, In64' (ks[i]?.getD 0)) (hp : ∀ k i : Nat, In64' ((pss[k]?.getD [])[i]?.getD 0)) (hqi : ∀ k i : Nat, In64' ((qss[k]?.getD [])[i]?.getD 0)) :
    Calls Try.prog 26 #[v, .agg #[u]] w fun e w' => LlR e w w' base xss.length ks pss qss := by
  have hmm := @run_makeMap Try.prog
  have hzz : ∀ W : World, (zeroValue 23).run Try.prog W = .ok nilV W := fun W => by kernel_rfl
  obtain ⟨i0, hi, hz0, hz1, hz2⟩ := info_parts Try.zinInt
  obtain ⟨lv, kv, pv, rfl, h1, h2, h3⟩ := id hv
  obtain ⟨la, lc, rfl, -, -⟩ := id h1
  obtain ⟨nl, hnl⟩ : ∃ nl, nl = xss.length := ⟨_, rfl⟩
  have HNL := hide hnl
  rw [← hnl]
  obtain ⟨ka, kc, rfl, -, hkc⟩ := id h2
  obtain ⟨pa, pc, rfl, hpl, -⟩ := ss_at h3
  obtain ⟨ua, uc, rfl, hul, hus⟩ := ss_at hu
  obtain ⟨W3, hW3⟩ : ∃ W3, W3 = ((w.alloc (.cells #[.int .i64 base, .slice la xss.length lc, .slice ka ks.length kc, .slice pa pss.length pc] 32)).alloc (.cells #[.slice ua qss.length uc] 34)).alloc (.map #[] 0) := ⟨_, rfl⟩
  have hB3 : Below w.heap.size w W3 := by rw [hW3]; exact (below2 w _ _).trans ((below1 _ _).mono (by rw [sz_alloc, sz_alloc]; omega))
  have hz3 : W3.heap.size = w.heap.size + 3 := by rw [hW3, sz_alloc, sz_alloc, sz_alloc]
  have hR3 : Row4 W3 w.heap.size 32 (.int .i64 base) (.slice la xss.length lc) (.slice ka ks.length kc) (.slice pa pss.length pc) := by rw [hW3]; exact ((Row4.new w _ _ _ _ _).alloc _).alloc _
  have hq : ∀ o : Obj, (((w.alloc (.cells #[.int .i64 base, .slice la xss.length lc, .slice ka ks.length kc, .slice pa pss.length pc] 32)).alloc (.cells #[.slice ua qss.length uc] 34)).alloc o).cell? ⟨w.heap.size + 1, 0, none⟩ = some (.slice ua qss.length uc) := fun o => by
    have := (pushd_al (w.alloc (.cells #[.int .i64 base, .slice la xss.length lc, .slice ka ks.length kc, .slice pa pss.length pc] 32)) (.cells #[.slice ua qss.length uc] 34)).news 0 _ rfl
    rw [sz_alloc] at this
    rw [(below1 _ o).cell (p := ⟨w.heap.size + 1, 0, none⟩) (by rw [sz_alloc, sz_alloc]; show w.heap.size + 1 < _; omega)]
    exact this
  have hq3 : W3.cell? ⟨w.heap.size + 1, 0, none⟩ = some (.slice ua qss.length uc) := by rw [hW3]; exact hq _
  have hMp : MpAt W3 (w.heap.size + 2) 0 (fun _ => false) (fun _ => nilV) := by
    have := MpAt.new ((w.alloc (.cells #[.int .i64 base, .slice la xss.length lc, .slice ka ks.length kc, .slice pa pss.length pc] 32)).alloc (.cells #[.slice ua qss.length uc] 34))
    rw [sz_alloc, sz_alloc] at this
    rw [hW3]
    exact this
  have HUS : Hid (∀ W, Below w.heap.size w W → ∀ j : Nat, j < qss.length → ∃ b off sa sc, ua = some ⟨b, off, none⟩ ∧ W.cell? ⟨b, off + j, none⟩ = some (.slice sa (qss[j]?.getD []).length sc) ∧ SlAt mI 0 0 w.heap.size w (.slice sa (qss[j]?.getD []).length sc) (qss[j]?.getD [])) := fun W hW j hj => by
    obtain ⟨b, off, sa, sc, rfl, hb, hcell, hsl, -⟩ := hus j hj
    exact ⟨b, off, sa, sc, rfl, by rw [hW.cell (p := ⟨b, off + j, none⟩) hb]; exact hcell, hsl⟩
  have HKC : Hid (∀ j : Nat, j < ks.length → ∃ b off, ka = some ⟨b, off, none⟩ ∧ ∀ W, Below w.heap.size w W → W.cell? ⟨b, off + j, none⟩ = some (.int .i64 (ks[j]?.getD 0))) := fun j hj => by
    obtain ⟨b, off, rfl, -, hb, hcell⟩ := hkc (by omega)
    exact ⟨b, off, rfl, fun W hW => by rw [hW.cell (p := ⟨b, off + j, none⟩) hb]; exact hcell j hj⟩
  have hql := hr.2.2.2.1
  have hkl := hr.2.1
  have HQC := hide hr.2.2.2.2
  have HW3 := hide hW3
  have HB3 := hide hB3
  have HR3 := hide hR3
  have HQ3 := hide hq3
  have HMP := hide hMp
  have HV := hide hv
  have HBI := hide hb
  have HKI := hide hk
  have HPI := hide hp
  have HQI := hide hqi
  have hn := hr.1
  have hz3' : w.heap.size + 3 ≤ W3.heap.size := by omega
  obtain ⟨k0, k1, k2, k3, -⟩ := hR3.facts
  have hqm := hq (.map #[] 0)
  clear h1 h2 h3 hkc hus hW3 hB3 hR3 hq3 hMp hv hb hk hp hqi hr hu hz3 hq
  go_enter Try.func26, Try.ntmps26
  go_wp2_with fail
  rw [← unhide HW3]
  clear HW3 hqm
  go_loopw [20] (fun cv wr => ∃ (c n : Nat) (dom : Int → Bool), c ≤ qss.length ∧ cv = .int .i64 (c : Nat) ∧ n ≤ c * 1000 ∧ MpAt wr (w.heap.size + 2) n dom (fun _ => nilV) ∧ (∀ x, dom x = true ↔ ∃ c', c' < c ∧ x ∈ qss[c']?.getD []) ∧ FrO (fun k => k = w.heap.size + 2 ∨ w.heap.size + 3 ≤ k) W3 wr) (fun cv _ => qss.length - (intOf cv).toNat)
  case atStart => exact ⟨0, 0, _, by omega, rfl, by omega, unhide HMP, fun x => by simp, FrO.refl _ _⟩
  case round =>
    clear HMP
    obtain ⟨c, n, dom, hc, rfl, hnc, hMp, hdom, hfr⟩ := hrel
    obtain ⟨w4, rfl⟩ : ∃ w4, w4 = wr := ⟨_, rfl⟩
    have hB4 : Below w.heap.size w w4 := (unhide HB3).trans (hfr.below (fun k hk hg => by rcases hg with q | q <;> omega))
    by_cases hcl : c < qss.length
    · have hcl' : (c : Int) < (qss.length : Int) := by omega
      obtain ⟨qb, qo, sa, sc, rfl, z0, hqs⟩ := unhide HUS w4 hB4 c hcl
      obtain ⟨ts, hts⟩ : ∃ ts, ts = qss[c]?.getD [] := ⟨_, rfl⟩
      rw [← hts] at z0 hqs
      have htl : ts.length ≤ 1000 := by rw [hts]; exact unhide HQC c hcl
      have HTI : Hid (∀ i : Nat, In64' (ts[i]?.getD 0)) := fun i => by rw [hts]; exact unhide HQI c i
      have HTS := hide hts
      have HDOM := hide hdom
      have HMP := hide hMp
      have HFR := hide hfr
      have HQS := hide hqs
      have hnc2 : n ≤ 1000000 := by omega
      clear hMp hdom hfr hB4 hts hqs
      go_wp2_with fail
      go_loopw [26] (fun kv wx => ∃ (k n' : Nat) (dom' : Int → Bool), k ≤ ts.length ∧ kv = .int .i64 (k : Nat) ∧ n' ≤ n + k ∧ MpAt wx (w.heap.size + 2) n' dom' (fun _ => nilV) ∧ (∀ x, dom' x = true ↔ (dom x = true ∨ x ∈ ts.take k)) ∧ FrO (fun k => k = w.heap.size + 2 ∨ w.heap.size + 3 ≤ k) W3 wx) (fun kv _ => ts.length - (intOf kv).toNat)
      case atStart => exact ⟨0, n, dom, by omega, rfl, by omega, unhide HMP, fun x => by simp, unhide HFR⟩
      case round =>
        clear HMP HFR z0
        obtain ⟨k, n', dom', hk, rfl, hn', hMp, hdom', hfr⟩ := hrel
        obtain ⟨w5, rfl⟩ : ∃ w5, w5 = wr := ⟨_, rfl⟩
        have hB5 : Below w.heap.size w w5 := (unhide HB3).trans (hfr.below (fun k hk hg => by rcases hg with q | q <;> omega))
        by_cases hkl2 : k < ts.length
        · have hkl2' : (k : Int) < (ts.length : Int) := by omega
          obtain ⟨a9, c9, e9, -, hc9⟩ := unhide HQS
          cases e9
          obtain ⟨tb, to, rfl, -, htb, htc⟩ := hc9 (by omega)
          have z1 : w5.cell? ⟨tb, to + k, none⟩ = some (.int .i64 (ts[k]?.getD 0)) := by rw [hB5.cell (p := ⟨tb, to + k, none⟩) htb]; exact htc k hkl2
          obtain ⟨t, ht⟩ : ∃ t, t = ts[k]?.getD 0 := ⟨_, rfl⟩
          have hti : In64' t := by rw [ht]; exact unhide HTI k
          rw [← ht] at z1
          obtain ⟨w6, hput, hMp6, hg6⟩ := hMp.put (t := 70) (e := 23) Try.underlying70 (by unfold maxLen; omega) hti nilV
          have hMp6 : MpAt w6 (w.heap.size + 2) (n' + 1) (fun y => if y = t then true else dom' y) (fun _ => nilV) := by simpa using hMp6
          have hdom6 : ∀ x, (if x = t then true else dom' x) = true ↔ (dom x = true ∨ x ∈ ts.take (k + 1)) := fun x => by
            rw [take_snoc hkl2, ← ht, List.mem_append, List.mem_singleton]
            by_cases e : x = t
            · simp [e]
            · simp only [e, if_false, or_false]; exact hdom' x
          have hfr6 : FrO (fun k => k = w.heap.size + 2 ∨ w.heap.size + 3 ≤ k) W3 w6 := hfr.trans ⟨hg6.os, hg6.tape, hg6.output, hg6.size, fun q hq => hg6.block q (by have := hfr.size; apply Nat.lt_of_not_le; intro e; exact hq (.inr (by omega))) (fun e => hq (.inl (Option.some.inj e)))⟩
          have HM6 := hide hMp6
          have HD6 := hide hdom6
          have HF6 := hide hfr6
          unfold nilV at hput
          clear hMp hdom' hfr hMp6 hdom6 hfr6 hg6 htc hc9 ht hB5
          go_wp2
          go_roundw
          case rel => exact ⟨k + 1, n' + 1, _, by omega, by go_num, by omega, unhide HM6, unhide HD6, unhide HF6⟩
          case measure => simp [intOf]; omega
        · have hkl2' : ¬ (k : Int) < (ts.length : Int) := by omega
          have HD6 : Hid (∀ x, dom' x = true ↔ ∃ c', c' < c + 1 ∧ x ∈ qss[c']?.getD []) := fun x => by
            rw [hdom' x, List.take_of_length_le (by omega), unhide HDOM x]
            constructor
            · rintro (⟨c', q1, q2⟩ | q)
              · exact ⟨c', by omega, q2⟩
              · exact ⟨c, by omega, by rw [← unhide HTS]; exact q⟩
            · rintro ⟨c', q1, q2⟩
              by_cases e : c' = c
              · subst e; rw [← unhide HTS] at q2; exact .inr q2
              · exact .inl ⟨c', by omega, q2⟩
          have HM6 := hide hMp
          have HF6 := hide hfr
          clear hMp hdom' hfr hB5
          go_wp2
          go_roundw
          case rel => exact ⟨c + 1, n', _, by omega, by go_num, by omega, unhide HM6, unhide HD6, unhide HF6⟩
          case measure => simp [intOf]; omega
    · have hcl' : ¬ (c : Int) < (qss.length : Int) := by omega
      have HDOM : Hid (∀ x, dom x = true ↔ ∃ c', c' < qss.length ∧ x ∈ qss[c']?.getD []) := fun x => by rw [show qss.length = c by omega]; exact hdom x
      have hR4 := World.rowIs.of_block (unhide HR3) (hfr.block w.heap.size (by rintro (q | q) <;> omega))
      obtain ⟨k0, k1, k2, k3, -⟩ := Row4.facts hR4
      have HMP := hide hMp
      have HFR := hide hfr
      have HB4 := hide hB4
      clear hMp hdom hfr hB4 hR4
      obtain ⟨mn, hmn⟩ : ∃ mn, mn = min ks.length pss.length := ⟨_, rfl⟩
      have HMN := hide hmn
      have hmk : mn ≤ ks.length := by omega
      have hmp : mn ≤ pss.length := by omega
      have HPL : Hid (PlM w4 (w.heap.size + 3) dom (fun _ => nilV) (fun x => jsOf ks x 0)) := PlM.start _ _ _ _
      have hn1 : n ≤ 1000000 := by omega
      rcases (show ((ks.length : Int) ≤ (pss.length : Int) ∧ (ks.length : Int) = (mn : Int)) ∨ (¬ (ks.length : Int) ≤ (pss.length : Int) ∧ (pss.length : Int) = (mn : Int)) by omega) with ⟨hle, hmi⟩ | ⟨hle, hmi⟩
      all_goals
        have HMI := hide hmi
        clear hmi hmn
        go_wp2_with fail
        rw [unhide HMI]
        clear hle HMI k0 k1 k2 k3
        go_loopw [41] (fun jv wr => ∃ (j n' : Nat) (m : Int → Value), j ≤ mn ∧ jv = .int .i64 (j : Nat) ∧ n' ≤ n + j ∧ MpAt wr (w.heap.size + 2) n' dom m ∧ PlM wr (w.heap.size + 3) dom m (fun x => jsOf ks x j) ∧ FrO (fun k => k = w.heap.size + 2 ∨ w.heap.size + 3 ≤ k) W3 wr) (fun jv _ => mn - (intOf jv).toNat)
        case atStart => exact ⟨0, n, _, by omega, rfl, by omega, unhide HMP, unhide HPL, unhide HFR⟩
        case round =>
          clear HMP HPL HFR HB4
          obtain ⟨j, n', m, hj, rfl, hn', hMp, hPl, hfr⟩ := hrel
          obtain ⟨w5, rfl⟩ : ∃ w5, w5 = wr := ⟨_, rfl⟩
          have hB5 : Below w.heap.size w w5 := (unhide HB3).trans (hfr.below (fun k hk hg => by rcases hg with q | q <;> omega))
          have hz5 := hfr.size
          have hR5 := World.rowIs.of_block (unhide HR3) (hfr.block w.heap.size (by rintro (q | q) <;> omega))
          by_cases hjl : j < mn
          · have hjl' : (j : Int) < (mn : Int) := by omega
            have hjk' : (j : Int) < (ks.length : Int) := by omega
            obtain ⟨kb, ko, rfl, hkc⟩ := unhide HKC j (by omega)
            obtain ⟨x, hx⟩ : ∃ x, x = ks[j]?.getD 0 := ⟨_, rfl⟩
            have hxi : In64' x := by rw [hx]; exact unhide HKI j
            rw [← hx] at hkc
            have z0 := hkc w5 hB5
            obtain ⟨k0, k1, k2, k3, -⟩ := Row4.facts hR5
            have hlk := hMp.look2 (t := 70) (e := 23) Try.underlying70 (hzz w5) hxi
            by_cases hd : dom x = true
            · have hown := hPl.own x hxi hd
              obtain ⟨oa, oc, hmx⟩ := own_is hown
              obtain ⟨jl, hjn⟩ : ∃ jl, jl = (jsOf ks x j).length := ⟨_, rfl⟩
              have hjb : jl ≤ 20000 := by have := jsOf_len ks x j; omega
              rw [hd, hmx, ← hjn] at hlk
              have HO : Hid (w5.ownsRow (w.heap.size + 3) 3 1 (.slice oa jl oc) jl ((jsOf ks x j).map mI)) := by
                have := hown
                rw [hmx, ← hjn] at this
                exact this
              obtain ⟨js, hjs⟩ : ∃ js, js = (jsOf ks x j).map mI := ⟨_, rfl⟩
              rw [← hjs] at HO
              have HPS : Hid (∀ (WA w7 : World) (gg cap : Nat), w7.ownsRow (w.heap.size + 3) 3 1 (.slice (some ⟨gg, 0, none⟩) (jl + 1) cap) (jl + 1) (js ++ [.int .i64 (j : Nat)]) → WA.grownBy w7 (Value.slice oa jl oc).ownBlock → ((Value.slice oa jl oc).ownBlock = some gg ∨ gg = w5.heap.size + 1) → Pushd w5 WA (.cells #[.int .i64 (j : Nat)] 3) →
                  w7.cell? ⟨w.heap.size, 2, none⟩ = some (.slice (some ⟨kb, ko, none⟩) ks.length kc) ∧ w7.cell? ⟨kb, ko + j, none⟩ = some (.int .i64 x) ∧ ∃ w8, (Instr.mapUpdate 70 (.map (some (w.heap.size + 2))) (.int .i64 x) (.slice (some ⟨gg, 0, none⟩) (jl + 1) cap)).run Try.prog w7 = .ok () w8 ∧ Hid ((∃ m', MpAt w8 (w.heap.size + 2) (n' + 1) dom m' ∧ PlM w8 (w.heap.size + 3) dom m' (fun x => jsOf ks x (j + 1))) ∧ FrO (fun k => k = w.heap.size + 2 ∨ w.heap.size + 3 ≤ k) W3 w8)) := fun WA w7 gg cap r1 r2 r3 hP => by
                have hB7 : Below (w.heap.size + 3) w5 w7 := by
                  refine ⟨r2.os.trans hP.os, r2.tape.trans hP.tape, r2.output.trans hP.output, by have := r2.size; have := hP.size; omega, fun k hk => (r2.block k (by have := hP.size; omega) (fun e => ?_)).trans (hP.old (by omega))⟩
                  have := ((unhide HO).lt k e.symm).1
                  omega
                refine ⟨by rw [hB7.cell (p := ⟨w.heap.size, 2, none⟩) (by show w.heap.size < _; omega)]; exact k2, hkc w7 (hB5.trans (hB7.mono (by omega))), ?_⟩
                rw [hjn] at r1 r2 r3
                rw [hjs] at r1
                rw [← hmx] at r2 r3
                obtain ⟨w8, h1, h2, h3⟩ := PlM.step hMp hPl (by omega) (by omega) (by unfold maxLen; omega) hxi hd hx.symm hP (t := 70) Try.underlying70 r1 r2 r3
                rw [← hjn] at h1
                exact ⟨w8, h1, h2, hfr.trans h3⟩
              have k2a : ∀ o : Obj, (w5.alloc o).cell? ⟨w.heap.size, 2, none⟩ = some (.slice (some ⟨kb, ko, none⟩) ks.length kc) := fun o => by rw [(below1 w5 o).cell (p := ⟨w.heap.size, 2, none⟩) (by show w.heap.size < _; omega)]; exact k2
              have z0a : ∀ o : Obj, (w5.alloc o).cell? ⟨kb, ko + j, none⟩ = some (.int .i64 x) := fun o => hkc _ (hB5.trans ((below1 w5 o).mono (by omega)))
              have HJN := hide hjn
              have HX := hide hx
              clear hMp hPl hfr hkc hjn hjs hown hmx hx hR5 hB5 k0 k1 k3
              go_wp2_with fail
              go_region_law (
                (refine step_append_lies _ rfl (.tmp 61) (.tmp 63) 23 rfl (w.heap.size + 3) 3 i0 (.int .i64 0) 1 8 Try.underlying23 hi hz0 hz1 hz2 rfl (by decide) (.slice oa jl oc) jl js (by first | (simp [Act.eval]; done) | (simp [Act.eval, Act.put]; done)) (by refine Pushd.own (w := w5) (o := .cells #[.int .i64 (j : Nat)] 3) ?_ (unhide HO); exact ⟨rfl, rfl, rfl, rfl⟩) ⟨w5.heap.size, 0, none⟩ 1 1 [.int .i64 (j : Nat)] (by first | (simp [Act.eval]; done) | (simp [Act.eval, Act.put]; done)) rfl (by refine Pushd.news (w := w5) (cs := #[.int .i64 (j : Nat)]) (t := 3) ?_; exact ⟨rfl, rfl, rfl, rfl⟩) (by intro u hu; simp only [List.mem_cons, List.not_mem_nil, or_false] at hu; subst hu; rfl) (by decide) (by unfold maxLen; omega) (by omega) (by show w.heap.size + 3 ≤ (World.alloc _ _).heap.size; rw [sz_alloc]; omega) (w5.heap.size + 1) (sz_alloc w5 _) (fun gg cap w7 r1 r2 r3 r4 => ?_); obtain ⟨c7, z7, w8, hput, h8⟩ := unhide HPS _ w7 gg cap r1 r2 r3 (by exact ⟨rfl, rfl, rfl, rfl⟩); clear r1 r2 r3 r4))
              all_goals
                go_wp2
                go_roundw
                case rel =>
                  obtain ⟨⟨m', q1, q2⟩, q3⟩ := unhide h8
                  exact ⟨j + 1, n' + 1, m', by omega, by go_num, by omega, q1, q2, q3⟩
                case measure => simp [intOf]; omega
            · have hd : dom x = false := by cases e : dom x; rfl; exact absurd e hd
              rw [hd] at hlk
              obtain ⟨mx, hmx⟩ : ∃ mx, mx = m x := ⟨_, rfl⟩
              rw [← hmx] at hlk
              have HPL := hide (hPl.skip (by rw [← hx]; exact hd))
              have HMP := hide hMp
              have HFR := hide hfr
              clear hMp hPl hfr hkc hmx hx hR5 hB5 k0 k1 k3
              go_wp2
              go_roundw
              case rel => exact ⟨j + 1, n', m, by omega, by go_num, by omega, unhide HMP, unhide HPL, unhide HFR⟩
              case measure => simp [intOf]; omega
          · have hjl' : ¬ (j : Int) < (mn : Int) := by omega
            have hjm : j = mn := by omega
            subst hjm
            have hMp6 : MpAt (w5.alloc (.map #[] 0)) (w.heap.size + 2) n' dom m := hMp.keep ((below1 w5 _).block _ (by omega))
            obtain ⟨D, hD, hDh, hDa⟩ := hMp6.ex
            have HOWN := hide hD
            have HDH := hide hDh
            have HDA := hide hDa
            have HPL := hide hPl
            have HFR := hide hfr
            have HB5 := hide hB5
            have HR5 := hide hR5
            have HML := hide (MpAt.new w5)
            clear hMp hPl hfr hR5 hB5 hMp6 hD hDh hDa
            go_wp2_with (at_range; refine wpList_range_own _ rfl _ 70 rfl 3 23 Try.lawIm Try.underlying70 rHold (w.heap.size + 2) n' D rfl (unhide HOWN) ?_; intro w7 hrg hg7 hs7)
            try go_frame
            rw [sz_alloc] at hrg hs7
            try simp only [sz_alloc]
            obtain ⟨LB, hLB⟩ : ∃ LB, LB = w5.heap.size := ⟨_, rfl⟩
            rw [← hLB] at hrg hs7 HML hz5
            try simp only [← hLB]
            have HRG := hide hrg
            have hB7 : Below LB w5 w7 := ⟨hg7.os, hg7.tape, hg7.output, by omega, fun k hk => (hg7.block k (by rw [sz_alloc]; omega) (by simp)).trans ((below1 w5 _).block k (by omega))⟩
            have HML7 : Hid (MpAt w7 LB 0 (fun _ => false) (fun _ => nilV)) := (unhide HML).keep (hg7.block LB (by rw [sz_alloc]; omega) (by simp))
            have HB7 := hide hB7
            have hc7 := ranges_le hrg
            have HLS : Hid (LsM w7 (LB + 2) base nl pss dom (fun x => Maps.has D (.int .i64 x)) (fun x => jsOf ks x j) (fun _ => nilV)) := LsM.start _ _ _ _ _ _ _ _ (unhide HDH)
            have HLBE := hide hLB
            have HG7 := hide hs7
            clear hrg hg7 HML hB7 HOWN HDH hLB
            go_loopw [69] (fun _ wr => ∃ (left : Lit → Bool) (cnt nL : Nat) (domL : Int → Bool) (mL : Int → Value), wr.ranges Try.prog 3 rHold (w.heap.size + 2) (LB + 1) n' D left cnt ∧ nL + cnt ≤ n' ∧ MpAt wr LB nL domL mL ∧ LsM wr (LB + 2) base nl pss dom (fun x => left (.int .i64 x)) (fun x => jsOf ks x j) mL ∧ FrO (fun k => k = LB ∨ LB + 1 ≤ k) w7 wr) (fun _ wr => wr.rangeLeft (w.heap.size + 2) (LB + 1))
            case atStart => exact ⟨_, _, 0, _, _, unhide HRG, by omega, unhide HML7, unhide HLS, FrO.refl _ _⟩
            case round =>
              clear HRG HML7 HLS
              obtain ⟨left, cnt, nL, domL, mL, hrg, hcn, hML, hLs, hfr⟩ := hrel
              obtain ⟨w8, rfl⟩ : ∃ w8, w8 = wr := ⟨_, rfl⟩
              have hfr5 : ∀ k, k < LB → w8.heap[k]? = w5.heap[k]? := fun k hk => (hfr.block k (by rintro (q | q) <;> omega)).trans ((unhide HB7).block k hk)
              have hB58 : Below LB w5 w8 := (unhide HB7).trans (hfr.below (fun k hk hg => by rcases hg with q | q <;> omega))
              have hBw8 : Below w.heap.size w w8 := (unhide HB5).trans (hB58.mono (by omega))
              have hz8 := hfr.size
              have HRG := hide hrg
              have HML := hide hML
              have HLS := hide hLs
              have HFR := hide hfr
              have HB58 := hide hB58
              have HBW8 := hide hBw8
              clear hrg hML hLs hfr hfr5 hB58 hBw8
              go_wp2_with (at_next; refine wpList_next_ranges _ rfl _ rfl 3 Try.lawIm rHold (Value.int .i64) (fun v => v) (fun key kl hkey => by obtain ⟨x, rfl, _⟩ := Maps.keyOf_int_inv Try.underlying3 hkey; exact ⟨x, rfl⟩) (fun v y hv => ⟨v, rfl⟩) (w.heap.size + 2) (LB + 1) n' D left cnt rfl (unhide HRG) ?_ ?_)
              · intro hc0 hl0
                have HFI : Hid (LlR (.returned (.map (some LB))) w w8 base nl ks pss qss) := by
                  have e1 : j = min ks.length pss.length := unhide HMN
                  refine LsM.fin (lo := LB + 2) (dom := dom) (left := fun x => left (.int .i64 x)) (mL := mL) (nn := nL) (domL := domL) ?_ (fun x => hl0 _) (unhide HDOM) (unhide HQI) (unhide HML) (by omega) (by omega) (unhide HBW8)
                  rw [← e1]
                  exact unhide HLS
                clear hl0
                go_wp2
                go_ret
                exact unhide HFI
              · intro x c kl y y2 w9 cnt1 hkx hlx hcv hat hrg1 hlt hg1 hs1 hen
                obtain ⟨x9, e9, rfl, hwf⟩ := Maps.keyOf_int_inv Try.underlying3 hkx
                cases e9
                have hxi := wf_in hwf
                obtain ⟨hdx, hnx⟩ := (unhide HLS).no x hxi hlx
                have hcm : c = m x := by
                  have h1 := (unhide HDA) x hxi
                  rw [hat] at h1
                  have h2 := Option.some.inj hcv
                  rw [← (Prod.mk.inj h2).1] at h1
                  simpa using h1
                have hPl8 : PlM w8 (w.heap.size + 3) dom m (fun x => jsOf ks x j) := (unhide HPL).keep (fun k _ hk => (unhide HB58).block k (by rw [unhide HLBE]; exact hk))
                have hown := hPl8.own x hxi hdx
                have hown9 : w9.ownsRow (w.heap.size + 3) 3 1 (m x) (jsOf ks x j).length ((jsOf ks x j).map mI) := own_blk hown (fun q hq => hg1.block q (hown.lt q hq).2 (fun e => by
                  have h1 := ((unhide HPL).own x hxi hdx).lt q hq
                  rw [← unhide HLBE] at h1
                  cases e
                  omega))
                obtain ⟨oa, oc, hmx⟩ := own_is hown
                rw [hmx] at hcm hown9
                subst hcm
                have hblk9 : ∀ k, k < w8.heap.size → k ≠ LB + 1 → w9.heap[k]? = w8.heap[k]? := fun k hk h => hg1.block k hk (fun e => h (Option.some.inj e))
                have hML9 : MpAt w9 LB nL domL mL := (unhide HML).keep (hblk9 LB (by omega) (by omega))
                have hLs9 : LsM w9 (LB + 2) base nl pss dom (fun x => left (.int .i64 x)) (fun x => jsOf ks x j) mL := (unhide HLS).keep (fun k h1 h2 => hblk9 k h2 (by omega))
                have hfr9 : FrO (fun k => k = LB ∨ LB + 1 ≤ k) w7 w9 := (unhide HFR).trans ⟨hg1.os, hg1.tape, hg1.output, hg1.size, fun k hk => by
                  by_cases e : k < w8.heap.size
                  · exact hblk9 k e (fun q => hk (.inr (by omega)))
                  · exact absurd (.inr (by omega)) hk⟩
                have hB9 : Below w.heap.size w w9 := (unhide HBW8).trans ⟨hg1.os, hg1.tape, hg1.output, hg1.size, fun k hk => hblk9 k (by omega) (by omega)⟩
                have hR9 := World.rowIs.of_block (unhide HR5) ((hblk9 w.heap.size (by omega) (by omega)).trans ((unhide HB58).block w.heap.size (by omega)))
                have HL' : Hid (∀ y, (fun z : Int => left (.int .i64 z) && !(Lit.int .i64 z).sameKey (.int .i64 x)) y = ((fun z : Int => left (.int .i64 z)) y && !decide (y = x))) := fun y => by simp only [same_i]
                obtain ⟨jl, hjn⟩ : ∃ jl, jl = (jsOf ks x j).length := ⟨_, rfl⟩
                rw [← hjn] at hen hown9 ⊢
                have hmeas : w9.rangeLeft (w.heap.size + 2) (LB + 1) < w8.rangeLeft (w.heap.size + 2) (LB + 1) := by rw [hrg1.left_eq, (unhide HRG).left_eq]; exact hlt
                have HME := hide hmeas
                by_cases hj0 : jl = 0
                · have hj0' : ¬ (0 : Int) < (jl : Int) := by omega
                  have HLS9 := hide (hLs9.skip (x := x) (js := fun x => jsOf ks x j) hxi hlx (List.eq_nil_of_length_eq_zero (by show (jsOf ks x j).length = 0; omega)) (unhide HL'))
                  have HRG9 := hide hrg1
                  have HML9 := hide hML9
                  have HFR9 := hide hfr9
                  clear hrg1 hML9 hLs9 hfr9 hB9 hR9 hown hown9 hPl8 hmx hg1 hblk9 hat hcv hkx hjn hmeas HRG HML HLS HFR hnx
                  go_wp2
                  go_roundw
                  case rel => exact ⟨_, cnt1, nL, domL, mL, unhide HRG9, by omega, unhide HML9, unhide HLS9, unhide HFR9⟩
                  case measure => exact unhide HME
                · have hj0' : (0 : Int) < (jl : Int) := by omega
                  obtain ⟨k0, k1, k2, k3, -⟩ := Row4.facts hR9
                  have hjb : jl ≤ 20000 := by have := jsOf_len ks x j; omega
                  have HLA := hide (linesAt_any _ (.slice oa jl oc) base xss pss ks (jsOf ks x j) w9 ((unhide HV).below hB9 (Nat.le_refl _)) ((own_slw hown9 (Nat.zero_le _) (by unfold maxLen; omega)).at) (fun z hz => by
                    obtain ⟨i, h1, -, rfl⟩ := jsOf_mem.1 hz
                    omega) hn (by omega) (unhide HBI) (unhide HPI))
                  have HRG9 := hide hrg1
                  have HML9 := hide hML9
                  have HFR9 := hide hfr9
                  have HLS9 := hide hLs9
                  have hz9 : LB + 2 ≤ w9.heap.size := by omega
                  have HB9 := hide hB9
                  clear hrg1 hML9 hLs9 hfr9 hB9 hR9 hown hown9 hPl8 hmx hg1 hblk9 hat hcv hkx hjn hmeas HRG HML HLS HFR hnx
                  go_wp2_with fail
                  refine (unhide HLA).mono ?_
                  rintro e w10 ⟨lv, h, rfl, hown, hLn, hb10⟩
                  have hz10 := hb10.size
                  rw [← unhide HNL] at hLn
                  obtain ⟨w11, hput, hM11, hg11⟩ := ((unhide HML9).keep (hb10.block LB (by omega))).put (t := 51) (e := 57) Try.underlying51 (by unfold maxLen; omega) hxi lv
                  have hblk : ∀ k, k < w9.heap.size → k ≠ LB → w11.heap[k]? = w9.heap[k]? := fun k hk h => (hg11.block k (by omega) (fun e => h (Option.some.inj e))).trans (hb10.block k hk)
                  have hz11 := hg11.size
                  have hG : w9.grownBy w11 (some LB) := ⟨hg11.os.trans hb10.os, hg11.tape.trans hb10.tape, hg11.output.trans hb10.output, by omega, fun k hk h => hblk k hk (fun e => h (by rw [e]))⟩
                  have HRG11 := hide ((unhide HRG9).kept hG (fun e => by have := Option.some.inj e; omega) (fun e => by have := Option.some.inj e; omega))
                  have HLS11 := hide (((unhide HLS9).keep (w' := w11) (fun k h1 h2 => hblk k h2 (by omega))).add (x := x) (unhide HL') hLn (own_low (own_blk (w' := w11) hown (fun q hq => hg11.block q (hown.lt q hq).2 (fun e => by have := (hown.lt q hq).1; cases e; omega))) hz9))
                  have HFR11 : Hid (FrO (fun k => k = LB ∨ LB + 1 ≤ k) w7 w11) := (unhide HFR9).trans ⟨hG.os, hG.tape, hG.output, hG.size, fun k hk => hblk k (by apply Nat.lt_of_not_le; intro e; exact hk (.inr (by omega))) (fun e => hk (.inl e))⟩
                  have HM11 := hide hM11
                  have HME11 : Hid (w11.rangeLeft (w.heap.size + 2) (LB + 1) < w8.rangeLeft (w.heap.size + 2) (LB + 1)) := by
                    have := unhide HME
                    rw [(unhide HRG9).left_eq] at this
                    rw [(unhide HRG11).left_eq]
                    exact this
                  obtain ⟨la2, lc2, rfl⟩ := own_is hown
                  obtain ⟨bl, hbl⟩ : ∃ bl, bl = (blkOf h 16).length := ⟨_, rfl⟩
                  rw [← hbl] at hput ⊢
                  clear hown hLn hb10 hM11 hg11 hblk hG HRG9 HLS9 HFR9 HML9 HLA hbl k0 k1 k2 k3
                  go_wp2
                  go_roundw
                  case rel => exact ⟨_, cnt1, nL + 1, _, _, unhide HRG11, by omega, unhide HM11, unhide HLS11, unhide HFR11⟩
                  case measure => exact unhide HME11

end Go.Proofs.Ytfjnhmgmcldidaa
