import Derived.Test.YtfgngdfhejeolaaN4
import Derived.Test.YtfgngdfhejeolaaT1
import Derived.Deep.RegionHeld3
namespace Go.Proofs.Ytfgngdfhejeolaa
open Go.RowKit

/-- What has come: in order, each once, and the same lists. -/
structure OL (xss : List (List Int)) (ps : List (Cl Int)) : Prop where
  asc : LAsc (ps.map Cl.xs)
  mem : ∀ z, z ∈ ps.map Cl.xs ↔ z ∈ xss

theorem l3less_yes (u v : Value) (xs ys : List Int) (w : World) (hu : SlAt mI 0 0 w.heap.size w u xs) (hv : SlAt mI 0 0 w.heap.size w v ys) (h : lexc xs ys < 0) :
    Calls Try.prog 55 #[u, v] w fun e w' => e = .returned (.bool true) ∧ ∃ q, w' = w.drewN q :=
  (l3less_any u v xs ys w hu hv).mono (fun _ _ ⟨h1, h2⟩ => ⟨by
    rcases h1.cases with ⟨h3, -⟩ | ⟨-, h4⟩
    · exact h3
    · exact absurd h h4, h2⟩)
theorem l3less_no (u v : Value) (xs ys : List Int) (w : World) (hu : SlAt mI 0 0 w.heap.size w u xs) (hv : SlAt mI 0 0 w.heap.size w v ys) (h : 0 ≤ lexc xs ys) :
    Calls Try.prog 55 #[u, v] w fun e w' => e = .returned (.bool false) ∧ ∃ q, w' = w.drewN q :=
  (l3less_any u v xs ys w hu hv).mono (fun _ _ ⟨h1, h2⟩ => ⟨by
    rcases h1.cases with ⟨-, h4⟩ | ⟨h3, -⟩
    · omega
    · exact h3, h2⟩)
theorem l1same_yes (u v : Value) (xs ys : List Int) (w : World) (hu : SlAt mI 0 0 w.heap.size w u xs) (hv : SlAt mI 0 0 w.heap.size w v ys) (h : xs = ys) :
    Calls Try.prog 56 #[u, v] w fun e w' => e = .returned (.bool true) ∧ ∃ q, w' = w.drewN q :=
  (l1same_any u v xs ys w hu hv).mono (fun _ _ ⟨h1, h2⟩ => ⟨by
    rcases h1.cases with ⟨h3, -⟩ | ⟨-, h4⟩
    · exact h3
    · exact absurd h h4, h2⟩)
theorem l1same_no (u v : Value) (xs ys : List Int) (w : World) (hu : SlAt mI 0 0 w.heap.size w u xs) (hv : SlAt mI 0 0 w.heap.size w v ys) (h : ¬ xs = ys) :
    Calls Try.prog 56 #[u, v] w fun e w' => e = .returned (.bool false) ∧ ∃ q, w' = w.drewN q :=
  (l1same_any u v xs ys w hu hv).mono (fun _ _ ⟨h1, h2⟩ => ⟨by
    rcases h1.cases with ⟨-, h4⟩ | ⟨h3, -⟩
    · exact absurd h4 h
    · exact h3, h2⟩)

theorem dC_ok (w : World) : dC.ok mI 0 3 w := ⟨none, 0, rfl, ⟨Nat.le_refl _, Nat.zero_le _⟩, fun h => absurd h (by simp [dC])⟩

/-- A list put in at its place. -/
theorem ins_done {base g cap at' : Nat} {w3 wr2 w5 : World} {ps : List (Cl Int)} {cv : Value} {x : List Int} (h3 : LL mI 0 3 23 base w3 (.slice (some ⟨g, 0, none⟩) (ps.length + 1) cap) (ps ++ [dC])) (hbase : base ≤ w3.heap.size)
    (hown2 : wr2.ownsRow base 23 1 (.slice (some ⟨g, 0, none⟩) (ps.length + 1) cap) (ps.length + 1) ((hole ps dC at').map Cl.v)) (hch : ChgF (fun k => k = g) w3 wr2) (hb5 : Below wr2.heap.size wr2 w5)
    (hc : w5.ownsRow wr2.heap.size 3 1 cv x.length (x.map mI)) (hat : at' ≤ ps.length) :
    ∃ c : Cl Int, c.xs = x ∧ LL mI 0 3 23 base (w5.setCell ⟨g, at', none⟩ cv) (.slice (some ⟨g, 0, none⟩) (ps.length + 1) cap) (ps.take at' ++ c :: ps.drop at') ∧ Below base w3 (w5.setCell ⟨g, at', none⟩ cv) := by
  obtain ⟨b, hok, hlo⟩ := own_cl hc
  have hgl : g < w3.heap.size := (h3.own.lt g rfl).2
  have hbg : base ≤ g := (h3.own.lt g rfl).1
  have hz2 := hch.size
  have hz5 := hb5.size
  have hold : ∀ p ∈ ps, p.ok mI 0 3 (w5.setCell ⟨g, at', none⟩ cv) := fun p hp => by
    have hp' : p ∈ ps ++ [dC] := List.mem_append_left _ hp
    have hk := h3.ok p hp'
    refine hk.same (fun hp0 => ?_)
    have hne : p.b ≠ g := fun e => h3.not_row (by decide) hk rfl hp0 (by rw [e]; rfl)
    have hlt := hk.lt hp0
    rw [Below.heap_setCell _ _ _ _ (by exact hne), hb5.block p.b (by omega), hch.block p.b hne]
  have hnew : Cl.ok mI 0 3 (w5.setCell ⟨g, at', none⟩ cv) ⟨cv, x, b⟩ := hok.same (fun hp0 => by
    have := hlo hp0
    exact Below.heap_setCell _ _ _ _ (by show b ≠ g; omega))
  refine ⟨⟨cv, x, b⟩, rfl, ⟨?_, fun p hp => ?_, fun p hp hp0 => ?_, ?_⟩, ?_⟩
  · have h1 := own_set (u := cv) (k := at') (own_keep hown2 hb5 (Nat.le_refl _)) (by omega)
    have e : (ps.take at' ++ (⟨cv, x, b⟩ : Cl Int) :: ps.drop at').length = ps.length + 1 := by simp; omega
    rw [e]
    rw [show (List.map Cl.v (hole ps dC at')).set at' cv = ((hole ps dC at').set at' (⟨cv, x, b⟩ : Cl Int)).map Cl.v by rw [List.map_set], hole_fill ps dC _ hat] at h1
    exact h1
  · rcases List.mem_append.1 hp with hp | hp
    · exact hold p (List.mem_of_mem_take hp)
    · rcases List.mem_cons.1 hp with e | hp
      · rw [e]; exact hnew
      · exact hold p (List.mem_of_mem_drop hp)
  · have hl : ∀ q ∈ ps, 0 < q.xs.length → base ≤ q.b := fun q hq => h3.lo q (List.mem_append_left _ hq)
    rcases List.mem_append.1 hp with hp | hp
    · exact hl p (List.mem_of_mem_take hp) hp0
    · rcases List.mem_cons.1 hp with e | hp
      · rw [e] at hp0 ⊢
        have := hlo hp0
        show base ≤ b
        omega
      · exact hl p (List.mem_of_mem_drop hp) hp0
  · have ha : ApartC ps := (List.pairwise_append.1 h3.apart).1
    have hfar : ∀ q ∈ ps, 0 < q.xs.length → 0 < x.length → q.b ≠ b := fun q hq hq0 hx0 e => by
      have h1 := (h3.ok q (List.mem_append_left _ hq)).lt hq0
      have h2 := hlo hx0
      omega
    have ha' : ApartC (ps.take at' ++ ps.drop at') := by rw [List.take_append_drop]; exact ha
    obtain ⟨p1, p2, p3⟩ := List.pairwise_append.1 ha'
    refine List.pairwise_append.2 ⟨p1, List.pairwise_cons.2 ⟨fun q hq h1 h2 e => hfar q (List.mem_of_mem_drop hq) h2 h1 e.symm, p2⟩, fun q hq r hr => ?_⟩
    rcases List.mem_cons.1 hr with e | hr
    · subst e
      exact fun h1 h2 => hfar q (List.mem_of_mem_take hq) h1 h2
    · exact p3 q hq r hr
  · exact bput ((hch.below (lo := base) (fun k hk => by omega)).trans (hb5.mono (by omega))) hbg _

set_option maxHeartbeats 8000000 in
set_option maxRecDepth 100000 in
theorem orderLists_any (v : Value) (xss : List (List Int)) (w : World) (hv : SsAt mI 0 w.heap.size w v xss) (hl : xss.length ≤ 1048576) (ht : tot xss ≤ 1048576) :
    Calls Try.prog 46 #[v] w fun e w' => ∃ v' ps, e = .returned v' ∧ OL xss ps ∧ ps.length ≤ xss.length ∧ LL mI 0 3 23 w.heap.size w' v' ps ∧ Below w.heap.size w w' := by
  obtain ⟨i0, hi, hz0, hz1, hz2⟩ := info_parts Try.zinIntS
  have Hv := hide hv
  obtain ⟨a, cap, rfl, hml, -⟩ := hv
  unfold maxLen at hml
  go_enter Try.func46, Try.ntmps46
  go_wp2_with fail
  go_loopw [3, 4] (fun ov iv wr => ∃ (n : Nat) (ps : List (Cl Int)), n ≤ xss.length ∧ iv = .int .i64 n ∧ OL (xss.take n) ps ∧ ps.length ≤ n ∧ LL mI 0 3 23 w.heap.size wr ov ps ∧ Below w.heap.size w wr) (fun _ iv _ => xss.length - (intOf iv).toNat)
  case atStart => exact ⟨0, [], Nat.zero_le _, rfl, ⟨List.Pairwise.nil, fun z => by simp⟩, Nat.le_refl _, LL.nil, Below.refl _ _⟩
  case round =>
    obtain ⟨n, ps, hn, rfl, hol, hpl, hll, hb⟩ := hrel
    have hszr := hb.size
    have Hol := hide hol
    have Hll := hide hll
    obtain ⟨oa, oc, rfl⟩ := own_is hll.own
    clear hol
    by_cases hlt : n < xss.length
    · have hlt' : (n : Int) < (xss.length : Int) := by omega
      obtain ⟨_, _, e, -, hc⟩ := (unhide Hv).below hb (Nat.le_refl _)
      cases e
      obtain ⟨b, off, rfl, hbn, hcell⟩ := hc (by omega)
      obtain ⟨sv, hx, hsx, hcx⟩ := hcell n hlt
      obtain ⟨_, _, e, -, hc0⟩ := unhide Hv
      cases e
      obtain ⟨b', off', e, hbn0, hcell0⟩ := hc0 (by omega)
      cases e
      obtain ⟨sv', hx0, hsx0, -⟩ := hcell0 n hlt
      obtain rfl : sv = sv' := by
        rw [hb.cell (p := ⟨b, off + n, none⟩) hbn0, hx0] at hx
        exact (Option.some.inj hx).symm
      have HX := hide hsx0
      have HX0 := hide hx0
      obtain ⟨sa, sc, rfl, -⟩ := id hsx0
      have hxl := tot_get xss n
      have Hmem : Hid (∀ z, z ∈ xss.take (n + 1) ↔ z ∈ xss.take n ∨ z = xss[n]?.getD []) := fun z => by
        rw [List.take_add_one, List.mem_append]
        simp [hlt]
      clear hcell hc hcell0 hc0 hsx hsx0 hcx hx0
      generalize xss[n]?.getD [] = x at *
      -- the place
      go_wp2_with fail
      go_loopw [5] (fun av wr2 => ∃ at' : Nat, at' ≤ ps.length ∧ av = .int .i64 at' ∧ (∀ j : Nat, j < at' → lexc (ps[j]?.getD dC).xs x < 0) ∧ ∃ q, wr2 = wr.drewN q) (fun av _ => ps.length - (intOf av).toNat)
      case atStart => exact ⟨0, Nat.zero_le _, rfl, fun j hj => absurd hj (Nat.not_lt_zero _), 0, rfl⟩
      case round =>
        obtain ⟨at', hat, rfl, hlow, q, rfl⟩ := hrel
        have Hlow := hide hlow
        clear hlow
        obtain ⟨V, hV⟩ : ∃ V, wr.drewN q = V := ⟨_, rfl⟩
        have HV := hide hV
        have hBV : Below w.heap.size w V := by rw [← hV]; exact below_drewN hb q
        have HllV : Hid (LL mI 0 3 23 w.heap.size V (.slice oa ps.length oc) ps) := by rw [← hV]; exact ⟨hll.own, hll.ok, hll.lo, hll.apart⟩
        have hzV : V.heap.size = wr.heap.size := by rw [← hV]; rfl
        replace hx : V.cell? ⟨b, off + n, none⟩ = some (.slice sa x.length sc) := by rw [← hV]; exact hx
        rw [hV]
        clear hV hll
        have SX := hide ((unhide HX).below hBV (Nat.le_refl _))
        by_cases hal : at' < ps.length
        · have hal' : (at' : Int) < (ps.length : Int) := by omega
          obtain ⟨g, oc', e, hcl⟩ := own_at_s (unhide HllV).own (by omega)
          cases e
          have hy : V.cell? ⟨g, at', none⟩ = some (ps[at']?.getD dC).v := by
            rw [hcl _ hal, List.getElem?_map, List.getElem?_eq_getElem hal]
            rfl
          have hm1 : ps[at']?.getD dC ∈ ps := by rw [List.getElem?_eq_getElem hal]; exact List.getElem_mem _
          have SP := hide ((unhide HllV).ok _ hm1).at
          have Hnext : Hid (lexc (ps[at']?.getD dC).xs x < 0 → ∀ j : Nat, j < at' + 1 → lexc (ps[j]?.getD dC).xs x < 0) := fun h j hj => by
            by_cases e : j = at'
            · subst e; exact h
            · exact unhide Hlow j (by omega)
          have Hin : Hid ((ps[at']?.getD dC).xs = x → x ∈ ps.map Cl.xs) := fun h => by rw [← h]; exact List.mem_map_of_mem hm1
          have Hhi : Hid (¬ lexc (ps[at']?.getD dC).xs x < 0 → ¬ (ps[at']?.getD dC).xs = x → at' < (ps.map Cl.xs).length → lexc x ((ps.map Cl.xs)[at']?.getD []) < 0) := fun h1 h2 _ => by
            have e : (ps.map Cl.xs)[at']?.getD [] = (ps[at']?.getD dC).xs := by simp [hal]
            rw [e]
            have h3 := lexc_swap (ps[at']?.getD dC).xs x
            have h4 : lexc (ps[at']?.getD dC).xs x ≠ 0 := fun h => h2 (lexc_zero.1 h)
            omega
          clear hcl hm1
          generalize ps[at']?.getD dC = p at *
          obtain ⟨pa, pc, e1⟩ : ∃ a c, p.v = .slice a p.xs.length c := by obtain ⟨a, c, e, -⟩ := unhide SP; exact ⟨a, c, e⟩
          rw [e1] at hy SP
          clear e1
          by_cases hless : lexc p.xs x < 0
          · have hn := hide (unhide Hnext hless)
            have HL := hide hless
            clear hless Hnext Hin Hhi
            go_wp2_with fail
            go_quiet ((go_at_call 55; refine Calls.quiet_of (l3less_yes _ _ _ _ _ (by exact unhide SP) (by exact unhide SX) (unhide HL))))
            go_wp2
            go_roundw
            case rel => exact ⟨at' + 1, by omega, by go_num, unhide hn, q + nq, by rw [← unhide HV, drew2]⟩
            case measure => simp [intOf]; omega
          · have HL : Hid (0 ≤ lexc p.xs x) := by show 0 ≤ lexc p.xs x; omega
            go_wp2_with fail
            go_quiet ((go_at_call 55; refine Calls.quiet_of (l3less_no _ _ _ _ _ (by exact unhide SP) (by exact unhide SX) (unhide HL))))
            have hBV1 : Below w.heap.size w (V.drewN nq) := below_drewN hBV nq
            have HllV1 : Hid (LL mI 0 3 23 w.heap.size (V.drewN nq) (.slice (some ⟨g, 0, none⟩) ps.length oc) ps) := ⟨(unhide HllV).own, (unhide HllV).ok, (unhide HllV).lo, (unhide HllV).apart⟩
            have hzV1 : (V.drewN nq).heap.size = wr.heap.size := hzV
            have hx1 : (V.drewN nq).cell? ⟨b, off + n, none⟩ = some (.slice sa x.length sc) := hx
            have hy1 : (V.drewN nq).cell? ⟨g, at', none⟩ = some (.slice pa p.xs.length pc) := hy
            have SP1 : Hid (SlAt mI 0 0 (V.drewN nq).heap.size (V.drewN nq) (.slice pa p.xs.length pc) p.xs) := SP
            have SX1 : Hid (SlAt mI 0 0 (V.drewN nq).heap.size (V.drewN nq) (.slice sa x.length sc) x) := SX
            clear hBV HllV hzV hx hy SP SX HV
            generalize V.drewN nq = V at *
            by_cases hsame : p.xs = x
            · have hi' := hide (unhide Hin hsame)
              have HS := hide hsame
              clear hsame Hin Hhi Hnext HL hless
              go_wp2_with fail
              go_quiet ((go_at_call 56; refine Calls.quiet_of (l1same_yes _ _ _ _ _ (by exact unhide SP1) (by exact unhide SX1) (unhide HS))))
              go_wp2
              go_roundw
              case rel => exact ⟨n + 1, ps, by omega, by go_num, ⟨(unhide Hol).asc, fun z => by rw [unhide Hmem z, ← (unhide Hol).mem z]; exact ⟨Or.inl, fun h => h.elim id (fun e => by rw [e]; exact unhide hi')⟩⟩, by omega, ⟨(unhide HllV1).own, (unhide HllV1).ok, (unhide HllV1).lo, (unhide HllV1).apart⟩, below_drewN hBV1 _⟩
              case measure => simp [intOf]; omega
            · have HS := hide hsame
              have hhigh := hide (unhide Hhi hless hsame)
              clear hsame Hin Hhi Hnext HL hless
              go_wp2_with fail
              go_quiet ((go_at_call 56; refine Calls.quiet_of (l1same_no _ _ _ _ _ (by exact unhide SP1) (by exact unhide SX1) (unhide HS))))
              have hBU : Below w.heap.size w (V.drewN nq) := below_drewN hBV1 nq
              have HllU : Hid (LL mI 0 3 23 w.heap.size (V.drewN nq) (.slice (some ⟨g, 0, none⟩) ps.length oc) ps) := ⟨(unhide HllV1).own, (unhide HllV1).ok, (unhide HllV1).lo, (unhide HllV1).apart⟩
              have hxU : (V.drewN nq).cell? ⟨b, off + n, none⟩ = some (.slice sa x.length sc) := hx1
              clear hBV1 HllV1 hzV1 hx1 hy1 SP1 SX1
              generalize V.drewN nq = U at *
              have hszU := hBU.size
              have hatI : (at' : Int) ≤ (ps.length : Int) := by omega
              go_wp2_with (at_builtin; refine wpList_append_own _ rfl _ _ 31 rfl w.heap.size 23 i0 (.slice none 0 0) 1 24 Try.underlying31 hi hz0 hz1 hz2 rfl (by decide) _ _ _ rfl (World.ownsRow.alloc (w := U) (unhide HllU).own _) ⟨U.heap.size, 0, none⟩ 1 1 [.slice none 0 0] rfl rfl ?_ ?_ ?_ ?_ ?_ ?_)
              · exact cell_1 (by simp)
              · intro u hu; simp at hu; subst hu; rfl
              · unfold maxLen; omega
              · omega
              · rw [sz_alloc]; omega
              intro v3 w3 h5 hg5 _
              obtain ⟨g3, cap3, rfl⟩ := ownsRow_succ h5
              have h3 := hide ((unhide HllU).app (p := dC) (by decide) hszU (dC_ok U) (by simp [dC]) (by intro q _ _ h; simp [dC] at h) (pushd_alloc U _) h5 hg5)
              have hz3 := (unhide h3).2.size
              clear h5 hg5 hxU
              go_wp2_with fail
              go_loopw [6] (fun jv wr2 => ∃ j : Nat, at' ≤ j ∧ j ≤ ps.length ∧ jv = .int .i64 j ∧ wr2.ownsRow w.heap.size 23 1 (.slice (some ⟨g3, 0, none⟩) (ps.length + 1) cap3) (ps.length + 1) ((hole ps dC j).map Cl.v) ∧ ChgF (fun k => k = g3) w3 wr2) (fun jv _ => (intOf jv).toNat)
              case atStart => exact ⟨ps.length, hat, Nat.le_refl _, by go_num, by have := (unhide h3).1.own; rw [List.length_append] at this; rw [hole_start]; exact this, ChgF.refl _ _⟩
              case round =>
                obtain ⟨j, hj1, hj2, rfl, hown2, hch⟩ := hrel
                have Hown2 := hide hown2
                have Hch := hide hch
                obtain ⟨_, _, e, hcl⟩ := own_at_s hown2 (by omega)
                cases e
                have hfz : ∀ i, wr.frozen? ⟨g3, i, none⟩ = false := fun i => by
                  rcases hown2.2 with ⟨e0, _⟩ | ⟨g', cap', cur, e0, hb, hg, -⟩
                  · cases e0
                  · cases e0
                    exact frz ⟨cur, _, hg⟩
                by_cases hj3 : at' < j
                · obtain ⟨j, rfl⟩ : ∃ i, j = i + 1 := ⟨j - 1, by omega⟩
                  have hjp : j < ps.length := by omega
                  have q1 : (at' : Int) < (j : Int) + 1 := by omega
                  have q2 : (0 : Int) ≤ (j : Int) + 1 := by omega
                  have q3 : (j : Int) + 1 < (ps.length : Int) + 1 := by omega
                  have q4 : (j : Int) < (ps.length : Int) + 1 := by omega
                  have q5 : IntKind.i64.wrap (j : Int) = (j : Int) := k64i (by omega) (by omega)
                  have hy : wr.cell? ⟨g3, j, none⟩ = some (ps[j]).v := by
                    rw [hcl _ (by omega), List.getElem?_map, hole_before ps dC hjp]
                    rfl
                  obtain ⟨old, hold⟩ : ∃ old, wr.cell? ⟨g3, j + 1, none⟩ = some old := ⟨_, by rw [hcl _ (by omega), List.getElem?_map, List.getElem?_eq_getElem (by rw [hole_len ps dC hj2]; omega)]; rfl⟩
                  have hf1 := hfz (j + 1)
                  have Hstep := hide (hole_step ps dC hjp)
                  obtain ⟨ja, jc, e1⟩ : ∃ a c, (ps[j]).v = .slice a (ps[j]).xs.length c := by
                    obtain ⟨a, c, e, -⟩ := (unhide HllU).ok _ (List.getElem_mem hjp)
                    exact ⟨a, c, e⟩
                  have E1 := hide e1
                  rw [e1] at hy
                  clear e1 hcl hfz hown2 hch
                  generalize ps[j] = pj at *
                  go_wp2
                  go_roundw
                  case rel => exact ⟨j, by omega, by omega, by go_num, by rw [← unhide Hstep, List.map_set, unhide E1]; exact own_set (unhide Hown2) (by omega), (unhide Hch).put rfl _⟩
                  case measure => simp [intOf]
                · have hje : at' = j := by omega
                  subst hje
                  have hjl : at' < ps.length + 1 := by omega
                  have hjI : (at' : Int) < (ps.length : Int) + 1 := by omega
                  have hW2 : Below w.heap.size w wr := hBU.trans (((unhide h3).2).trans (hch.below (fun k hk => by have := ((unhide h3).1.own.lt g3 rfl).1; omega)))
                  have hxW : wr.cell? ⟨b, off + n, none⟩ = some (.slice sa x.length sc) := by rw [hW2.cell (p := ⟨b, off + n, none⟩) hbn0]; exact unhide HX0
                  have SXW := hide ((unhide HX).below hW2 (Nat.le_refl _))
                  have hxlen : x.length ≤ 1048576 := by omega
                  clear hcl hfz hown2 hch
                  go_wp2_with (at_builtin; refine app_ints_own rfl _ _ rfl rfl _ rfl x (by exact unhide SXW) hxlen ?_; intro cv w5 hb5 hc5 ho5; have Hc5 := hide hc5; obtain ⟨ca, cc, rfl⟩ := own_is hc5; obtain ⟨⟨old, hold⟩, hfz5⟩ := row_at (own_keep (unhide Hown2) hb5 (Nat.le_refl _)) hjl)
                  have hdone := hide (ins_done (unhide h3).1 (by omega) (unhide Hown2) (unhide Hch) hb5 (unhide Hc5) hj2)
                  go_roundw
                  case rel =>
                    obtain ⟨c, hcx, hLL, hBB⟩ := unhide hdone
                    have hol := unhide Hol
                    refine ⟨n + 1, ps.take (at') ++ c :: ps.drop (at'), by omega, by go_num, ⟨?_, fun z => ?_⟩, by simp; omega, ?_, ?_⟩
                    · rw [List.map_append, List.map_cons, List.map_take, List.map_drop, hcx]
                      exact lasc_ins hol.asc (by rw [List.length_map]; exact hj2) (fun i hi => by
                        have := unhide Hlow i hi
                        have e : (ps.map Cl.xs)[i]?.getD [] = (ps[i]?.getD dC).xs := by simp [show i < ps.length by omega]
                        rw [e]
                        exact this) (unhide hhigh)
                    · rw [unhide Hmem z, ← hol.mem z]
                      rw [List.map_append, List.map_cons, hcx, List.mem_append, List.mem_cons]
                      have e : z ∈ ps.map Cl.xs ↔ z ∈ (ps.take (at')).map Cl.xs ∨ z ∈ (ps.drop (at')).map Cl.xs := by rw [← List.mem_append, ← List.map_append, List.take_append_drop]
                      rw [e]
                      constructor
                      · rintro (h | h | h)
                        · exact Or.inl (Or.inl h)
                        · exact Or.inr h
                        · exact Or.inl (Or.inr h)
                      · rintro ((h | h) | h)
                        · exact Or.inl h
                        · exact Or.inr (Or.inr h)
                        · exact Or.inr (Or.inl h)
                    · exact hLL
                    · exact hBU.trans (((unhide h3).2).trans hBB)
                  case measure => simp [intOf]; omega
        · obtain rfl : at' = ps.length := by omega
          have hhigh : Hid (ps.length < (ps.map Cl.xs).length → lexc x ((ps.map Cl.xs)[ps.length]?.getD []) < 0) := fun h => absurd h (by simp)
          have hdf : decide (ps.length < ps.length) = false := decide_eq_false (Nat.lt_irrefl _)
          go_wp2_with fail
          go_quiet (fail)
          have hBV1 : Below w.heap.size w (V.drewN nq) := below_drewN hBV nq
          have HllV1 : Hid (LL mI 0 3 23 w.heap.size (V.drewN nq) (.slice oa ps.length oc) ps) := ⟨(unhide HllV).own, (unhide HllV).ok, (unhide HllV).lo, (unhide HllV).apart⟩
          have hx1 : (V.drewN nq).cell? ⟨b, off + n, none⟩ = some (.slice sa x.length sc) := hx
          clear hBV HllV hzV hx HV SX
          generalize V.drewN nq = V at *
          go_wp2_with fail
          go_quiet (fail)
          have hBU : Below w.heap.size w (V.drewN nq) := below_drewN hBV1 nq
          have HllU : Hid (LL mI 0 3 23 w.heap.size (V.drewN nq) (.slice oa ps.length oc) ps) := ⟨(unhide HllV1).own, (unhide HllV1).ok, (unhide HllV1).lo, (unhide HllV1).apart⟩
          have hxU : (V.drewN nq).cell? ⟨b, off + n, none⟩ = some (.slice sa x.length sc) := hx1
          clear hBV1 HllV1 hx1
          generalize V.drewN nq = U at *
          have hszU := hBU.size
          have hatI : (ps.length : Int) ≤ (ps.length : Int) := by omega
          go_wp2_with (at_builtin; refine wpList_append_own _ rfl _ _ 31 rfl w.heap.size 23 i0 (.slice none 0 0) 1 24 Try.underlying31 hi hz0 hz1 hz2 rfl (by decide) _ _ _ rfl (World.ownsRow.alloc (w := U) (unhide HllU).own _) ⟨U.heap.size, 0, none⟩ 1 1 [.slice none 0 0] rfl rfl ?_ ?_ ?_ ?_ ?_ ?_)
          · exact cell_1 (by simp)
          · intro u hu; simp at hu; subst hu; rfl
          · unfold maxLen; omega
          · omega
          · rw [sz_alloc]; omega
          intro v3 w3 h5 hg5 _
          obtain ⟨g3, cap3, rfl⟩ := ownsRow_succ h5
          have h3 := hide ((unhide HllU).app (p := dC) (by decide) hszU (dC_ok U) (by simp [dC]) (by intro q _ _ h; simp [dC] at h) (pushd_alloc U _) h5 hg5)
          have hz3 := (unhide h3).2.size
          clear h5 hg5 hxU
          go_wp2_with fail
          go_loopw [6] (fun jv wr2 => ∃ j : Nat, ps.length ≤ j ∧ j ≤ ps.length ∧ jv = .int .i64 j ∧ wr2.ownsRow w.heap.size 23 1 (.slice (some ⟨g3, 0, none⟩) (ps.length + 1) cap3) (ps.length + 1) ((hole ps dC j).map Cl.v) ∧ ChgF (fun k => k = g3) w3 wr2) (fun jv _ => (intOf jv).toNat)
          case atStart => exact ⟨ps.length, hat, Nat.le_refl _, by go_num, by have := (unhide h3).1.own; rw [List.length_append] at this; rw [hole_start]; exact this, ChgF.refl _ _⟩
          case round =>
            obtain ⟨j, hj1, hj2, rfl, hown2, hch⟩ := hrel
            have Hown2 := hide hown2
            have Hch := hide hch
            obtain ⟨_, _, e, hcl⟩ := own_at_s hown2 (by omega)
            cases e
            have hfz : ∀ i, wr.frozen? ⟨g3, i, none⟩ = false := fun i => by
              rcases hown2.2 with ⟨e0, _⟩ | ⟨g', cap', cur, e0, hb, hg, -⟩
              · cases e0
              · cases e0
                exact frz ⟨cur, _, hg⟩
            by_cases hj3 : ps.length < j
            · exact absurd hj3 (by omega)
            · have hje : ps.length = j := by omega
              subst hje
              have hjl : ps.length < ps.length + 1 := by omega
              have hjI : (ps.length : Int) < (ps.length : Int) + 1 := by omega
              have hW2 : Below w.heap.size w wr := hBU.trans (((unhide h3).2).trans (hch.below (fun k hk => by have := ((unhide h3).1.own.lt g3 rfl).1; omega)))
              have hxW : wr.cell? ⟨b, off + n, none⟩ = some (.slice sa x.length sc) := by rw [hW2.cell (p := ⟨b, off + n, none⟩) hbn0]; exact unhide HX0
              have SXW := hide ((unhide HX).below hW2 (Nat.le_refl _))
              have hxlen : x.length ≤ 1048576 := by omega
              clear hcl hfz hown2 hch
              go_wp2_with (at_builtin; refine app_ints_own rfl _ _ rfl rfl _ rfl x (by exact unhide SXW) hxlen ?_; intro cv w5 hb5 hc5 ho5; have Hc5 := hide hc5; obtain ⟨ca, cc, rfl⟩ := own_is hc5; obtain ⟨⟨old, hold⟩, hfz5⟩ := row_at (own_keep (unhide Hown2) hb5 (Nat.le_refl _)) hjl)
              have hdone := hide (ins_done (unhide h3).1 (by omega) (unhide Hown2) (unhide Hch) hb5 (unhide Hc5) hj2)
              go_roundw
              case rel =>
                obtain ⟨c, hcx, hLL, hBB⟩ := unhide hdone
                have hol := unhide Hol
                refine ⟨n + 1, ps.take (ps.length) ++ c :: ps.drop (ps.length), by omega, by go_num, ⟨?_, fun z => ?_⟩, by simp; omega, ?_, ?_⟩
                · rw [List.map_append, List.map_cons, List.map_take, List.map_drop, hcx]
                  exact lasc_ins hol.asc (by rw [List.length_map]; exact hj2) (fun i hi => by
                    have := unhide Hlow i hi
                    have e : (ps.map Cl.xs)[i]?.getD [] = (ps[i]?.getD dC).xs := by simp [show i < ps.length by omega]
                    rw [e]
                    exact this) (unhide hhigh)
                · rw [unhide Hmem z, ← hol.mem z]
                  rw [List.map_append, List.map_cons, hcx, List.mem_append, List.mem_cons]
                  have e : z ∈ ps.map Cl.xs ↔ z ∈ (ps.take (ps.length)).map Cl.xs ∨ z ∈ (ps.drop (ps.length)).map Cl.xs := by rw [← List.mem_append, ← List.map_append, List.take_append_drop]
                  rw [e]
                  constructor
                  · rintro (h | h | h)
                    · exact Or.inl (Or.inl h)
                    · exact Or.inr h
                    · exact Or.inl (Or.inr h)
                  · rintro ((h | h) | h)
                    · exact Or.inl h
                    · exact Or.inr (Or.inr h)
                    · exact Or.inr (Or.inl h)
                · exact hLL
                · exact hBU.trans (((unhide h3).2).trans hBB)
              case measure => simp [intOf]; omega
    · obtain rfl : n = xss.length := by omega
      go_wp2
      go_ret
      exact ⟨_, ps, rfl, ⟨(unhide Hol).asc, fun z => by rw [(unhide Hol).mem z, List.take_length]⟩, hpl, unhide Hll, hb⟩

end Go.Proofs.Ytfgngdfhejeolaa
