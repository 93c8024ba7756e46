import Derived.Test.YtjefklagedidmaaGreatN9
namespace Go.Proofs.YtjefklagedidmaaGreat
open Go.RowKit

theorem OneOf.is_true {e : Ending} {P : Prop} (h : RetB e P) (hp : P) : e = .returned (.bool true) := by
  rcases h.cases with ⟨h1, -⟩ | ⟨-, h2⟩
  · exact h1
  · exact absurd hp h2
theorem OneOf.is_false {e : Ending} {P : Prop} (h : RetB e P) (hp : ¬ P) : e = .returned (.bool false) := by
  rcases h.cases with ⟨-, h2⟩ | ⟨h1, -⟩
  · exact absurd h2 hp
  · exact h1

/-- Of different lists: no other one has all its numbers in the i-th. -/
theorem mn_parts {cs : List (List Int)} (hl : LAsc cs) {i : Nat} (hi : i < cs.length) : mn cs (cs[i]?.getD []) = true ↔ ¬ OneOf (cs[i]?.getD []) (cs.take i) ∧ ¬ OneOf (cs[i]?.getD []) (cs.drop (i + 1)) := by
  have hpw := List.pairwise_iff_getElem.1 hl
  have hself : ∀ a : List Int, ¬ lexc a a < 0 := fun a => by rw [lexc_zero.2 rfl]; omega
  have ei : cs[i]?.getD [] = cs[i] := by simp [hi]
  rw [mn_iff]
  constructor
  · intro h
    refine ⟨fun ⟨k, hk, hs⟩ => ?_, fun ⟨k, hk, hs⟩ => ?_⟩
    · have hk' : k < i := by simp at hk; omega
      rw [List.getElem?_take, if_pos hk'] at hs
      have ek : cs[k]?.getD [] = cs[k]'(by omega) := by simp [show k < cs.length by omega]
      refine h (cs[k]?.getD []) (by rw [ek]; exact List.getElem_mem _) (fun e => ?_) hs
      have := hpw k i (by omega) hi hk'
      rw [← ek, ← ei, e] at this
      exact hself _ this
    · have hk' : i + 1 + k < cs.length := by simp at hk; omega
      rw [List.getElem?_drop] at hs
      have ek : cs[i + 1 + k]?.getD [] = cs[i + 1 + k]'hk' := by simp [hk']
      refine h (cs[i + 1 + k]?.getD []) (by rw [ek]; exact List.getElem_mem _) (fun e => ?_) hs
      have := hpw i (i + 1 + k) hi hk' (by omega)
      rw [← ek, ← ei, e] at this
      exact hself _ this
  · rintro ⟨h1, h2⟩ d hd hne hs
    obtain ⟨k, hk, e⟩ := List.mem_iff_getElem.1 hd
    have ek : cs[k]?.getD [] = d := by simp [hk, e]
    rcases Nat.lt_trichotomy k i with g | g | g
    · exact h1 ⟨k, by simp; omega, by rw [List.getElem?_take, if_pos g, ek]; exact hs⟩
    · subst g
      exact hne ek.symm
    · refine h2 ⟨k - (i + 1), by simp; omega, ?_⟩
      rw [List.getElem?_drop, show i + 1 + (k - (i + 1)) = k by omega, ek]
      exact hs

set_option maxHeartbeats 8000000 in
set_option maxRecDepth 100000 in
theorem smallest_any (base : Nat) (v : Value) (qs : List (Cl Int)) (w : World) (h : LR base w v qs) (hl : LAsc (qs.map Cl.xs)) (ha : ∀ p ∈ qs, Asc p.xs) (hlen : qs.length ≤ 1048576) :
    Calls Tryz.prog 43 #[v] w fun e w' => ∃ v', e = .returned v' ∧ LR w.heap.size w' v' (qs.filter (fun p => mn (qs.map Cl.xs) p.xs)) ∧ Below w.heap.size w w' := by
  obtain ⟨i0, hi, hz0, hz1, hz2⟩ := info_parts Tryz.zinIntS
  have H := hide h
  have Hl := hide hl
  have Ha := hide ha
  have hat := h.at
  have Hat := hide hat
  obtain ⟨a, cap, rfl⟩ := own_is h.own
  obtain ⟨hcp, hcm⟩ := (own_cap h.own).le
  unfold maxLen at hcm
  clear h hl ha hat
  go_enter Tryz.func43, Tryz.ntmps43
  go_wp2_with fail
  go_loopw [3, 8] (fun ov iv wr => ∃ i : Nat, i ≤ qs.length ∧ iv = .int .i64 i ∧ LR w.heap.size wr ov ((qs.take i).filter (fun p => mn (qs.map Cl.xs) p.xs)) ∧ Below w.heap.size w wr) (fun _ iv _ => qs.length - (intOf iv).toNat)
  case atStart => exact ⟨0, Nat.zero_le _, rfl, LR.nil, Below.refl _ _⟩
  case round =>
    obtain ⟨i, hiq, rfl, hlr, hb⟩ := hrel
    have hszr := hb.size
    have Hlr := hide hlr
    obtain ⟨va, vc, rfl⟩ := own_is hlr.own
    have hkl := List.length_filter_le (fun p : Cl Int => mn (qs.map Cl.xs) p.xs) (qs.take i)
    rw [List.length_take] at hkl
    clear hlr
    by_cases hit : i < qs.length
    · have hit' : (i : Int) < (qs.length : Int) := by omega
      have hitc : i < (qs.map Cl.xs).length := by rw [List.length_map]; exact hit
      obtain ⟨g, cap', e, hcl⟩ := own_at_s (unhide H).own (by omega)
      cases e
      have hg : g < w.heap.size := ((unhide H).own.lt g rfl).2
      have hm : qs[i]?.getD dC ∈ qs := by rw [List.getElem?_eq_getElem hit]; exact List.getElem_mem _
      have hx : wr.cell? ⟨g, i, none⟩ = some (qs[i]?.getD dC).v := by
        rw [hb.cell (p := ⟨g, i, none⟩) hg, hcl i hit, List.getElem?_map, List.getElem?_eq_getElem hit]
        rfl
      have hok := hide (((unhide H).ok _ hm).below hb (Nat.le_refl _))
      have hasc := hide (unhide Ha _ hm)
      have exs : (qs.map Cl.xs)[i]?.getD [] = (qs[i]?.getD dC).xs := by simp [hit]
      have Hmn := hide (mn_parts (unhide Hl) hitc)
      rw [exs] at Hmn
      have Htk : Hid ((qs.take (i + 1)).filter (fun p => mn (qs.map Cl.xs) p.xs) = if mn (qs.map Cl.xs) (qs[i]?.getD dC).xs = true then (qs.take i).filter (fun p => mn (qs.map Cl.xs) p.xs) ++ [qs[i]?.getD dC] else (qs.take i).filter (fun p => mn (qs.map Cl.xs) p.xs)) := by
        show List.filter _ _ = _
        rw [List.take_add_one, List.filter_append, List.getElem?_eq_getElem hit]
        simp only [Option.toList_some, Option.getD_some, List.filter_cons, List.filter_nil]
        split <;> simp
      have Hasc : Hid (∀ z ∈ qs.map Cl.xs, Asc z) := fun z hz => by
        obtain ⟨p, hp, rfl⟩ := List.mem_map.1 hz
        exact unhide Ha p hp
      have Has1 : Hid (∀ k : Nat, k < ((qs.map Cl.xs).take i).length → Asc (((qs.map Cl.xs).take i)[k]?.getD [])) := fun k hk => by
        rw [List.getElem?_eq_getElem hk]
        exact unhide Hasc _ (List.mem_of_mem_take (List.getElem_mem hk))
      have Has2 : Hid (∀ k : Nat, k < ((qs.map Cl.xs).drop (i + 1)).length → Asc (((qs.map Cl.xs).drop (i + 1))[k]?.getD [])) := fun k hk => by
        rw [List.getElem?_eq_getElem hk]
        exact unhide Hasc _ (List.mem_of_mem_drop (List.getElem_mem hk))
      obtain ⟨_, cap2, e, hcapp, hc2⟩ := (unhide Hat).below hb (Nat.le_refl _)
      have hcapp' := hcapp
      rw [List.length_map] at e hcapp
      cases e
      obtain ⟨b', off', e2, hbn, hcell⟩ := hc2 (by rw [List.length_map]; omega)
      cases e2
      have T1 : Hid (SsAt mI 0 wr.heap.size wr (.slice (some ⟨g, 0, none⟩) i cap) ((qs.map Cl.xs).take i)) := SsAt.take (by rw [List.length_map]; omega) hcapp' hbn hcell
      have T2 : Hid (SsAt mI 0 wr.heap.size wr (.slice (some ⟨g, i + 1, none⟩) (qs.length - (i + 1)) (cap - (i + 1))) ((qs.map Cl.xs).drop (i + 1))) := by
        have := SsAt.drop (k := i + 1) (m := qs.length - (i + 1)) (cap := cap - (i + 1)) (by rw [List.length_map]; omega) ⟨by omega, by omega⟩ hbn hcell
        rwa [Nat.zero_add] at this
      have T3 : Hid (cap = i + 1 → SsAt mI 0 wr.heap.size wr (.slice (some ⟨g, 0, none⟩) 0 0) ((qs.map Cl.xs).drop (i + 1))) := fun h => by
        rw [List.drop_eq_nil_of_le (by rw [List.length_map]; omega)]
        exact ⟨_, 0, rfl, ⟨Nat.le_refl _, Nat.zero_le _⟩, fun h => absurd h (by simp)⟩
      generalize (qs.take i).filter (fun p => mn (qs.map Cl.xs) p.xs) = ks at *
      clear hcl hm exs hcell hc2 Hasc hitc
      generalize qs[i]?.getD dC = pi at *
      have SI := hide (unhide hok).at
      have CI' := hide (unhide hok).cap
      obtain ⟨pa, pc, e1⟩ : ∃ a c, pi.v = .slice a pi.xs.length c := by obtain ⟨a, c, e, -⟩ := unhide SI; exact ⟨a, c, e⟩
      have E1 := hide e1
      rw [e1] at hx SI CI'
      clear e1
      have hic : (i : Int) ≤ (cap : Int) := by omega
      have hic1 : (i : Int) + 1 ≤ (cap : Int) := by omega
      have hic2 : (i : Int) + 1 ≤ (qs.length : Int) := by omega
      have hic0 : (0 : Int) ≤ (i : Int) + 1 := by omega
      by_cases hP1 : OneOf pi.xs ((qs.map Cl.xs).take i)
      · have Hks : Hid ((qs.take (i + 1)).filter (fun p => mn (qs.map Cl.xs) p.xs) = ks) := (unhide Htk).trans (if_neg (fun h => ((unhide Hmn).1 h).1 hP1))
        have HP1 := hide hP1
        clear hP1 Htk Hmn
        go_wp2_with fail
        refine (holdsOneOf_any _ _ pi.xs _ _ (unhide SI) (unhide CI') (unhide hasc) (unhide T1) (unhide Has1)).mono ?_
        rintro e w1 ⟨hret, q1, rfl⟩
        obtain rfl := OneOf.is_true hret (unhide HP1)
        go_wp2
        go_roundw
        case rel => exact ⟨i + 1, by omega, by go_num, by rw [unhide Hks]; exact ⟨(unhide Hlr).own, (unhide Hlr).ok⟩, below_drewN hb q1⟩
        case measure => simp [intOf]; omega
      · have HP1 := hide hP1
        by_cases hce : cap = i + 1
        · have hn0 := hide (show qs.length = i + 1 by omega)
          have T3' := hide (unhide T3 hce)
          clear T3
          subst hce
          by_cases hP2 : OneOf pi.xs ((qs.map Cl.xs).drop (i + 1))
          · have Hks : Hid ((qs.take (i + 1)).filter (fun p => mn (qs.map Cl.xs) p.xs) = ks) := (unhide Htk).trans (if_neg (fun h => ((unhide Hmn).1 h).2 hP2))
            have HP2 := hide hP2
            clear hP2 hP1 Htk Hmn
            go_wp2_with fail
            refine (holdsOneOf_any _ _ pi.xs _ _ (unhide SI) (unhide CI') (unhide hasc) (unhide T1) (unhide Has1)).mono ?_
            rintro e w1 ⟨hret, q1, rfl⟩
            obtain rfl := OneOf.is_false hret (unhide HP1)
            go_wp2_with fail
            refine (holdsOneOf_any _ _ pi.xs _ _ (by exact unhide SI) (unhide CI') (unhide hasc) (by exact unhide T3') (unhide Has2)).mono ?_
            rintro e w2 ⟨hret2, q2, rfl⟩
            obtain rfl := OneOf.is_true hret2 (unhide HP2)
            go_wp2
            go_roundw
            case rel => exact ⟨i + 1, by omega, by go_num, by rw [unhide Hks]; exact ⟨(unhide Hlr).own, (unhide Hlr).ok⟩, below_drewN hb (q1 + q2)⟩
            case measure => simp [intOf]; omega
          · have Hks : Hid ((qs.take (i + 1)).filter (fun p => mn (qs.map Cl.xs) p.xs) = ks ++ [pi]) := (unhide Htk).trans (if_pos ((unhide Hmn).2 ⟨hP1, hP2⟩))
            have HP2 := hide hP2
            clear hP2 hP1 Htk Hmn
            go_wp2_with fail
            refine (holdsOneOf_any _ _ pi.xs _ _ (unhide SI) (unhide CI') (unhide hasc) (unhide T1) (unhide Has1)).mono ?_
            rintro e w1 ⟨hret, q1, rfl⟩
            obtain rfl := OneOf.is_false hret (unhide HP1)
            go_wp2_with fail
            refine (holdsOneOf_any _ _ pi.xs _ _ (by exact unhide SI) (unhide CI') (unhide hasc) (by exact unhide T3') (unhide Has2)).mono ?_
            rintro e w2 ⟨hret2, q2, rfl⟩
            obtain rfl := OneOf.is_false hret2 (unhide HP2)
            obtain ⟨V, hV⟩ : ∃ V, (wr.drewN q1).drewN q2 = V := ⟨_, rfl⟩
            have HlrV : Hid (LR w.heap.size V (.slice va ks.length vc) ks) := by rw [← hV]; exact ⟨(unhide Hlr).own, (unhide Hlr).ok⟩
            have hbV : Below w.heap.size w V := by rw [← hV]; exact below_drewN (below_drewN hb q1) q2
            have hzV : w.heap.size ≤ V.heap.size := hbV.size
            have hokV : Hid (pi.ok mI 0 3 V) := by rw [← hV]; exact unhide hok
            rw [hV]
            clear hV
            have Hst : Hid (∀ (w' : World) (v' : Value), w'.ownsRow w.heap.size 41 1 v' (ks.length + 1) (ks.map Cl.v ++ [.slice pa pi.xs.length pc]) → (V.alloc (.cells #[.slice pa pi.xs.length pc] 41)).grownBy w' (Value.slice va ks.length vc).ownBlock → LR w.heap.size w' v' (ks ++ [pi]) ∧ Below w.heap.size V w') := fun w' v' g1 g2 =>
              (unhide HlrV).app hzV (unhide hokV) (pushd_alloc V _) (by rw [unhide E1]; exact g1) g2
            go_wp2_with (at_builtin; refine wpList_append_own _ rfl _ _ 26 rfl w.heap.size 41 i0 (.slice none 0 0) 1 24 Tryz.underlying26 hi hz0 hz1 hz2 rfl (by decide) _ _ _ rfl (World.ownsRow.alloc (w := V) (unhide HlrV).own _) ⟨V.heap.size, 0, none⟩ 1 1 [.slice pa pi.xs.length pc] rfl rfl ?_ ?_ ?_ ?_ ?_ ?_)
            · exact cell_1 (by simp)
            · intro u hu; simp at hu; subst hu; rfl
            · unfold maxLen; omega
            · omega
            · rw [sz_alloc]; omega
            intro v3 w3 h5 hg5 _
            have h3 := hide (unhide Hst w3 v3 h5 hg5)
            obtain ⟨g3, cap3, rfl⟩ := ownsRow_succ h5
            clear h5 hg5
            go_wp2
            go_roundw
            case rel => exact ⟨i + 1, by omega, by go_num, by rw [unhide Hks]; exact (unhide h3).1, hbV.trans (unhide h3).2⟩
            case measure => simp [intOf]; omega
        · have hce' : i + 1 < cap := by omega
          by_cases hP2 : OneOf pi.xs ((qs.map Cl.xs).drop (i + 1))
          · have Hks : Hid ((qs.take (i + 1)).filter (fun p => mn (qs.map Cl.xs) p.xs) = ks) := (unhide Htk).trans (if_neg (fun h => ((unhide Hmn).1 h).2 hP2))
            have HP2 := hide hP2
            clear hP2 hP1 Htk Hmn
            go_wp2_with fail
            refine (holdsOneOf_any _ _ pi.xs _ _ (unhide SI) (unhide CI') (unhide hasc) (unhide T1) (unhide Has1)).mono ?_
            rintro e w1 ⟨hret, q1, rfl⟩
            obtain rfl := OneOf.is_false hret (unhide HP1)
            go_wp2_with fail
            refine (holdsOneOf_any _ _ pi.xs _ _ (by exact unhide SI) (unhide CI') (unhide hasc) (by exact unhide T2) (unhide Has2)).mono ?_
            rintro e w2 ⟨hret2, q2, rfl⟩
            obtain rfl := OneOf.is_true hret2 (unhide HP2)
            go_wp2
            go_roundw
            case rel => exact ⟨i + 1, by omega, by go_num, by rw [unhide Hks]; exact ⟨(unhide Hlr).own, (unhide Hlr).ok⟩, below_drewN hb (q1 + q2)⟩
            case measure => simp [intOf]; omega
          · have Hks : Hid ((qs.take (i + 1)).filter (fun p => mn (qs.map Cl.xs) p.xs) = ks ++ [pi]) := (unhide Htk).trans (if_pos ((unhide Hmn).2 ⟨hP1, hP2⟩))
            have HP2 := hide hP2
            clear hP2 hP1 Htk Hmn
            go_wp2_with fail
            refine (holdsOneOf_any _ _ pi.xs _ _ (unhide SI) (unhide CI') (unhide hasc) (unhide T1) (unhide Has1)).mono ?_
            rintro e w1 ⟨hret, q1, rfl⟩
            obtain rfl := OneOf.is_false hret (unhide HP1)
            go_wp2_with fail
            refine (holdsOneOf_any _ _ pi.xs _ _ (by exact unhide SI) (unhide CI') (unhide hasc) (by exact unhide T2) (unhide Has2)).mono ?_
            rintro e w2 ⟨hret2, q2, rfl⟩
            obtain rfl := OneOf.is_false hret2 (unhide HP2)
            obtain ⟨V, hV⟩ : ∃ V, (wr.drewN q1).drewN q2 = V := ⟨_, rfl⟩
            have HlrV : Hid (LR w.heap.size V (.slice va ks.length vc) ks) := by rw [← hV]; exact ⟨(unhide Hlr).own, (unhide Hlr).ok⟩
            have hbV : Below w.heap.size w V := by rw [← hV]; exact below_drewN (below_drewN hb q1) q2
            have hzV : w.heap.size ≤ V.heap.size := hbV.size
            have hokV : Hid (pi.ok mI 0 3 V) := by rw [← hV]; exact unhide hok
            rw [hV]
            clear hV
            have Hst : Hid (∀ (w' : World) (v' : Value), w'.ownsRow w.heap.size 41 1 v' (ks.length + 1) (ks.map Cl.v ++ [.slice pa pi.xs.length pc]) → (V.alloc (.cells #[.slice pa pi.xs.length pc] 41)).grownBy w' (Value.slice va ks.length vc).ownBlock → LR w.heap.size w' v' (ks ++ [pi]) ∧ Below w.heap.size V w') := fun w' v' g1 g2 =>
              (unhide HlrV).app hzV (unhide hokV) (pushd_alloc V _) (by rw [unhide E1]; exact g1) g2
            go_wp2_with (at_builtin; refine wpList_append_own _ rfl _ _ 26 rfl w.heap.size 41 i0 (.slice none 0 0) 1 24 Tryz.underlying26 hi hz0 hz1 hz2 rfl (by decide) _ _ _ rfl (World.ownsRow.alloc (w := V) (unhide HlrV).own _) ⟨V.heap.size, 0, none⟩ 1 1 [.slice pa pi.xs.length pc] rfl rfl ?_ ?_ ?_ ?_ ?_ ?_)
            · exact cell_1 (by simp)
            · intro u hu; simp at hu; subst hu; rfl
            · unfold maxLen; omega
            · omega
            · rw [sz_alloc]; omega
            intro v3 w3 h5 hg5 _
            have h3 := hide (unhide Hst w3 v3 h5 hg5)
            obtain ⟨g3, cap3, rfl⟩ := ownsRow_succ h5
            clear h5 hg5
            go_wp2
            go_roundw
            case rel => exact ⟨i + 1, by omega, by go_num, by rw [unhide Hks]; exact (unhide h3).1, hbV.trans (unhide h3).2⟩
            case measure => simp [intOf]; omega
    · obtain rfl : i = qs.length := by omega
      rw [List.take_length] at *
      go_wp2
      go_ret
      exact ⟨_, rfl, unhide Hlr, hb⟩

end Go.Proofs.YtjefklagedidmaaGreat
