import Derived.Test.YtjefklagedidmaaGreatJ22
import Derived.Test.YtjefklagedidmaaGreatP5
import Derived.Test.YtjefklagedidmaaGreatV5
import Derived.Test.YtjefklagedidmaaGreatP11
import Derived.Test.YtjefklagedidmaaGreatP10
namespace Go.Proofs.YtjefklagedidmaaGreat
open Go.RowKit

/-- The answer to a tree. -/
def AnsK (xs : List El) (S : List (List Int)) : Prop := (ValidT xs ∧ ∃ L, SegX xs L ∧ SegK L S ∧ Sm S) ∨ (¬ ValidT xs ∧ S = [])
theorem AnsK.one {xs : List El} {A B : List (List Int)} (h : AnsK xs A) (k : AnsK xs B) : A = B := by
  rcases h with ⟨h1, L, h2, h3, -⟩ | ⟨h1, rfl⟩ <;> rcases k with ⟨k1, L', k2, k3, -⟩ | ⟨k1, rfl⟩
  · obtain rfl := h2.one k2
    exact h3.one k3
  · exact absurd h1 k1
  · exact absurd k1 h1
  · rfl
theorem tot_lim : ∀ {S : List (List Int)} {m : Nat}, (∀ x, x ∈ S → x.length ≤ m) → tot S ≤ S.length * m
  | [], _, _ => by simp [tot]
  | x :: r, m, h => by
    have h1 := tot_lim (S := r) (fun y hy => h y (List.mem_cons_of_mem _ hy))
    have h2 := h x (List.mem_cons_self ..)
    simp only [tot, List.length_cons, Nat.succ_mul]
    omega
theorem Sm.tot {S : List (List Int)} (h : Sm S) : tot S ≤ 3000 := by
  have h1 := tot_lim h.2
  have h2 := h.1
  have := Nat.mul_le_mul_right 60 h2
  omega
theorem AnsK.sm {xs : List El} {S : List (List Int)} (h : AnsK xs S) : Sm S := by
  rcases h with ⟨-, L, -, -, h⟩ | ⟨-, rfl⟩
  · exact h
  · exact ⟨by simp, by simp⟩
/-- What Skeletons leaves. -/
def KRet (w : World) (xs : List El) (e : Ending) (w' : World) : Prop := ∃ v ps, e = .returned v ∧ AnsK xs (ps.map Cl.xs) ∧ LL mI 0 3 41 w.heap.size w' v ps ∧ Below w.heap.size w w'

set_option maxHeartbeats 1000000 in
theorem specK_any (l r : Bool) (v : Value) (xs : List El) (w : World) (hv : ElsAt 0 w.heap.size w v xs) : Calls Tryz.prog 14 #[.agg #[.bool l, .bool r, v]] w fun e w' => KRet w xs e w' := by
  obtain ⟨a, cp, rfl, -, -⟩ := id hv
  have Hv := hide hv
  have hb0 := below1 w (.cells #[.bool l, .bool r, .slice a xs.length cp] 32)
  have Hc : Hid (∀ W, Below (w.heap.size + 1) (w.alloc (.cells #[.bool l, .bool r, .slice a xs.length cp] 32)) W → W.cell? ⟨w.heap.size, 2, none⟩ = some (.slice a xs.length cp)) := fun W hW => (hW.cell (p := ⟨w.heap.size, 2, none⟩) (Nat.lt_succ_self _)).trans ((pushd_alloc w _).news 2 _ rfl)
  clear hv
  go_enter Tryz.func14, Tryz.ntmps14
  go_wp2_with fail
  have hz0 : (w.alloc (.cells #[.bool l, .bool r, .slice a xs.length cp] 32)).heap.size = w.heap.size + 1 := sz_alloc _ _
  generalize w.alloc (.cells #[.bool l, .bool r, .slice a xs.length cp] 32) = W0 at *
  refine (specValid_any l r _ xs _ ((unhide Hv).below hb0 (Nat.le_refl _))).mono ?_
  rintro e w1 ⟨hret, hb1⟩
  have hcell := unhide Hc w1 (hb1.mono (by omega))
  have hB1 : Below w.heap.size w w1 := hb0.trans (hb1.mono (by omega))
  clear hb1 hb0 hz0
  rcases hret.cases with ⟨rfl, hok⟩ | ⟨rfl, hbad⟩
  · obtain ⟨L, hx, hn, hl, hsx, ⟨U, S, c, -, hs, hm, hasc, -, hsk⟩, -⟩ := valid_k hok
    have HX := hide hx
    have HSK := hide hs
    have HN := hide hn
    have HSM := hide hm
    have HASC := hide hasc
    have Hans : Hid (AnsK xs S) := Or.inl ⟨hok, L, hsx, hsk, hm⟩
    have hlen := hok.1.2
    clear hret hok hx hn hsx hs hm hasc hsk
    go_wp2_with fail
    refine (unhide HX _ _ ((unhide Hv).below hB1 (Nat.le_refl _)) hlen).mono ?_
    rintro e w2 ⟨v2, rfl, hg, hb2⟩
    have hB2 := hB1.trans (hb2.mono hB1.size)
    have HE := hide (hg.els (unhide HN))
    obtain ⟨a2, c2, rfl⟩ := hg.form
    clear hg hb2 hcell
    go_wp2_with fail
    refine (unhide HSK _ _ (unhide HE) (by omega)).mono ?_
    rintro e w3 ⟨v3, ps, rfl, hperm, hlr, hb3⟩
    have hB3 := hB2.trans (hb3.mono hB2.size)
    have HP := hide hperm
    have HLR := hide hlr.at
    obtain ⟨hps, hpx⟩ := perm_sm hperm (unhide HSM)
    have htot : tot (ps.map Cl.xs) ≤ 1048576 := by
      have h1 : Sm (ps.map Cl.xs) := ⟨by rw [List.length_map]; exact hps, fun x hx => by obtain ⟨p, hp, rfl⟩ := List.mem_map.1 hx; exact hpx p hp⟩
      have := h1.tot
      omega
    obtain ⟨a3, c3, rfl⟩ := own_is hlr.own
    clear hperm hlr hb3 hpx
    go_wp2_with fail
    refine (orderLists_any _ (ps.map Cl.xs) _ (unhide HLR) (by rw [List.length_map]; omega) htot).mono ?_
    rintro e w4 ⟨v4, qs, rfl, hol, -, hll, hb4⟩
    have hB4 := hB3.trans (hb4.mono hB3.size)
    have heq : qs.map Cl.xs = S := lasc_uniq hol.asc (unhide HASC) (fun z => (hol.mem z).trans (unhide HP).mem_iff)
    have HL := hide (hll.base hB3.size)
    have HQ := hide heq
    obtain ⟨a4, c4, rfl⟩ := own_is hll.own
    clear hol hll hb4 heq
    go_wp2
    go_ret
    exact ⟨_, qs, rfl, by rw [unhide HQ]; exact unhide Hans, unhide HL, hB4⟩
  · have Hans : Hid (AnsK xs []) := Or.inr ⟨hbad, rfl⟩
    clear hret hbad
    go_wp2
    go_ret
    exact ⟨_, [], rfl, unhide Hans, LL.nil, hB1⟩

set_option maxHeartbeats 1000000 in
theorem implK_any (l r : Bool) (v : Value) (xs : List El) (w : World) (hv : ElsAt 0 w.heap.size w v xs) : Calls Tryz.prog 18 #[.agg #[.bool l, .bool r, v]] w fun e w' => KRet w xs e w' := by
  obtain ⟨a, cp, rfl, -, -⟩ := id hv
  have Hv := hide hv
  have hb0 := below1 w (.cells #[.bool l, .bool r, .slice a xs.length cp] 32)
  have t5 := fld_sk
  clear hv
  go_enter Tryz.func18, Tryz.ntmps18
  go_wp2_with fail
  generalize w.alloc (.cells #[.bool l, .bool r, .slice a xs.length cp] 32) = W0 at *
  refine (gnodeOf_any closK _ xs _ ((unhide Hv).below hb0 (Nat.le_refl _))).mono ?_
  rintro e w1 ⟨⟨u, c, rfl, hok, hgx, hc5, -⟩ | ⟨rfl, hbad⟩, hb1⟩
  · have hB1 : Below w.heap.size w w1 := hb0.trans (hb1.mono hb0.size)
    obtain ⟨L, -, -, -, hsx, -, hU⟩ := valid_k hok
    obtain ⟨U, hE, S, c9, hS, -, hm, -, -, hsk⟩ := hU u c hgx hc5
    obtain ⟨T0, x0, rfl⟩ := hgx.1.iface
    obtain ⟨⟨T, x, rfl⟩, hS⟩ := hS
    have HE := hide hE.2
    have HS := hide hS
    have Hans : Hid (AnsK xs S) := Or.inl ⟨hok, L, hsx, hsk, hm⟩
    clear hE hS hok hgx hsx hsk hm hb1 hU
    go_wp2_with fail
    refine (unhide HE _).mono ?_
    rintro e w2 ⟨rfl, hb2⟩
    have hB2 := hB1.trans (hb2.mono hB1.size)
    clear hb2
    go_wp2_with fail
    refine (unhide HS _).mono ?_
    rintro e w3 ⟨lv, ps, c3, rfl, hll, hq, hb3⟩
    have hB3 := hB2.trans (hb3.mono hB2.size)
    have HL := hide (hll.base hB2.size)
    have HQ := hide hq
    obtain ⟨a3, c4, rfl⟩ := own_is hll.own
    clear hll hq hb3
    go_wp2
    go_ret
    exact ⟨_, ps, rfl, by rw [unhide HQ]; exact unhide Hans, unhide HL, hB3⟩
  · have hB1 : Below w.heap.size w w1 := hb0.trans (hb1.mono hb0.size)
    have Hans : Hid (AnsK xs []) := Or.inr ⟨hbad, rfl⟩
    clear hbad hb1
    go_wp2
    go_ret
    exact ⟨_, [], rfl, unhide Hans, LL.nil, hB1⟩

set_option maxHeartbeats 1000000 in
theorem markPattern_f (l r : Bool) (v : Value) (xs : List El) (k : Int) (S : Nat → Prop) (w : World) (hv : ElsF S w v xs) (k0 : 0 ≤ k) (k1 : k ≤ 1048576) (hlen : xs.length + bulk xs ≤ 1048576) (hset : ∀ i : Nat, (xs[i]?.getD dE).set.length ≤ 1048576) (hS : ∀ j, S j → j < w.heap.size) :
    Calls Tryz.prog 10 #[.agg #[.bool l, .bool r, v], .int .i64 k] w fun e w' => e = .returned (.int .i64 (endE k xs)) ∧ ∃ W : World, Below w.heap.size w W ∧ ChgF S W w' := by
  obtain ⟨a, cp, rfl⟩ : ∃ a c, v = .slice a xs.length c := by obtain ⟨a, c, e, -⟩ := hv; exact ⟨a, c, e⟩
  have hb0 := below1 w (.cells #[.bool l, .bool r, .slice a xs.length cp] 32)
  have HA := hide (markOpS_f _ xs k S _ (hv.same (fun j hj => hb0.block j (hS j hj))) k0 k1 hlen hset)
  clear hv hset
  go_enter Tryz.func10, Tryz.ntmps10
  go_wp2_with fail
  refine (unhide HA).mono ?_
  rintro e w1 ⟨rfl, -, hc⟩
  have HC := hide hc
  obtain ⟨K, hK⟩ : ∃ K, K = endE k xs := ⟨_, rfl⟩
  rw [← hK]
  have HK := hide hK
  clear hc HA hK
  go_wp2
  go_ret
  exact ⟨by rw [← unhide HK]; rfl, _, hb0, unhide HC⟩

set_option maxHeartbeats 1000000 in
theorem toPattern_w (l r : Bool) (v : Value) (xs : List El) (w : World) (hv : ElsAt 0 w.heap.size w v xs) (hlen : xs.length ≤ 1048576) (hset : ∀ i : Nat, (xs[i]?.getD dE).set.length ≤ 1048576) :
    Calls Tryz.prog 6 #[.agg #[.bool l, .bool r, v]] w fun e w' => ∃ v', e = .returned (.agg #[.bool l, .bool r, v']) ∧ ElsF (Rng w.heap.size w'.heap.size) w' v' xs ∧ Below w.heap.size w w' := by
  obtain ⟨a, cap, rfl, -, -⟩ := id hv
  go_enter Tryz.func6, Tryz.ntmps6
  go_wp2_with fail
  refine (toOpS_w _ xs _ (by exact hv.below (below3 w _ _ _) (Nat.le_refl _)) hlen hset).mono ?_
  rintro e w1 ⟨v', rfl, hv', hb1⟩
  obtain ⟨hc1, hf1⟩ := bcell hb1
  simp only [sz_alloc] at hc1 hf1
  have hz := hb1.size
  simp only [sz_alloc] at hz
  have hf := hv'.foot
  rw [sz_alloc, sz_alloc, sz_alloc] at hf
  obtain ⟨a', cap', rfl⟩ : ∃ a c, v' = .slice a xs.length c := by obtain ⟨a, c, e, -⟩ := hv'; exact ⟨a, c, e⟩
  have HF := hide hf
  clear hf hv'
  go_wp2
  refine bodyPost_ret (v := .agg #[.bool l, .bool r, .slice a' xs.length cap']) (by simp [results, Tryz.results6, go_sem, hc1]) rfl ⟨_, rfl, ?_, ?_⟩
  · refine ((unhide HF).same (fun k hk => ?_)).mono (fun k hk => ⟨by have := hk.1; omega, by simp only [sz_put]; exact hk.2⟩)
    have := hk.1
    rw [Below.heap_setCell _ _ _ _ (by intro e; simp only at e; omega), Below.heap_setCell _ _ _ _ (by intro e; simp only at e; omega), Below.heap_setCell _ _ _ _ (by intro e; simp only at e; omega), Below.heap_setCell _ _ _ _ (by intro e; simp only at e; omega)]
  · have hb0 : Below w.heap.size w w1 := (below3 w _ _ _).trans (hb1.mono (by rw [sz_alloc, sz_alloc, sz_alloc]; omega))
    exact bput (bput (bput (bput hb0 (by omega) _) (by omega) _) (by omega) _) (by omega) _

end Go.Proofs.YtjefklagedidmaaGreat
