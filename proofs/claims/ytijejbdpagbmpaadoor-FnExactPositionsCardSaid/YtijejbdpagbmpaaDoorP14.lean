import Derived.Test.YtijejbdpagbmpaaDoorP13
import Derived.Test.YtijejbdpagbmpaaDoorP1
import Derived.Shelf.Spec.TrailingZeros
import Derived.Test.YtijejbdpagbmpaaDoorRows
namespace Go.Proofs.YtijejbdpagbmpaaDoor
open Go.RowKit

def allE : List El := [⟨1, [0, 255], 0, 0⟩] ++ [⟨4, [], 0, -1⟩]
/-- The list of the whole tree. -/
def whL (l r : Bool) (L : List El) : List El :=
  let M := if l then L else allE ++ L ++ [⟨2, [], 0, 0⟩]
  if r then M else M ++ allE ++ [⟨2, [], 0, 0⟩]
theorem whL_len (l r : Bool) (L : List El) : (whL l r L).length ≤ L.length + 6 := by
  unfold whL allE
  cases l <;> cases r <;> simp <;> omega
theorem ClosX.all {Q : Value → List El → Prop} (hQ : ClosX Q) {g : Nat → Nat} (hw : WordsOf [0, 255] g) : Q (rV (sV g) 0 (-1)) allE := hQ.rep (hQ.s canon_all hw) (by decide) (by decide) (Or.inl rfl)
/-- What wholeTree answers. -/
def WhRet (Q : Value → List El → Prop) (l r : Bool) (xs : List El) (e : Ending) : Prop :=
  (∃ U L, e = .returned (.tuple #[U, .bool true]) ∧ (∃ T x, U = .iface T x) ∧ ValidT xs ∧ SegX xs L ∧ L.length ≤ 1000 ∧ Q U (whL l r L)) ∨ (e = .returned (.tuple #[.nilIface, .bool false]) ∧ ¬ ValidT xs)

set_option maxHeartbeats 4000000 in
set_option maxRecDepth 100000 in
theorem wholeTree_any {Q : Value → List El → Prop} (hQ : ClosX Q) (l r : Bool) (v : Value) (xs : List El) (w : World) (hv : ElsAt 0 w.heap.size w v xs) :
    Calls Tryd.prog 20 #[.agg #[.bool l, .bool r, v]] w fun e w' => WhRet Q l r xs e ∧ Below w.heap.size w w' := by
  obtain ⟨a, cp, rfl, -, -⟩ := id hv
  have Hv := hide hv
  have hb0 := below1 w (.cells #[.bool l, .bool r, .slice a xs.length cp] 33)
  have HC : Hid (∀ W, Below (w.heap.size + 1) (w.alloc (.cells #[.bool l, .bool r, .slice a xs.length cp] 33)) W → W.cell? ⟨w.heap.size, 0, none⟩ = some (.bool l) ∧ W.cell? ⟨w.heap.size, 1, none⟩ = some (.bool r)) := fun W hW =>
    ⟨(hW.cell (p := ⟨w.heap.size, 0, none⟩) (Nat.lt_succ_self _)).trans ((pushd_alloc w _).news 0 _ rfl), (hW.cell (p := ⟨w.heap.size, 1, none⟩) (Nat.lt_succ_self _)).trans ((pushd_alloc w _).news 1 _ rfl)⟩
  clear hv
  go_enter Tryd.func20, Tryd.ntmps20
  go_wp2_with fail
  have hz0 : (w.alloc (.cells #[.bool l, .bool r, .slice a xs.length cp] 33)).heap.size = w.heap.size + 1 := sz_alloc _ _
  generalize w.alloc (.cells #[.bool l, .bool r, .slice a xs.length cp] 33) = W0 at *
  have hz0' : w.heap.size + 1 ≤ W0.heap.size := by omega
  clear hz0
  refine (gnodeOf_any (closQ hQ) _ xs _ ((unhide Hv).below hb0 (Nat.le_refl _))).mono ?_
  rintro e w1 ⟨⟨u, c, rfl, hok, hgx, hc5, -⟩ | ⟨rfl, hbad⟩, hb1⟩
  · obtain ⟨L, -, -, hl, hsx, -, hU⟩ := valid_q hQ hok
    obtain ⟨U, hE, hqu⟩ := hU u c hgx hc5
    obtain ⟨T0, x0, rfl⟩ := hgx.1.iface
    obtain ⟨⟨T, x, rfl⟩, hE⟩ := hE
    have HE := hide hE
    have HQU := hide hqu
    have HOK := hide hok
    have HSX := hide hsx
    have HL := hide hl
    have HB1 := hide (hb1.mono hz0')
    have HB01 := hide (hb0.trans (hb1.mono (by omega)))
    clear hE hqu hok hsx hl hb1 hU hgx hb0
    go_wp2_with fail
    refine (unhide HE _).mono ?_
    rintro e w2 ⟨rfl, hb2⟩
    have hz1 := (unhide HB01).size
    have hz2 := hb2.size
    have hz3 := (unhide HB1).size
    have HB2 := hide ((unhide HB1).trans (hb2.mono (by omega)))
    have HB02 := hide ((unhide HB01).trans (hb2.mono hz1))
    clear hb2 HE HB1 HB01
    go_wp2_with fail
    refine (allBytes_w _).mono ?_
    rintro e w3 ⟨⟨g, rfl, hg⟩, hb3⟩
    have hz4 := hb3.size
    have HB3 := hide ((unhide HB2).trans (hb3.mono (by omega)))
    have HB03 := hide ((unhide HB02).trans (hb3.mono (by omega)))
    have HALL := hide (hQ.all hg)
    have hb4 := below1 w3 (.cells #[.iface 87 (.agg #[.int .u64 (g 0 : Nat), .int .u64 (g 1 : Nat), .int .u64 (g 2 : Nat), .int .u64 (g 3 : Nat)]), .int .i64 0, .int .i64 (-1)] 89)
    obtain ⟨k0, k1⟩ := unhide HC _ ((unhide HB3).trans (hb4.mono (by omega)))
    have HB04 := hide ((unhide HB03).trans (hb4.mono (by omega)))
    clear hb3 hg hb4 HB2 HB02 HC
    unfold ws4
    have HFIN : Hid (∀ U', Q U' (whL l r L) → (∃ T x, U' = .iface T x) → ∀ w', Below w.heap.size w w' → WhRet Q l r xs (.returned (.tuple #[U', .bool true])) ∧ Below w.heap.size w w') := fun U' h1 h2 w' h3 => ⟨Or.inl ⟨U', L, rfl, h2, unhide HOK, unhide HSX, unhide HL, h1⟩, h3⟩
    cases l <;> cases r
    · go_wp2
      go_ret2
      exact unhide HFIN _ (hQ.cat (hQ.cat (unhide HALL) (unhide HQU)) (unhide HALL)) ⟨_, _, rfl⟩ _ (unhide HB04)
    · go_wp2
      go_ret2
      exact unhide HFIN _ (hQ.cat (unhide HALL) (unhide HQU)) ⟨_, _, rfl⟩ _ (unhide HB04)
    · go_wp2
      go_ret2
      exact unhide HFIN _ (hQ.cat (unhide HQU) (unhide HALL)) ⟨_, _, rfl⟩ _ (unhide HB04)
    · go_wp2
      go_ret2
      exact unhide HFIN _ (unhide HQU) ⟨_, _, rfl⟩ _ (unhide HB04)
  · have HB := hide (hb0.trans (hb1.mono (by omega)))
    have HBAD := hide hbad
    clear hbad hb1 hb0
    go_wp2
    go_ret2
    exact ⟨Or.inr ⟨rfl, unhide HBAD⟩, unhide HB⟩

end Go.Proofs.YtijejbdpagbmpaaDoor

namespace Go.Proofs.YtijejbdpagbmpaaDoor
open Go.RowKit

set_option maxHeartbeats 1000000 in
theorem l1all_any (w : World) : Calls Tryd.prog 37 #[] w fun e w' => ∃ v, e = .returned v ∧ SlAt mI 0 0 w'.heap.size w' v [0, 255] ∧ Below w.heap.size w w' := by
  go_enter Tryd.func37, Tryd.ntmps37
  go_wp2
  go_ret
  refine ⟨_, rfl, ⟨_, 2, rfl, by unfold maxLen; simp, fun _ => ⟨w.heap.size, 0, rfl, Nat.zero_le _, by rw [sz_alloc]; exact Nat.lt_succ_self _, fun i hi => ?_⟩⟩, below1 w _⟩
  have hi' : i < 2 := hi
  match i, hi' with
  | 0, _ => exact (pushd_alloc w _).news 0 _ rfl
  | 1, _ => exact (pushd_alloc w _).news 1 _ rfl

end Go.Proofs.YtijejbdpagbmpaaDoor

namespace Go.Proofs.YtijejbdpagbmpaaDoor
open Go.RowKit

theorem GrowE.set1 {w w1 : World} {v1 : Value} {xs : List Int} (hb : Below w.heap.size w w1) (hs : SlW mI 0 w.heap.size w1.heap.size w1 v1 xs) : GrowE w.heap.size (w1.alloc (.cells #[.int .i64 1, v1, .int .i64 0, .int .i64 0] 44)) (.slice (some ⟨w1.heap.size, 0, none⟩) 1 1) [⟨1, xs, 0, 0⟩] := by
  refine ⟨[⟨⟨1, xs, 0, 0⟩, v1, Rng w.heap.size w1.heap.size⟩], rfl, World.ownsRow_lit w1 _ 1 hb.size (by unfold maxLen; omega) rfl, fun p hp => ?_, fun p hp k hk => ?_, List.pairwise_singleton _ _⟩
  · obtain rfl := List.mem_singleton.1 hp
    exact hs.foot.same (fun k hk => (below1 w1 _).block k hk.2)
  · obtain rfl := List.mem_singleton.1 hp
    have h2 := hk.2
    exact ⟨hk.1, by rw [sz_alloc]; omega, fun e => by have e2 : w1.heap.size = k := Option.some.inj e; omega⟩

set_option maxHeartbeats 2000000 in
theorem l1set_w (v : Value) (xs : List Int) (w : World) (hv : SlAt mI 0 0 w.heap.size w v xs) (hlen : xs.length ≤ 1048576) : Calls Tryd.prog 36 #[v] w fun e w' => ∃ v', e = .returned v' ∧ GrowE w.heap.size w' v' [⟨1, xs, 0, 0⟩] ∧ Below w.heap.size w w' := by
  obtain ⟨a, cp, rfl, -, -⟩ := id hv
  have Hv := hide hv
  clear hv
  go_enter Tryd.func36, Tryd.ntmps36
  go_wp2_with (at_builtin; refine app_ints rfl _ _ rfl rfl _ rfl xs (unhide Hv) hlen ?_; intro sv w1 hb1 hsl h1c; obtain ⟨sa, sc, rfl⟩ : ∃ a c, sv = .slice a xs.length c := (by obtain ⟨a, c, e, -⟩ := hsl; exact ⟨a, c, e⟩); have HG := hide (GrowE.set1 hb1 hsl); have HB := hide (hb1.trans ((below1 w1 (.cells #[.int .i64 1, .slice sa xs.length sc, .int .i64 0, .int .i64 0] 44)).mono hb1.size)); clear hsl h1c hb1)
  go_ret
  exact ⟨_, rfl, unhide HG, unhide HB⟩

set_option maxHeartbeats 2000000 in
theorem l1cat_w (vx vy : Value) (xs ys : List El) (w : World) (hx : ElsAt 0 w.heap.size w vx xs) (hy : ElsAt 0 w.heap.size w vy ys) (hlx : xs.length ≤ 1048576) (hly : ys.length ≤ 1048576) (hsx : ∀ i : Nat, (xs[i]?.getD dE).set.length ≤ 1048576) (hsy : ∀ i : Nat, (ys[i]?.getD dE).set.length ≤ 1048576) :
    Calls Tryd.prog 38 #[vx, vy] w fun e w' => ∃ v', e = .returned v' ∧ GrowE w.heap.size w' v' (xs ++ ys ++ [⟨2, [], 0, 0⟩]) ∧ Below w.heap.size w w' := by
  have H := hide (l1bin_w 2 vx vy xs ys w hx hy hlx hly hsx hsy)
  obtain ⟨a1, c1, rfl, -, -⟩ := id hx
  obtain ⟨a2, c2, rfl, -, -⟩ := id hy
  clear hx hy hsx hsy
  go_enter Tryd.func38, Tryd.ntmps38
  go_wp2_with fail
  refine (unhide H).mono ?_
  rintro e w1 ⟨v1, rfl, hg1, hb1⟩
  obtain ⟨Z, hZ⟩ : ∃ Z, Z = xs ++ ys ++ [⟨2, [], 0, 0⟩] := ⟨_, rfl⟩
  rw [← hZ] at hg1
  have HZ := hide hZ
  have HG := hide hg1
  obtain ⟨o1, d1, rfl⟩ := hg1.form
  clear hg1 hZ
  go_wp2
  go_ret
  exact ⟨_, rfl, by rw [← unhide HZ]; exact unhide HG, hb1⟩

theorem nice_all : Nice allE := (nice_set canon_all).app (Nice.op _ _ _ (by simp [In64]) (by simp [In64]) (by simp [In64]))
theorem nice_cat {a b : List El} (ha : Nice a) (hb : Nice b) : Nice (a ++ b ++ [⟨2, [], 0, 0⟩]) := (ha.app hb).app (Nice.op _ _ _ (by simp [In64]) (by simp [In64]) (by simp [In64]))
theorem nice_wh (l r : Bool) {L : List El} (h : Nice L) : Nice (whL l r L) := by
  unfold whL
  cases l <;> cases r
  · exact nice_cat (nice_cat nice_all h) nice_all
  · exact nice_cat nice_all h
  · exact nice_cat h nice_all
  · exact h

set_option maxHeartbeats 4000000 in
theorem l2whole_any (l r : Bool) (v : Value) (xs L : List El) (w : World) (hv : ElsAt 0 w.heap.size w v xs) (hlen : xs.length ≤ 3000) (hx : XpS xs L) (hn : Nice L) (hL : L.length ≤ 1000) :
    Calls Tryd.prog 15 #[.agg #[.bool l, .bool r, v]] w fun e w' => ∃ v', e = .returned v' ∧ GrowE w.heap.size w' v' (whL l r L) ∧ Below w.heap.size w w' := by
  obtain ⟨a, cp, rfl, -, -⟩ := id hv
  have Hv := hide hv
  have HX := hide hx
  have HN := hide hn
  have hb0 := below1 w (.cells #[.bool l, .bool r, .slice a xs.length cp] 33)
  have HC : Hid (∀ W, Below (w.heap.size + 1) (w.alloc (.cells #[.bool l, .bool r, .slice a xs.length cp] 33)) W → W.cell? ⟨w.heap.size, 0, none⟩ = some (.bool l) ∧ W.cell? ⟨w.heap.size, 1, none⟩ = some (.bool r)) := fun W hW =>
    ⟨(hW.cell (p := ⟨w.heap.size, 0, none⟩) (Nat.lt_succ_self _)).trans ((pushd_alloc w _).news 0 _ rfl), (hW.cell (p := ⟨w.heap.size, 1, none⟩) (Nat.lt_succ_self _)).trans ((pushd_alloc w _).news 1 _ rfl)⟩
  clear hv hx hn
  go_enter Tryd.func15, Tryd.ntmps15
  go_wp2_with fail
  have hz0 : (w.alloc (.cells #[.bool l, .bool r, .slice a xs.length cp] 33)).heap.size = w.heap.size + 1 := sz_alloc _ _
  generalize w.alloc (.cells #[.bool l, .bool r, .slice a xs.length cp] 33) = W0 at *
  refine (unhide HX _ _ ((unhide Hv).below hb0 (Nat.le_refl _)) hlen).mono ?_
  rintro e w1 ⟨v1, rfl, hg1, hb1⟩
  have hz1 := hb1.size
  have HG1 := hide hg1
  obtain ⟨a1, c1, rfl⟩ := hg1.form
  have HB1 := hide (hb1.mono (show w.heap.size + 1 ≤ W0.heap.size by omega))
  have HB01 := hide (hb0.trans (hb1.mono (by omega)))
  clear hg1 hb1 hb0
  go_wp2_with fail
  refine (l1all_any _).mono ?_
  rintro e w2 ⟨v2, rfl, hs2, hb2⟩
  have hz2 := hb2.size
  have HS2 := hide hs2
  obtain ⟨a2, c2, rfl, -, -⟩ := id hs2
  have HG2 := hide ((unhide HG1).keep hb2 (Nat.le_refl _))
  have HB2 := hide ((unhide HB1).trans (hb2.mono (by omega)))
  have HB02 := hide ((unhide HB01).trans (hb2.mono (by omega)))
  clear hs2 hb2 HG1 HB1 HB01
  go_wp2_with fail
  refine (l1set_w _ [0, 255] _ (unhide HS2) (by simp)).mono ?_
  rintro e w3 ⟨v3, rfl, hg3, hb3⟩
  have hz3 := hb3.size
  have HG3 := hide hg3
  obtain ⟨a3, c3, rfl⟩ := hg3.form
  have HG23 := hide ((unhide HG2).keep hb3 (Nat.le_refl _))
  have HB3 := hide ((unhide HB2).trans (hb3.mono (by omega)))
  have HB03 := hide ((unhide HB02).trans (hb3.mono (by omega)))
  clear hg3 hb3 HG2 HB2 HB02 HS2
  go_wp2_with fail
  refine (l1rep_w 0 (-1) _ [⟨1, [0, 255], 0, 0⟩] _ ((unhide HG3).els (nice_set canon_all)) (by simp) (nice_set canon_all).len).mono ?_
  rintro e w4 ⟨v4, rfl, hg4, hb4⟩
  have hz4 := hb4.size
  have HG4 : Hid (GrowE w3.heap.size w4 v4 allE) := hg4
  obtain ⟨a4, c4, rfl⟩ := hg4.form
  have HG24 := hide ((unhide HG23).keep hb4 (Nat.le_refl _))
  have HB4 := hide ((unhide HB3).trans (hb4.mono (by omega)))
  have HB04 := hide ((unhide HB03).trans (hb4.mono (by omega)))
  obtain ⟨k0, k1⟩ := unhide HC _ (unhide HB4)
  clear hg4 hb4 HG23 HG3 HB3 HB03
  have hAl : allE.length = 2 := rfl
  cases l <;> cases r
  · go_wp2_with fail
    refine (l1cat_w _ _ allE L _ ((unhide HG4).els nice_all) ((unhide HG24).els (unhide HN)) (by rw [hAl]; omega) (by omega) nice_all.len (unhide HN).len).mono ?_
    rintro e w5 ⟨v5, rfl, hg5, hb5⟩
    have hz5 := hb5.size
    obtain ⟨M, hM⟩ : ∃ M, M = allE ++ L ++ [⟨2, [], 0, 0⟩] := ⟨_, rfl⟩
    rw [← hM] at hg5
    have HG5 := hide hg5
    have HG45 := hide ((unhide HG4).keep hb5 (Nat.le_refl _))
    have h5l : M.length ≤ 1003 := by rw [hM, List.length_append, List.length_append, hAl]; simp; omega
    obtain ⟨a5, c5, rfl⟩ := hg5.form
    have HB05 := hide ((unhide HB04).trans (hb5.mono (by omega)))
    obtain ⟨-, k5⟩ := unhide HC _ ((unhide HB4).trans (hb5.mono (by omega)))
    have HNM : Hid (Nice M) := by rw [hM]; exact nice_cat nice_all (unhide HN)
    have HM := hide hM
    clear hg5 hb5 hM k0 k1
    go_wp2_with fail
    refine (l1cat_w _ _ M allE _ ((unhide HG5).els (unhide HNM)) ((unhide HG45).els nice_all) (by omega) (by rw [hAl]; omega) (unhide HNM).len nice_all.len).mono ?_
    rintro e w6 ⟨v6, rfl, hg6, hb6⟩
    obtain ⟨Y, hY⟩ : ∃ Y, Y = M ++ allE ++ [⟨2, [], 0, 0⟩] := ⟨_, rfl⟩
    rw [← hY] at hg6
    have HY := hide hY
    have HG6 := hide hg6
    obtain ⟨a6, c6, rfl⟩ := hg6.form
    have HB06 := hide ((unhide HB05).trans (hb6.mono (by omega)))
    clear hg6 hb6 hY
    go_wp2
    go_ret
    have hfin : GrowE w.heap.size _ _ Y := (unhide HG6).base (by omega)
    have hwl : Y = whL false false L := (by rw [unhide HY, unhide HM]; rfl)
    exact ⟨_, rfl, by rw [← hwl]; exact hfin, unhide HB06⟩
  · go_wp2_with fail
    refine (l1cat_w _ _ allE L _ ((unhide HG4).els nice_all) ((unhide HG24).els (unhide HN)) (by rw [hAl]; omega) (by omega) nice_all.len (unhide HN).len).mono ?_
    rintro e w5 ⟨v5, rfl, hg5, hb5⟩
    have hz5 := hb5.size
    obtain ⟨M, hM⟩ : ∃ M, M = allE ++ L ++ [⟨2, [], 0, 0⟩] := ⟨_, rfl⟩
    rw [← hM] at hg5
    have HG5 := hide hg5
    have HG45 := hide ((unhide HG4).keep hb5 (Nat.le_refl _))
    have h5l : M.length ≤ 1003 := by rw [hM, List.length_append, List.length_append, hAl]; simp; omega
    obtain ⟨a5, c5, rfl⟩ := hg5.form
    have HB05 := hide ((unhide HB04).trans (hb5.mono (by omega)))
    obtain ⟨-, k5⟩ := unhide HC _ ((unhide HB4).trans (hb5.mono (by omega)))
    have HNM : Hid (Nice M) := by rw [hM]; exact nice_cat nice_all (unhide HN)
    have HM := hide hM
    clear hg5 hb5 hM k0 k1
    go_wp2
    go_ret
    have hfin : GrowE w.heap.size _ _ M := (unhide HG5).base (by omega)
    have hwl : M = whL false true L := (unhide HM)
    exact ⟨_, rfl, by rw [← hwl]; exact hfin, unhide HB05⟩
  · go_wp2_with fail
    refine (l1cat_w _ _ L allE _ ((unhide HG24).els (unhide HN)) ((unhide HG4).els nice_all) (by omega) (by rw [hAl]; omega) (unhide HN).len nice_all.len).mono ?_
    rintro e w6 ⟨v6, rfl, hg6, hb6⟩
    obtain ⟨Y, hY⟩ : ∃ Y, Y = L ++ allE ++ [⟨2, [], 0, 0⟩] := ⟨_, rfl⟩
    rw [← hY] at hg6
    have HY := hide hY
    have HG6 := hide hg6
    obtain ⟨a6, c6, rfl⟩ := hg6.form
    have HB06 := hide ((unhide HB04).trans (hb6.mono (by omega)))
    clear hg6 hb6 hY
    go_wp2
    go_ret
    have hfin : GrowE w.heap.size _ _ Y := (unhide HG6).base (by omega)
    have hwl : Y = whL true false L := (unhide HY)
    exact ⟨_, rfl, by rw [← hwl]; exact hfin, unhide HB06⟩
  · go_wp2
    go_ret
    have hfin : GrowE w.heap.size _ _ L := (unhide HG24).base (by omega)
    have hwl : L = whL true true L := rfl
    exact ⟨_, rfl, by rw [← hwl]; exact hfin, unhide HB04⟩

end Go.Proofs.YtijejbdpagbmpaaDoor

namespace Go.Proofs.YtijejbdpagbmpaaDoor
open Go.RowKit

/-- What a subtree shows: may it be empty, its first and its last positions. -/
structure It where
  nl : Bool
  fi : List Nat
  la : List Nat
def It.sh (a : It) (c : Nat) : It := ⟨a.nl, a.fi.map (c + ·), a.la.map (c + ·)⟩
abbrev Lk := List Nat × List Nat
def shL (c : Nat) (ln : List Lk) : List Lk := ln.map (fun p => (p.1.map (c + ·), p.2.map (c + ·)))
def itCat (l r : It) : It := ⟨l.nl && r.nl, l.fi ++ (if l.nl then r.fi else []), (if r.nl then l.la else []) ++ r.la⟩
def itAlt (l r : It) : It := ⟨l.nl || r.nl, l.fi ++ r.fi, l.la ++ r.la⟩
def itRep (o : It) (mn : Int) : It := ⟨o.nl || decide (mn = 0), o.fi, o.la⟩
/-- What has been met: how many positions, the subtrees on the stack, the links, the sets. -/
structure Ms where
  c : Nat
  st : List It
  ln : List Lk
  ss : List (List Int)
def oPush (s : Ms) (x : El) : Ms :=
  if x.kind = 0 then ⟨s.c, ⟨true, [], []⟩ :: s.st, s.ln, s.ss⟩
  else if x.kind = 1 then ⟨s.c + 1, ⟨false, [s.c], [s.c]⟩ :: s.st, s.ln, s.ss ++ [x.set]⟩ else
  match s.st with
  | [] => s
  | [o] => if x.kind = 4 then ⟨s.c, [itRep o x.mn], s.ln ++ [(o.la, o.fi)], s.ss⟩ else s
  | r :: l :: b => if x.kind = 4 then ⟨s.c, itRep r x.mn :: l :: b, s.ln ++ [(r.la, r.fi)], s.ss⟩
    else if x.kind = 2 then ⟨s.c, itCat l r :: b, s.ln ++ [(l.la, r.fi)], s.ss⟩ else ⟨s.c, itAlt l r :: b, s.ln, s.ss⟩
def oRun (s : Ms) : List El → Ms
  | [] => s
  | x :: r => oRun (oPush s x) r
theorem oRun_append (s : Ms) (a b : List El) : oRun s (a ++ b) = oRun (oRun s a) b := by
  induction a generalizing s with
  | nil => rfl
  | cons x r ih => simp [oRun, ih]
/-- A subtree of this list shows a, of n positions, with these links and sets, all counted from its own first position. -/
def SegO (L : List El) (n : Nat) (a : It) (ln : List Lk) (ss : List (List Int)) : Prop := ∀ s : Ms, oRun s L = ⟨s.c + n, a.sh s.c :: s.st, s.ln ++ shL s.c ln, s.ss ++ ss⟩
theorem SegO.one {L : List El} {n n' : Nat} {a a' : It} {ln ln' : List Lk} {ss ss' : List (List Int)} (h : SegO L n a ln ss) (k : SegO L n' a' ln' ss') : n = n' ∧ a.sh 0 = a'.sh 0 ∧ shL 0 ln = shL 0 ln' ∧ ss = ss' := by
  have := (h ⟨0, [], [], []⟩).symm.trans (k ⟨0, [], [], []⟩)
  simpa using this
theorem shift0 (xs : List Nat) : xs.map (0 + ·) = xs := by simp
theorem shiftS (c d : Nat) (xs : List Nat) : (xs.map (d + ·)).map (c + ·) = xs.map (c + d + ·) := by rw [List.map_map]; congr 1; funext x; simp; omega
theorem It.sh_sh (a : It) (c d : Nat) : (a.sh d).sh c = a.sh (c + d) := by unfold It.sh; simp only [shiftS]
theorem shL_app (c : Nat) (a b : List Lk) : shL c (a ++ b) = shL c a ++ shL c b := by simp [shL]
theorem shL_sh (c d : Nat) (a : List Lk) : shL c (shL d a) = shL (c + d) a := by
  unfold shL
  rw [List.map_map]
  congr 1
  funext p
  simp only [Function.comp, shiftS]
theorem cat_sh (l r : It) (c : Nat) : (itCat l r).sh c = itCat (l.sh c) (r.sh c) := by
  unfold itCat It.sh
  simp only [List.map_append]
  cases l.nl <;> cases r.nl <;> simp
theorem alt_sh (l r : It) (c : Nat) : (itAlt l r).sh c = itAlt (l.sh c) (r.sh c) := by
  unfold itAlt It.sh
  simp only [List.map_append]
theorem rep_sh (o : It) (mn : Int) (c : Nat) : (itRep o mn).sh c = itRep (o.sh c) mn := rfl
theorem SegO.e : SegO [⟨0, [], 0, 0⟩] 0 ⟨true, [], []⟩ [] [] := fun s => by simp [oRun, oPush, It.sh, shL]
theorem SegO.s (xs : List Int) : SegO [⟨1, xs, 0, 0⟩] 1 ⟨false, [0], [0]⟩ [] [xs] := fun s => by simp [oRun, oPush, It.sh, shL]
theorem SegO.cat {A B : List El} {n m : Nat} {a b : It} {la lb : List Lk} {sa sb : List (List Int)} (ha : SegO A n a la sa) (hb : SegO B m b lb sb) :
    SegO (A ++ B ++ [⟨2, [], 0, 0⟩]) (n + m) (itCat a (b.sh n)) (la ++ shL n lb ++ [(a.la, (b.sh n).fi)]) (sa ++ sb) := fun s => by
  rw [oRun_append, oRun_append, ha, hb]
  simp only [oRun, oPush]
  simp only [shL_app, shL_sh, cat_sh, It.sh_sh, List.append_assoc]
  simp [shL, It.sh, Nat.add_assoc]
theorem SegO.alt {A B : List El} {n m : Nat} {a b : It} {la lb : List Lk} {sa sb : List (List Int)} (ha : SegO A n a la sa) (hb : SegO B m b lb sb) :
    SegO (A ++ B ++ [⟨3, [], 0, 0⟩]) (n + m) (itAlt a (b.sh n)) (la ++ shL n lb) (sa ++ sb) := fun s => by
  rw [oRun_append, oRun_append, ha, hb]
  simp only [oRun, oPush]
  simp only [shL_app, shL_sh, alt_sh, It.sh_sh, List.append_assoc]
  simp [Nat.add_assoc]
theorem SegO.rep {A : List El} {n : Nat} {a : It} {la : List Lk} {sa : List (List Int)} (ha : SegO A n a la sa) (mn mx : Int) :
    SegO (A ++ [⟨4, [], mn, mx⟩]) n (itRep a mn) (la ++ [(a.la, a.fi)]) sa := fun s => by
  rw [oRun_append, ha]
  simp only [oRun, oPush]
  obtain ⟨c, st, ln, ss⟩ := s
  cases st with
  | nil => simp [shL, itRep, It.sh]
  | cons q st => simp [shL, itRep, It.sh]

end Go.Proofs.YtijejbdpagbmpaaDoor

namespace Go.Proofs.YtijejbdpagbmpaaDoor
open Go.Shelf
def Tryd.laysTZ_ren : Go.Shelf.Ren := ⟨fun | 29 => 46 | n => n, fun | 22 => 57 | 3 => 3 | 4 => 4 | 25 => 111 | 54 => 110 | 0 => 0 | 5 => 5 | n => n, fun | 1 => 0 | n => n⟩
theorem Tryd.laysTZ : Go.Proofs.Lays7.n29 Tryd.prog Tryd.laysTZ_ren := {
  mixed := by kernel_rfl
  f29 := Tryd.func46.trans (congrArg some (by kernel_rfl))
  t0 := Tryd.underlying0
  a0 := Tryd.isAgg0
  z0 := Tryd.sizeOf0
  v0 := Tryd.zeroValue0
  i0 := by kernel_rfl
  t3 := Tryd.underlying3
  a3 := Tryd.isAgg3
  z3 := Tryd.sizeOf3
  v3 := Tryd.zeroValue3
  i3 := by kernel_rfl
  t4 := Tryd.underlying4
  a4 := Tryd.isAgg4
  z4 := Tryd.sizeOf4
  v4 := Tryd.zeroValue4
  i4 := by kernel_rfl
  t5 := Tryd.underlying5
  a5 := Tryd.isAgg5
  z5 := Tryd.sizeOf5
  v5 := Tryd.zeroValue5
  i5 := by kernel_rfl
  t22 := Tryd.underlying57
  a22 := Tryd.isAgg57
  z22 := Tryd.sizeOf57
  v22 := Tryd.zeroValue57
  i22 := by kernel_rfl
  t25 := Tryd.underlying111
  a25 := Tryd.isAgg111
  z25 := Tryd.sizeOf111
  v25 := Tryd.zeroValue111
  i25 := by kernel_rfl
  t54 := Tryd.underlying110
  a54 := Tryd.isAgg110
  z54 := Tryd.sizeOf110
  g1 := by kernel_rfl }
end Go.Proofs.YtijejbdpagbmpaaDoor
