import Derived.Test.YtmhafibngbojcaaDoorPp14
import Derived.Test.YtmhafibngbojcaaDoorPp6
import Derived.Test.YtmhafibngbojcaaDoorH4
import Derived.Test.YtmhafibngbojcaaDoorVW
import Derived.Test.YtmhafibngbojcaaDoorC6
import Derived.Lib.ConvBytes
namespace Go.Proofs.YtmhafibngbojcaaDoor
open Go.RowKit

/-- What is known of a node: its size, and that the program writes what the model writes. -/
def GP (u : Value) (t : List El × Int) : Prop := SzV u t.2 ∧ SegM t.1 t.2 ∧ ∃ x : Tx, TxV u x ∧ TxS t.1 x ∧ SegT t.1 x ∧ (x.1 = 0 ∨ x.1 = 1 ∨ x.1 = 2 ∨ x.1 = 3 ∨ x.1 = 4)
theorem closP : Clos GP := by
  refine ⟨fun h => h.1, ?_, ?_, ?_, ?_, ?_⟩
  · exact ⟨SzV.e, SegM.leaf (Or.inl rfl), _, TxV.e, tx_e, SegT.e, Or.inl rfl⟩
  · intro xs g hc hw
    have hl := canon_len hc
    exact ⟨SzV.s _ _ _ _, SegM.leaf (Or.inr rfl), _, TxV.s hw hc hl, tx_s xs hc hl, SegT.s xs, Or.inr (Or.inl rfl)⟩
  · rintro u v l r ⟨hu1, hu2, x, hu3, hu4, hu5, hu6⟩ ⟨hv1, hv2, y, hv3, hv4, hv5, hv6⟩
    exact ⟨SzV.cat hu1 hv1, SegM.bin hu2 hv2 (Or.inl rfl), _, TxV.cat hu3 hv3, tx_bin_cat _ _ _ _ _ hv2 hu4 hv4, hu5.cat hv5, Or.inr (Or.inr (Or.inl rfl))⟩
  · rintro u v l r ⟨hu1, hu2, x, hu3, hu4, hu5, hu6⟩ ⟨hv1, hv2, y, hv3, hv4, hv5, hv6⟩
    exact ⟨SzV.alt hu1 hv1, SegM.bin hu2 hv2 (Or.inr rfl), _, TxV.alt hu3 hv3, tx_bin_alt _ _ _ _ _ hv2 hu4 hv4, hu5.alt hv5, Or.inr (Or.inr (Or.inr (Or.inl rfl)))⟩
  · rintro u o mn mx ⟨hu1, hu2, x, hu3, hu4, hu5, hu6⟩ o2 o3 o4
    exact ⟨SzV.rep hu1 o2 o3 o4, SegM.rep hu2 rfl o2 (o4.imp id (fun q => q)), _, TxV.rep hu3 mn mx o2 o3 o4 hu6, tx_rep _ _ mn mx hu4 o2 o3 o4, hu5.rep mn mx, Or.inr (Or.inr (Or.inr (Or.inr rfl)))⟩

theorem PushR.gg {G : Value → List El × Int → Prop} (hG : Clos G) {st st' : List (List El × Int)} {x : El} (h : PushR st x st') (ok : ElOk x) (hs : ∀ s ∈ st, ∃ u, G u s) : ∀ s ∈ st', ∃ u, G u s := by
  intro s hm
  obtain ⟨k, xs, mn, mx⟩ := x
  rcases h with ⟨hk, rfl⟩ | ⟨hk, b, l, r, rfl, rfl⟩ | ⟨hk, b, o, rfl, rfl⟩
  · simp only [List.mem_append, List.mem_singleton] at hm; rcases hm with hm | rfl
    · exact hs s hm
    · rcases ok with ⟨q1, q2, q3, q4⟩ | ⟨q1, q2, q3, q4⟩ | ⟨q1, q2, q3, q4, q5⟩ <;> simp only at hk q1 q2 q3 q4
      · subst q1 q3 q4
        obtain ⟨g, hg⟩ := words_ex q2
        exact ⟨_, hG.s q2 hg⟩
      · subst q3 q4
        obtain rfl := List.eq_nil_of_length_eq_zero q2
        obtain rfl : k = 0 := by omega
        exact ⟨_, hG.e⟩
      · omega
  · simp only [List.mem_append, List.mem_singleton] at hm; rcases hm with hm | rfl
    · exact hs s (by simp [hm])
    · obtain ⟨u, hu⟩ := hs l (by simp)
      obtain ⟨v, hv⟩ := hs r (by simp)
      rcases ok with ⟨q1, q2, q3, q4⟩ | ⟨q1, q2, q3, q4⟩ | ⟨q1, q2, q3, q4, q5⟩ <;> simp only at hk q1 q2 q3 q4
      · omega
      · subst q3 q4
        obtain rfl := List.eq_nil_of_length_eq_zero q2
        rcases hk with rfl | rfl
        · exact ⟨_, hG.cat hu hv⟩
        · exact ⟨_, hG.alt hu hv⟩
      · omega
  · simp only [List.mem_append, List.mem_singleton] at hm; rcases hm with hm | rfl
    · exact hs s (by simp [hm])
    · obtain ⟨u, hu⟩ := hs o (by simp)
      rcases ok with ⟨q1, q2, q3, q4⟩ | ⟨q1, q2, q3, q4⟩ | ⟨q1, q2, q3, q4, q5⟩ <;> simp only at hk q1 q2 q3 q4
      · omega
      · omega
      · subst hk
        obtain rfl := List.eq_nil_of_length_eq_zero q2
        exact ⟨_, hG.rep hu q3 q4 q5⟩
/-- A valid tree has a node. -/
theorem valid_g {G : Value → List El × Int → Prop} (hG : Clos G) {xs : List El} (h : ValidT xs) : ∃ u c, G u (xs, c) := by
  obtain ⟨h1, ok, sh, c, hc1, hc2⟩ := h
  have key : ∀ k : Nat, k ≤ xs.length → ∃ st, flats st = xs.take k ∧ (∀ s ∈ st, SegM s.1 s.2) ∧ ∀ s ∈ st, ∃ u, G u s := by
    intro k
    induction k with
    | zero => intro _; exact ⟨[], by simp [flats], by simp, by simp⟩
    | succ k ih =>
      intro hk
      obtain ⟨st, hst, hok, hgx⟩ := ih (by omega)
      have hx := ok k (by omega)
      have h1 : wsum (xs.take (k + 1)) + wsum (xs.drop (k + 1)) = 1 := by rw [← wsum_append, List.take_append_drop]; exact sh.1
      have h2 := sh.2 (k + 1) (by omega) hk
      have h3 := wsum_flats (fun s hs => (hok s hs).ws)
      rw [hst] at h3
      rw [take_next (by omega), wsum_append, h3] at h1
      simp only [wsum] at h1
      obtain ⟨st', hp⟩ := PushR.ex (st := st) hx (by omega)
      exact ⟨st', by rw [hp.flats, hst, take_next (by omega)], hp.seg hx hok, hp.gg hG hx hgx⟩
  obtain ⟨st, hst, hok, hgx⟩ := key xs.length (Nat.le_refl _)
  rw [List.take_length] at hst
  have h3 := wsum_flats (fun s hs => (hok s hs).ws)
  rw [hst, sh.1] at h3
  obtain ⟨t, rfl⟩ := List.length_eq_one_iff.1 (show st.length = 1 by omega)
  obtain ⟨u, hu⟩ := hgx t (by simp)
  rw [flats_one] at hst
  obtain ⟨t1, t2⟩ := t
  simp only at hst
  subst hst
  exact ⟨u, t2, hu⟩

/-- The text of a pattern. -/
def ptx (l r : Bool) (T : List Int) : List Int := (if l then [94] else []) ++ T ++ (if r then [36] else [])
def PAns (l r : Bool) (xs : List El) (T : List Int) : Prop := (ValidT xs ∧ ∃ x : Tx, SegT xs x ∧ T = ptx l r x.2) ∨ (¬ ValidT xs ∧ T = [])
theorem PAns.one {l r : Bool} {xs : List El} {A B : List Int} (h : PAns l r xs A) (k : PAns l r xs B) : A = B := by
  rcases h with ⟨h1, x, h2, rfl⟩ | ⟨h1, rfl⟩ <;> rcases k with ⟨k1, y, k2, rfl⟩ | ⟨k1, rfl⟩
  · rw [h2.one k2]
  · exact absurd h1 k1
  · exact absurd k1 h1
  · rfl

set_option maxHeartbeats 1000000 in
set_option maxRecDepth 100000 in
theorem implPr_any (l r : Bool) (v : Value) (xs : List El) (w : World) (hv : ElsAt 0 w.heap.size w v xs) (htb : TB w.heap.size w) :
    Calls Tryd.prog 7 #[.agg #[.bool l, .bool r, v]] w fun e w' => ∃ v' T, e = .returned v' ∧ PAns l r xs T ∧ T.length ≤ 6000002 ∧ w'.ownsRow w.heap.size 5 1 v' T.length (T.map mB) ∧ Below w.heap.size w w' := by
  obtain ⟨a, cp, rfl, -, -⟩ := id hv
  have Hv := hide hv
  have Htb := hide htb
  have hb0 := below1 w (.cells #[.bool l, .bool r, .slice a xs.length cp] 30)
  have HC : Hid (∀ W, Below (w.heap.size + 1) (w.alloc (.cells #[.bool l, .bool r, .slice a xs.length cp] 30)) W → W.cell? ⟨w.heap.size, 0, none⟩ = some (.bool l) ∧ W.cell? ⟨w.heap.size, 1, none⟩ = some (.bool r)) := fun W hW =>
    ⟨(hW.cell (p := ⟨w.heap.size, 0, none⟩) (Nat.lt_succ_self _)).trans ((pushd_alloc w _).news 0 _ rfl), (hW.cell (p := ⟨w.heap.size, 1, none⟩) (Nat.lt_succ_self _)).trans ((pushd_alloc w _).news 1 _ rfl)⟩
  clear hv htb
  go_enter Tryd.func7, Tryd.ntmps7
  go_wp2_with fail
  have hz0 : (w.alloc (.cells #[.bool l, .bool r, .slice a xs.length cp] 30)).heap.size = w.heap.size + 1 := sz_alloc _ _
  generalize w.alloc (.cells #[.bool l, .bool r, .slice a xs.length cp] 30) = W0 at *
  have hz0' : w.heap.size + 1 ≤ W0.heap.size := by omega
  clear hz0
  refine (gnodeOf_any closP _ xs _ ((unhide Hv).below hb0 (Nat.le_refl _))).mono ?_
  rintro e w1 ⟨⟨u, c, rfl, hok, hgx, hc5, -⟩ | ⟨rfl, hbad⟩, hb1⟩
  · have hz1 := hb1.size
    have hB1 : Below w.heap.size w w1 := hb0.trans (hb1.mono (by omega))
    obtain ⟨-, -, x, htv, hts, hst, -⟩ := hgx
    have hxl : x.2.length ≤ 6000000 := by have h1 := hts.2.1; have h2 := hok.1.2; simp only at h1; omega
    have Hans : Hid (PAns l r xs (ptx l r x.2)) := Or.inl ⟨hok, x, hst, rfl⟩
    obtain ⟨⟨T0, x0, rfl⟩, -, ha⟩ := htv
    have HA := hide ha
    have HTB : Hid (TB w1.heap.size w1) := fun w' h => unhide Htb w' (hB1.trans (h.mono hB1.size))
    have HCW : Hid (∀ W, Below w1.heap.size w1 W → W.cell? ⟨w.heap.size, 0, none⟩ = some (.bool l) ∧ W.cell? ⟨w.heap.size, 1, none⟩ = some (.bool r)) := fun W hW => unhide HC W ((hb1.mono (by omega)).trans (hW.mono (by omega)))
    obtain ⟨k0, k1⟩ := unhide HCW w1 (Below.refl _ _)
    clear hok ha hts hst hb1
    cases l with
    | true =>
     cases r with
     | true =>
      have HZ : Hid (ptx true true x.2 = [94] ++ x.2 ++ [36]) := by show ptx _ _ _ = _; simp [ptx]
      go_wp2_with (at_builtin; refine app_litB (w := w1) _ rfl _ _ rfl w1.heap.size _ rfl ([] : List Int) (World.ownsRow_nil _ _ _ _) (Nat.le_refl _) [94] rfl rfl (by simp) (by simp) ?_; intro v2 w2 hb2 ho2 hv2; obtain ⟨Y, hY⟩ : ∃ Y, Y = ([] : List Int) ++ [94] := ⟨_, rfl⟩; rw [← hY] at ho2; have HY := hide hY; have hyl : Y.length ≤ 1 := (by rw [hY]; simp); have Ho2 := hide ho2; obtain ⟨a2, c2, rfl⟩ := own_is ho2; have hz2 := hb2.size; clear ho2 hY hv2)
      refine (unhide HA w1.heap.size _ Y _ (unhide Ho2) hz2 (Lib.TabBelow.on (unhide HTB) hb2.b) (by omega)).mono ?_
      rintro e w3 ⟨v3, rfl, ho3, hb3⟩
      obtain ⟨X, hX⟩ : ∃ X, X = Y ++ x.2 := ⟨_, rfl⟩
      rw [← hX] at ho3
      have hxl2 : X.length ≤ 6000001 := by rw [hX, List.length_append]; omega
      have HX := hide hX
      have Ho3 := hide ho3
      obtain ⟨a3, c3, rfl⟩ := own_is ho3
      have hb13 := hb2.trans hb3
      obtain ⟨-, k3⟩ := unhide HCW w3 hb13.b
      have hz3 := hb13.size
      clear ho3 hX k0 k1
      go_wp2_with (at_builtin; refine app_litB (w := w3) _ rfl _ _ rfl w1.heap.size _ rfl X (unhide Ho3) hz3 [36] rfl rfl (by simp) (by rw [List.length_singleton]; omega) ?_; intro v4 w4 hb4 ho4 hv4; obtain ⟨U, hU⟩ : ∃ U, U = X ++ [36] := ⟨_, rfl⟩; rw [← hU] at ho4; have hul : U.length ≤ 6000002 := (by rw [hU, List.length_append, List.length_singleton]; omega); have HU := hide hU; have Ho4 := hide ho4; obtain ⟨a4, c4, rfl⟩ := own_is ho4; clear ho4 hU hv4)
      go_ret
      exact ⟨_, U, rfl, by rw [show U = ptx true true x.2 by rw [unhide HZ, unhide HU]; rw [unhide HX, unhide HY]; simp]; exact unhide Hans, hul, own_low (unhide Ho4) hB1.size, hB1.trans ((hb13.trans hb4).b.mono hB1.size)⟩
     | false =>
      have HZ : Hid (ptx true false x.2 = [94] ++ x.2) := by show ptx _ _ _ = _; simp [ptx]
      go_wp2_with (at_builtin; refine app_litB (w := w1) _ rfl _ _ rfl w1.heap.size _ rfl ([] : List Int) (World.ownsRow_nil _ _ _ _) (Nat.le_refl _) [94] rfl rfl (by simp) (by simp) ?_; intro v2 w2 hb2 ho2 hv2; obtain ⟨Y, hY⟩ : ∃ Y, Y = ([] : List Int) ++ [94] := ⟨_, rfl⟩; rw [← hY] at ho2; have HY := hide hY; have hyl : Y.length ≤ 1 := (by rw [hY]; simp); have Ho2 := hide ho2; obtain ⟨a2, c2, rfl⟩ := own_is ho2; have hz2 := hb2.size; clear ho2 hY hv2)
      refine (unhide HA w1.heap.size _ Y _ (unhide Ho2) hz2 (Lib.TabBelow.on (unhide HTB) hb2.b) (by omega)).mono ?_
      rintro e w3 ⟨v3, rfl, ho3, hb3⟩
      obtain ⟨X, hX⟩ : ∃ X, X = Y ++ x.2 := ⟨_, rfl⟩
      rw [← hX] at ho3
      have hxl2 : X.length ≤ 6000001 := by rw [hX, List.length_append]; omega
      have HX := hide hX
      have Ho3 := hide ho3
      obtain ⟨a3, c3, rfl⟩ := own_is ho3
      have hb13 := hb2.trans hb3
      obtain ⟨-, k3⟩ := unhide HCW w3 hb13.b
      have hz3 := hb13.size
      clear ho3 hX k0 k1
      go_wp2
      go_ret
      exact ⟨_, X, rfl, by rw [show X = ptx true false x.2 by rw [unhide HZ]; rw [unhide HX, unhide HY]; simp]; exact unhide Hans, by omega, own_low (unhide Ho3) hB1.size, hB1.trans (hb13.b.mono hB1.size)⟩
    | false =>
     cases r with
     | true =>
      have HZ : Hid (ptx false true x.2 = ([] : List Int) ++ x.2 ++ [36]) := by show ptx _ _ _ = _; simp [ptx]
      obtain ⟨Y, hY⟩ : ∃ Y, Y = ([] : List Int) := ⟨_, rfl⟩
      have HY := hide hY
      clear hY
      have hb2 : BK w1.heap.size w1 w1 := BK.refl _ _
      go_wp2_with fail
      refine (unhide HA w1.heap.size _ ([] : List Int) _ (World.ownsRow_nil _ _ _ _) (Nat.le_refl _) (unhide HTB) (by simp; omega)).mono ?_
      rintro e w3 ⟨v3, rfl, ho3, hb3⟩
      obtain ⟨X, hX⟩ : ∃ X, X = ([] : List Int) ++ x.2 := ⟨_, rfl⟩
      rw [← hX] at ho3
      have hxl2 : X.length ≤ 6000001 := by rw [hX, List.length_append]; simp; omega
      have HX := hide hX
      have Ho3 := hide ho3
      obtain ⟨a3, c3, rfl⟩ := own_is ho3
      have hb13 := hb2.trans hb3
      obtain ⟨-, k3⟩ := unhide HCW w3 hb13.b
      have hz3 := hb13.size
      clear ho3 hX k0 k1
      go_wp2_with (at_builtin; refine app_litB (w := w3) _ rfl _ _ rfl w1.heap.size _ rfl X (unhide Ho3) hz3 [36] rfl rfl (by simp) (by rw [List.length_singleton]; omega) ?_; intro v4 w4 hb4 ho4 hv4; obtain ⟨U, hU⟩ : ∃ U, U = X ++ [36] := ⟨_, rfl⟩; rw [← hU] at ho4; have hul : U.length ≤ 6000002 := (by rw [hU, List.length_append, List.length_singleton]; omega); have HU := hide hU; have Ho4 := hide ho4; obtain ⟨a4, c4, rfl⟩ := own_is ho4; clear ho4 hU hv4)
      go_ret
      exact ⟨_, U, rfl, by rw [show U = ptx false true x.2 by rw [unhide HZ, unhide HU]; rw [unhide HX]]; exact unhide Hans, hul, own_low (unhide Ho4) hB1.size, hB1.trans ((hb13.trans hb4).b.mono hB1.size)⟩
     | false =>
      have HZ : Hid (ptx false false x.2 = ([] : List Int) ++ x.2) := by show ptx _ _ _ = _; simp [ptx]
      obtain ⟨Y, hY⟩ : ∃ Y, Y = ([] : List Int) := ⟨_, rfl⟩
      have HY := hide hY
      clear hY
      have hb2 : BK w1.heap.size w1 w1 := BK.refl _ _
      go_wp2_with fail
      refine (unhide HA w1.heap.size _ ([] : List Int) _ (World.ownsRow_nil _ _ _ _) (Nat.le_refl _) (unhide HTB) (by simp; omega)).mono ?_
      rintro e w3 ⟨v3, rfl, ho3, hb3⟩
      obtain ⟨X, hX⟩ : ∃ X, X = ([] : List Int) ++ x.2 := ⟨_, rfl⟩
      rw [← hX] at ho3
      have hxl2 : X.length ≤ 6000001 := by rw [hX, List.length_append]; simp; omega
      have HX := hide hX
      have Ho3 := hide ho3
      obtain ⟨a3, c3, rfl⟩ := own_is ho3
      have hb13 := hb2.trans hb3
      obtain ⟨-, k3⟩ := unhide HCW w3 hb13.b
      have hz3 := hb13.size
      clear ho3 hX k0 k1
      go_wp2
      go_ret
      exact ⟨_, X, rfl, by rw [show X = ptx false false x.2 by rw [unhide HZ]; rw [unhide HX]]; exact unhide Hans, by omega, own_low (unhide Ho3) hB1.size, hB1.trans (hb13.b.mono hB1.size)⟩
  · have hB1 : Below w.heap.size w w1 := hb0.trans (hb1.mono hb0.size)
    have Hans : Hid (PAns l r xs []) := Or.inr ⟨hbad, rfl⟩
    clear hbad hb1
    go_wp2
    go_ret
    exact ⟨_, [], rfl, unhide Hans, by simp, World.ownsRow_nil _ _ _ _, hB1⟩

end Go.Proofs.YtmhafibngbojcaaDoor
