import Derived.Test.YtjjmgegbeccjoaaPs14
import Derived.Test.YtjjmgegbeccjoaaPk34
import Derived.Test.YtjjmgegbeccjoaaPk33
import Derived.Test.YtjjmgegbeccjoaaPk2
namespace Go.Proofs.Ytjjmgegbeccjoaa
open Go.RowKit

theorem cn_len {xs : List Int} (h : Canon xs) : xs.length ≤ 300 := by
  by_cases q : xs.length ≤ 258
  · omega
  · have h1 := canon_ge h 129 (by omega)
    have h2 := (h.2.1 (2 * 129) (by omega)).2
    omega
theorem bk_set : ∀ {xs : List El} {m : Nat}, bulk xs ≤ m → ∀ i : Nat, (xs[i]?.getD dE).set.length ≤ m
  | [], m, _, i => by simp [dE]
  | x :: r, m, h, i => by
    simp only [bulk] at h
    cases i with
    | zero => simp; omega
    | succ i => rw [List.getElem?_cons_succ]; exact bk_set (by omega) i
theorem ElsF.kp {S : Nat → Prop} {m : Nat} {w w' : World} {v : Value} {xs : List El} (h : ElsF S w v xs) (hb : Below m w w') (hs : ∀ k, S k → k < m) : ElsF S w' v xs := h.same (fun k hk => hb.block k (hs k hk))
theorem bulk_app2 : ∀ (a b : List El), bulk (a ++ b) = bulk a + bulk b
  | [], b => by simp [bulk]
  | x :: r, b => by
    have := bulk_app2 r b
    simp only [List.cons_append, bulk]
    omega
/-- How many numbers the sets of a tree hold. -/
theorem gr_bulk {n : Nat} {ts : List Tk} {T : Tr} (h : Gr n ts T) : (∀ t ∈ ts, TokN t) → bulk T.l ≤ 300 * ts.length := by
  have op : ∀ (k mn mx : Int), bulk [⟨k, [], mn, mx⟩] = 0 := fun k mn mx => by simp [bulk]
  refine h.ind (Q := fun _ ts T => (∀ t ∈ ts, TokN t) → bulk T.l ≤ 300 * ts.length) ?_ ?_ ?_ ?_ ?_ ?_ ?_ ?_ ?_ ?_
  · intro cs h1
    have h2 : Canon cs := h1 (.inl cs) (by simp)
    have := cn_len h2
    simp [Tr.s, bulk]
    omega
  · intro ts T _ ih h1
    have := ih (fun t ht => h1 t (by simp [ht]))
    simp only [List.length_cons, List.length_append]
    omega
  · intro ts T _ ih; exact ih
  · intro ts T lo hi _ ih h1
    have := ih (fun t ht => h1 t (by simp [ht]))
    show bulk (T.l ++ [_]) ≤ _
    rw [bulk_app2, op, List.length_append]
    omega
  · intro ts T _ ih; exact ih
  · intro us vs A B _ _ i1 i2 h1
    have := i1 (fun t ht => h1 t (by simp [ht]))
    have := i2 (fun t ht => h1 t (by simp [ht]))
    show bulk (A.l ++ B.l ++ [_]) ≤ _
    rw [bulk_app2, bulk_app2, op, List.length_append]
    omega
  · intro _; simp [Tr.e, bulk]
  · intro ts T _ ih; exact ih
  · intro us A _ ih h1
    have := ih (fun t ht => h1 t (by simp [ht]))
    show bulk (A.l ++ [_] ++ [_]) ≤ _
    rw [bulk_app2, bulk_app2, op, op, List.length_append]
    omega
  · intro us vs A B _ _ i1 i2 h1
    have := i1 (fun t ht => h1 t (by simp [ht]))
    have := i2 (fun t ht => h1 t (by simp [ht]))
    show bulk (A.l ++ B.l ++ [_]) ≤ _
    rw [bulk_app2, bulk_app2, op, List.length_append, List.length_cons]
    omega
theorem prs_n {s : List Int} {T : Tr} {ts : List Tk} {b : Bool} (hs : BytesIn s) (h : Prs s T ts b) : ∀ t ∈ ts, TokN t := by
  obtain ⟨-, h2⟩ := h
  rcases h2 with ⟨-, h2⟩ | ⟨-, s', rfl, h2⟩
  · exact lxs_n hs h2
  · exact lxs_n (fun x hx => hs x (by simp [hx])) h2
/-- The answer's tree. -/
theorem PAns.good {xs : List Int} {l r : Bool} {L : List El} {c : Int} (h : PAns xs l r L c) (hb : BytesIn xs) : Nice L ∧ L.length + bulk L ≤ 1048576 := by
  have nil : ∀ L : List El, L = [] → Nice L ∧ L.length + bulk L ≤ 1048576 := fun L e => by rw [e]; exact ⟨Nice.nil, by simp [bulk]⟩
  rcases h with ⟨-, -, -, e, -⟩ | ⟨h0, h⟩
  · exact nil L e
  · rcases h with ⟨-, -, -, e, -⟩ | ⟨T, ts, b, h1, h⟩
    · exact nil L e
    · rcases h with ⟨-, -, -, e, -⟩ | ⟨-, -, -, -, rfl, -⟩
      · exact nil L e
      · have hd : BytesIn (xs.drop (at1 xs)) := fun x hx => hb x (List.mem_of_mem_drop hx)
        have hn := prs_n hd h1
        have h2 := prs_len h1
        have h3 := gr_bulk h1.1 hn
        have h4 : (xs.drop (at1 xs)).length ≤ xs.length := by rw [List.length_drop]; omega
        exact ⟨gr_nice h1.1 hn, by omega⟩
/-- The two answers lie in memory. -/
structure PS (w wk : World) (z1 z2 z3 z4 : Nat) (l r : Bool) (s0 g0 : Value) (L : List El) : Prop where
  B : Below w.heap.size w wk
  S : ElsF (Rng z1 z2) wk s0 L
  R2 : Bx3 wk z2 25 (.bool l) (.bool r) s0
  G : ElsF (Rng z3 z4) wk g0 L
  R4 : Bx3 wk z4 25 (.bool l) (.bool r) g0
  Z1 : w.heap.size ≤ z1
  Z2 : z1 ≤ z2
  Z3 : z2 < z3
  Z4 : z3 ≤ z4
  Z5 : z4 < wk.heap.size
theorem PS.keep {w wk w' : World} {z1 z2 z3 z4 : Nat} {l r : Bool} {s0 g0 : Value} {L : List El} (h : PS w wk z1 z2 z3 z4 l r s0 g0 L) (hb : Below wk.heap.size wk w') : PS w w' z1 z2 z3 z4 l r s0 g0 L := by
  obtain ⟨B, S, R2, G, R4, Z1, Z2, Z3, Z4, Z5⟩ := h
  have hz := hb.size
  exact ⟨B.trans (hb.mono B.size), S.kp hb (fun k hk => by have := hk.2; omega), rk R2 hb (Nat.le_refl _), G.kp hb (fun k hk => by have := hk.2; omega), rk R4 hb (Nat.le_refl _), Z1, Z2, Z3, Z4, by omega⟩
theorem PS.chg {w wk w' : World} {z1 z2 z3 z4 : Nat} {l r : Bool} {s0 g0 : Value} {L : List El} (h : PS w wk z1 z2 z3 z4 l r s0 g0 L) (hb : Chg (z2 + 1) z3 wk w') : PS w w' z1 z2 z3 z4 l r s0 g0 L := by
  obtain ⟨B, S, R2, G, R4, Z1, Z2, Z3, Z4, Z5⟩ := h
  exact ⟨B.trans (hb.below.mono (by omega)), S.same (fun k hk => hb.block k (.inl (by have := hk.2; omega))), R2.blk (hb.block z2 (.inl (by omega))), G.same (fun k hk => hb.block k (.inr hk.1)), R4.blk (hb.block z4 (.inr Z4)), Z1, Z2, Z3, Z4, by rw [hb.size]; exact Z5⟩
theorem PS.ats {w wk : World} {z1 z2 z3 z4 : Nat} {l r : Bool} {s0 g0 : Value} {L : List El} (h : PS w wk z1 z2 z3 z4 l r s0 g0 L) (hn : Nice L) : ElsAt 0 wk.heap.size wk s0 L ∧ ElsAt 0 wk.heap.size wk g0 L := by
  obtain ⟨B, S, R2, G, R4, Z1, Z2, Z3, Z4, Z5⟩ := h
  exact ⟨S.at (fun k hk => by have := hk.2; omega) hn.num, G.at (fun k hk => by have := hk.2; omega) hn.num⟩


set_option maxHeartbeats 8000000 in
set_option maxRecDepth 100000 in
theorem lawParse_any (v : Value) (xs : List Int) (w : World) (hv : SlAt mB 0 0 w.heap.size w v xs) (hbx : BytesIn xs) :
    Calls Try.prog 3 #[v] w fun e w' => e = .returned (.bool true) ∧ Below w.heap.size w w' := by
  obtain ⟨a, cp, rfl, hl, -⟩ := id hv
  obtain ⟨n, hn⟩ : ∃ n, n = xs.length := ⟨_, rfl⟩
  by_cases hlen : 1048576 < n
  · have hlen' : (1048576 : Int) < (n : Int) := by omega
    clear hv hbx
    rw [← hn]
    clear hn
    go_enter Try.func3, Try.ntmps3
    go_wp2
    go_ret
    exact ⟨rfl, Below.refl _ _⟩
  · have hlen' : ¬ (1048576 : Int) < (n : Int) := by omega
    have hxl : xs.length ≤ 1048576 := by omega
    have Hv : Hid (SlAt mB 0 0 w.heap.size w (.slice a n cp) xs) := by show SlAt _ _ _ _ _ _ _; rw [hn]; exact hv
    have HL := hide hxl
    have HBX := hide hbx
    have HN := hide hn
    rw [← hn]
    clear hv hbx hn hxl hl
    go_enter Try.func3, Try.ntmps3
    go_wp2_with fail
    refine (toByteS_wc _ xs _ (unhide Hv) (unhide HL)).mono ?_
    rintro e w1 ⟨v1, rfl, hv1, hcap1, hb1⟩
    obtain ⟨a1, c1, rfl⟩ : ∃ a c, v1 = .slice a xs.length c := by obtain ⟨a, c, e, -⟩ := hv1; exact ⟨a, c, e⟩
    have HSP := hide (specParse_any _ xs w1 (hv1.at.mono (Nat.zero_le _) (Nat.le_refl _)) (unhide HBX) ⟨_, _, rfl, hcap1.le.1⟩)
    rw [← unhide HN] at HSP ⊢
    have hz1 := hb1.size
    have HB1 := hide hb1
    clear hv1 hcap1 hb1
    go_wp2_with fail
    refine (unhide HSP).mono ?_
    rintro e w2 ⟨l, r, s0, L, c, rfl, hans, hs0, hb2⟩
    have HANS := hide hans
    have HNL := hide (hans.good (unhide HBX)).1
    have hbk := (hans.good (unhide HBX)).2
    have HSL := hide (bk_set (xs := L) (m := 1048576) (by omega))
    have hz2 := hb2.size
    have HB2 := hide ((unhide HB1).trans (hb2.mono hz1))
    have hbW2 := below1 w2 (.cells #[.bool l, .bool r, s0] 25)
    have HR2 := hide (Bx3.new w2 25 (.bool l) (.bool r) s0)
    have HS2 := hide (hs0.kp hbW2 (fun k hk => hk.2))
    have HBW2 := hide ((unhide HB2).trans (hbW2.mono (unhide HB2).size))
    obtain ⟨a2, c2, rfl⟩ := el_is hs0
    obtain ⟨W2, hW2⟩ : ∃ W2, W2 = w2.alloc (.cells #[.bool l, .bool r, .slice a2 L.length c2] 25) := ⟨_, rfl⟩
    have hzW2 : W2.heap.size = w2.heap.size + 1 := by rw [hW2, sz_alloc]
    rw [← hW2] at HR2 HS2 HBW2
    have HTO := hide (toByteS_wc _ xs W2 ((unhide Hv).below (unhide HBW2) (Nat.le_refl _)) (unhide HL))
    have HW2 := hide hW2
    clear hans hs0 hb2 hbW2 HSP hW2 HB2
    go_wp2_with fail
    rw [← unhide HW2]
    refine (unhide HTO).mono ?_
    rintro e w3 ⟨x0, rfl, hx0, -, hb3⟩
    have HX3 := hide hx0
    have HIM := hide (implParse_any _ xs w3 (hx0.at.mono (Nat.zero_le _) (Nat.le_refl _)) (unhide HBX))
    obtain ⟨a3, c3, rfl⟩ : ∃ a c, x0 = .slice a xs.length c := by obtain ⟨a, c, e, -⟩ := hx0; exact ⟨a, c, e⟩
    rw [← unhide HN] at HIM HX3 ⊢
    have hz3 := hb3.size
    have HR3 := hide (rk (unhide HR2) hb3 (Nat.le_refl _))
    have HS3 := hide ((unhide HS2).kp hb3 (fun k hk => by have := hk.2; omega))
    have HB3 := hide ((unhide HBW2).trans (hb3.mono (unhide HBW2).size))
    clear hx0 hb3 HTO HR2 HS2
    go_wp2_with fail
    refine (unhide HIM).mono ?_
    rintro e w4 ⟨l', r', g0, L', c', rfl, hans', hg0, hb4⟩
    obtain ⟨rfl, rfl, rfl, rfl⟩ := (unhide HANS).one hans'
    have hz4 := hb4.size
    have hbW4 := below1 w4 (.cells #[.bool l, .bool r, g0] 25)
    have HPS : Hid (PS w (w4.alloc (.cells #[.bool l, .bool r, g0] 25)) w1.heap.size w2.heap.size w3.heap.size w4.heap.size l r (.slice a2 L.length c2) g0 L) :=
      ⟨((unhide HB3).trans (hb4.mono (unhide HB3).size)).trans (hbW4.mono ((unhide HB3).trans (hb4.mono (unhide HB3).size)).size), ((unhide HS3).kp hb4 (fun k hk => by have := hk.2; omega)).kp hbW4 (fun k hk => by have := hk.2; omega), rk (rk (unhide HR3) hb4 (Nat.le_refl _)) hbW4 (Nat.le_refl _), hg0.kp hbW4 (fun k hk => hk.2), Bx3.new w4 _ _ _ _, hz1, hz2, by omega, hz4, by rw [sz_alloc]; omega⟩
    have HX4 : Hid (SlW mB 0 (w2.heap.size + 1) w3.heap.size (w4.alloc (.cells #[.bool l, .bool r, g0] 25)) (.slice a3 n c3) xs) := by
      have h9 := (unhide HX3).keep' hb4 (Nat.le_refl _)
      rw [hzW2] at h9
      exact h9.keep' hbW4 hz4
    obtain ⟨a4, c4, rfl⟩ := el_is hg0
    obtain ⟨W4, hW4⟩ : ∃ W4, W4 = w4.alloc (.cells #[.bool l, .bool r, .slice a4 L.length c4] 25) := ⟨_, rfl⟩
    rw [← hW4] at HPS HX4
    have HW4 := hide hW4
    obtain ⟨nL, hnL⟩ : ∃ nL, nL = L.length := ⟨_, rfl⟩
    rw [← hnL] at HPS HW4 ⊢
    have HEQ := hide (eqPattern_same l r _ _ L W4 ((unhide HPS).ats (unhide HNL)).2 ((unhide HPS).ats (unhide HNL)).1)
    obtain ⟨p0, p1, p2⟩ := Bx3.facts (unhide HPS).R2
    obtain ⟨q0, q1, q2⟩ := Bx3.facts (unhide HPS).R4
    rw [unhide HW4] at p0 p1 p2 q0 q1 q2
    clear hg0 hb4 hbW4 hW4 HIM hans' HR3 HS3 hnL HX3
    go_wp2_with fail
    rw [← unhide HW4]
    refine (unhide HEQ).mono ?_
    rintro e w5 ⟨rfl, hb5⟩
    have HPS5 := hide ((unhide HPS).keep hb5)
    have HX5 := hide ((unhide HX4).keep' hb5 (by have := (unhide HPS).Z4; have := (unhide HPS).Z5; omega))
    have HTO := hide (toByteS_wc _ xs w5 ((unhide Hv).below (unhide HPS5).B (Nat.le_refl _)) (unhide HL))
    clear hb5 HPS HX4 HEQ p0 p1 p2 q0 q1 q2
    go_wp2_with fail
    refine (unhide HTO).mono ?_
    rintro e w6 ⟨y0, rfl, hy0, -, hb6⟩
    have HPS6 := hide ((unhide HPS5).keep hb6)
    have HX6 := hide ((unhide HX5).keep' hb6 (by have := (unhide HPS5).Z4; have := (unhide HPS5).Z5; omega))
    have HEB := hide (eqByteS_w _ _ xs w6 ((unhide HX6).at.mono (Nat.zero_le _) (by have := (unhide HPS6).Z4; have := (unhide HPS6).Z5; omega)) (hy0.at.mono (Nat.zero_le _) (Nat.le_refl _)))
    obtain ⟨a6, c6, rfl⟩ : ∃ a c, y0 = .slice a xs.length c := by obtain ⟨a, c, e, -⟩ := hy0; exact ⟨a, c, e⟩
    rw [← unhide HN] at HEB ⊢
    clear hy0 hb6 HPS5 HX5 HTO
    go_wp2_with fail
    refine (unhide HEB).mono ?_
    rintro e w7 ⟨rfl, n7, hw7⟩
    have hb7 : Below w6.heap.size w6 w7 := by rw [hw7]; exact below_drewN (Below.refl _ _) _
    have HPS7 := hide ((unhide HPS6).keep hb7)
    have HX7 := hide ((unhide HX6).keep' hb7 (by have := (unhide HPS6).Z4; have := (unhide HPS6).Z5; omega))
    have HMK := hide (markByteS_any _ xs 1 _ _ w7 (unhide HX7) (by omega) (by omega) (by have := unhide HL; omega))
    rw [← unhide HN] at HMK
    clear hb7 hw7 HPS6 HX6 HEB
    go_wp2_with fail
    refine (unhide HMK).mono ?_
    rintro e w8 ⟨rfl, -, hc8⟩
    have HPS8 := hide ((unhide HPS7).chg hc8)
    have HEQ := hide (eqPattern_same l r _ _ L w8 ((unhide HPS8).ats (unhide HNL)).2 ((unhide HPS8).ats (unhide HNL)).1)
    obtain ⟨p0, p1, p2⟩ := Bx3.facts (unhide HPS8).R2
    obtain ⟨q0, q1, q2⟩ := Bx3.facts (unhide HPS8).R4
    have hk1 : ¬ (1 + (n : Int)) < 0 := by omega
    clear hc8 HPS7 HX7 HMK
    go_wp2_with fail
    refine (unhide HEQ).mono ?_
    rintro e w9 ⟨rfl, hb9⟩
    have HPS9 := hide ((unhide HPS8).keep hb9)
    have hz9 := (unhide HPS9).Z5
    have HMP := hide (markPattern_m l r _ L 1 _ w9 (unhide HPS9).G (by omega) (by omega) hbk (unhide HSL) (fun j hj => by have := hj.2; omega))
    clear hb9 HPS8 HEQ p0 p1 p2 q0 q1 q2 hk1
    obtain ⟨p0, p1, p2⟩ := Bx3.facts (unhide HPS9).R2
    obtain ⟨q0, q1, q2⟩ := Bx3.facts (unhide HPS9).R4
    have hen := endE_bd 1 L
    obtain ⟨K, hK⟩ : ∃ K, K = endE 1 L := ⟨_, rfl⟩
    rw [← hK] at HMP hen
    have hK0 : ¬ K < 0 := by omega
    have HK := hide hK
    clear hen hK
    go_wp2_with fail
    refine (unhide HMP).mono ?_
    rintro e w10 ⟨rfl, hg10, W, hbW, hc10⟩
    have hzA := (unhide HPS9).Z2
    have hzB := (unhide HPS9).Z3
    have hzC := (unhide HPS9).Z4
    have hzW := hbW.size
    have hz10 := hc10.size
    have HB10 := hide ((unhide HPS9).B.trans ((hbW.mono (unhide HPS9).B.size).trans (hc10.below (lo := w.heap.size) (fun k hk => by have := hk.1; have := (unhide HPS9).Z1; omega))))
    have HS10 := hide (((unhide HPS9).S.kp hbW (fun k hk => by have := hk.2; omega)).same (fun k hk => hc10.block k (fun q => by have := hk.2; have := q.1; omega)))
    have HR2 := hide (((unhide HPS9).R2.below hbW (by omega)).blk (hc10.block _ (fun q => by have := q.1; omega)))
    have HR4 := hide (((unhide HPS9).R4.below hbW (by omega)).blk (hc10.block _ (fun q => by have := q.2; omega)))
    have HHE := hide (heldPattern_f l r _ L 1 _ w10 hg10 (by omega) (by omega) hbk (unhide HSL) (fun j hj => by have := hj.2; omega))
    rw [← unhide HK] at HHE
    clear hg10 hbW hc10 HPS9 HMP p0 p1 p2 q0 q1 q2
    obtain ⟨p0, p1, p2⟩ := Bx3.facts (unhide HR2)
    obtain ⟨q0, q1, q2⟩ := Bx3.facts (unhide HR4)
    go_wp2_with fail
    refine (unhide HHE).mono ?_
    rintro e w11 ⟨rfl, hb11⟩
    have hz11 := hb11.size
    have HB11 := hide ((unhide HB10).trans (hb11.mono (unhide HB10).size))
    have HS11 := hide ((unhide HS10).kp hb11 (fun k hk => by have := hk.2; omega))
    have HR11 := hide (rk (unhide HR2) hb11 (Nat.le_refl _))
    have HTO := hide (toByteS_wc _ xs w11 ((unhide Hv).below (unhide HB11) (Nat.le_refl _)) (unhide HL))
    clear hb11 HB10 HS10 HR2 HR4 HHE p0 p1 p2 q0 q1 q2
    go_wp2_with fail
    refine (unhide HTO).mono ?_
    rintro e w12 ⟨y1, rfl, hy1, -, hb12⟩
    have HIM := hide (implParse_any _ xs w12 (hy1.at.mono (Nat.zero_le _) (Nat.le_refl _)) (unhide HBX))
    obtain ⟨a12, c12, rfl⟩ : ∃ a c, y1 = .slice a xs.length c := by obtain ⟨a, c, e, -⟩ := hy1; exact ⟨a, c, e⟩
    rw [← unhide HN] at HIM ⊢
    have hz12 := hb12.size
    have HB12 := hide ((unhide HB11).trans (hb12.mono (unhide HB11).size))
    have HS12 := hide ((unhide HS11).kp hb12 (fun k hk => by have := hk.2; omega))
    have HR12 := hide (rk (unhide HR11) hb12 (Nat.le_refl _))
    clear hy1 hb12 HB11 HS11 HR11 HTO
    go_wp2_with fail
    refine (unhide HIM).mono ?_
    rintro e w13 ⟨l', r', h0, L', c', rfl, hans', hh0, hb13⟩
    obtain ⟨rfl, rfl, rfl, rfl⟩ := (unhide HANS).one hans'
    have hz13 := hb13.size
    have hbW13 := below1 w13 (.cells #[.bool l, .bool r, h0] 25)
    have HB13 := hide ((unhide HB12).trans (hb13.mono (unhide HB12).size))
    have HBW := hide ((unhide HB13).trans (hbW13.mono (unhide HB13).size))
    have HRW := hide (rk (rk (unhide HR12) hb13 (Nat.le_refl _)) hbW13 (Nat.le_refl _))
    have HEQ := hide (eqPattern_same l r _ _ L _ ((hh0.kp hbW13 (fun k hk => hk.2)).at (fun k hk => by rw [sz_alloc]; have := hk.2; omega) (unhide HNL).num) ((((unhide HS12).kp hb13 (fun k hk => by have := hk.2; omega)).kp hbW13 (fun k hk => by have := hk.2; omega)).at (fun k hk => by rw [sz_alloc]; have := hk.2; omega) (unhide HNL).num))
    obtain ⟨a13, c13, rfl⟩ := el_is hh0
    obtain ⟨W13, hW13⟩ : ∃ W13, W13 = w13.alloc (.cells #[.bool l, .bool r, .slice a13 L.length c13] 25) := ⟨_, rfl⟩
    have HW13 := hide hW13
    obtain ⟨p0, p1, p2⟩ := Bx3.facts (unhide HRW)
    rw [← hW13] at HEQ HBW
    clear hh0 hb13 hbW13 hW13 HIM hans' HB12 HS12 HR12 HRW
    go_wp2_with fail
    rw [← unhide HW13]
    refine (unhide HEQ).mono ?_
    rintro e w14 ⟨rfl, hb14⟩
    have HB14 := hide ((unhide HBW).trans (hb14.mono (unhide HBW).size))
    clear hb14 HEQ HBW
    go_wp2
    go_ret
    exact ⟨rfl, unhide HB14⟩

end Go.Proofs.Ytjjmgegbeccjoaa
