import Derived.Test.YtjjmgegbeccjoaaPk31
import Derived.Deep.RegionHeld3
import Derived.Test.YtjjmgegbeccjoaaPk28
import Derived.Test.YtjjmgegbeccjoaaPk9
import Derived.Test.YtjjmgegbeccjoaaPk33
import Derived.Test.YtjjmgegbeccjoaaPk32
namespace Go.Proofs.Ytjjmgegbeccjoaa
open Go.RowKit

set_option maxHeartbeats 16000000 in
set_option maxRecDepth 100000 in
theorem bd_set_rep (ts : List Tk) (hl : ts.length ≤ 100000) (hw : wl 0 ts = some 0) (pre : List Tk) (cs : List Int) (lo hi : Int) (hts : ts = pre ++ [.inl cs] ++ [.inr (.inl (lo, hi))]) (hnb : NoBar ts) (Hp : BdS pre) (hNt : ∀ t ∈ ts, TokN t) : BdS ts := by
  intro v w hv
  have hv0 := hv
  obtain ⟨a, cp, rfl, hcap, hc⟩ := hv
  rw [List.length_map] at hcap hc hv0 ⊢
  obtain ⟨n, hn⟩ : ∃ n, n = ts.length := ⟨_, rfl⟩
  rw [← hn] at hcap hc hv0 hl ⊢
  have HN := hide hn
  have HV := hide hv0
  have HC := hide hc
  have HW0 := hide hw
  unfold maxLen at hcap
  clear hc hv0 hw hn
  go_enter Try.func14, Try.ntmps14
  go_wp2_with fail
  go_loop [4, 5, 6] (fun bv dv iv => ∃ (i k : Nat) (B : Int), i ≤ n ∧ iv = .int .i64 (i : Nat) ∧ dv = .int .i64 (k : Nat) ∧ bv = .int .i64 B ∧ BarI ts i B k ∧ k ≤ i ∧ -1 ≤ B ∧ B < (i : Int)) (fun _ _ iv => n - (intOf iv).toNat)
  case atStart => exact ⟨0, 0, -1, Nat.zero_le _, rfl, rfl, rfl, BarI.start ts, Nat.le_refl _, by omega, by omega⟩
  case round =>
    obtain ⟨i, k, B, hin, rfl, rfl, rfl, hB, hk, hB1, hB2⟩ := hrel
    have HBI := hide hB
    clear hB
    by_cases hlt : i < n
    · have hlt' : (i : Int) < (n : Int) := by omega
      have hltt : i < ts.length := by rw [← unhide HN]; exact hlt
      obtain ⟨b, off, rfl, -, -, hel⟩ := unhide HC (by omega)
      obtain ⟨t, ht⟩ : ∃ t, ts[i]? = some t := ⟨ts[i], List.getElem?_eq_getElem hltt⟩
      have c0 : w.cell? ⟨b, off + i * 4, none⟩ = some (.int .i64 (tkE t).kind) := kind_at (fun j hj => hel j (by rw [List.length_map, ← unhide HN] at hj; exact hj)) ht
      have HT := hide ht
      have hwk : ∃ k', wl k [t] = some k' := by
        have e : ts = ts.take (i + 1) ++ ts.drop (i + 1) := (List.take_append_drop _ _).symm
        have h9 := unhide HW0
        rw [e, wl_app, take_snoc ht, wl_snoc (unhide HBI).1] at h9
        cases e9 : wl k [t] with
        | none => rw [e9] at h9; cases h9
        | some k' => exact ⟨k', rfl⟩
      clear hel ht HC hltt
      by_cases e2 : (tkE t).kind = 2
      · have et := tkE_op.1 e2
        rw [e2] at c0
        subst et
        have HB9 := hide ((unhide HBI).go (k' := k + 1) (unhide HT) rfl (fun e => by cases e))
        clear e2 hwk
        go_wp2
        go_round
        case rel => exact ⟨i + 1, k + 1, B, by omega, by go_num, by go_num, rfl, unhide HB9, by omega, hB1, by omega⟩
        case measure => simp [intOf]; omega
      by_cases e3 : (tkE t).kind = 3
      · have et := tkE_cl.1 e3
        rw [e3] at c0
        subst et
        clear e2 e3
        cases k with
        | zero => obtain ⟨k', h⟩ := hwk; cases h
        | succ k =>
          have HB9 := hide ((unhide HBI).go (k' := k) (unhide HT) rfl (fun e => by cases e))
          clear hwk
          go_wp2
          go_round
          case rel => exact ⟨i + 1, k, B, by omega, by go_num, by go_num, rfl, unhide HB9, by omega, hB1, by omega⟩
          case measure => simp [intOf]; omega
      by_cases e4 : (tkE t).kind = 4
      · have et := tkE_bar.1 e4
        rw [e4] at c0
        subst et
        clear e2 e3 e4 hwk
        by_cases k0 : k = 0
        · subst k0
          have HB9 := hide ((unhide HBI).bar (unhide HT))
          go_wp2
          go_round
          case rel => exact ⟨i + 1, 0, (i : Nat), by omega, by go_num, rfl, rfl, unhide HB9, by omega, by omega, by omega⟩
          case measure => simp [intOf]; omega
        · have k1 : ((k : Int) == 0) = false := by simp; omega
          have HB9 := hide ((unhide HBI).go (k' := k) (unhide HT) rfl (fun _ => k0))
          clear k0
          go_wp2
          go_round
          case rel => exact ⟨i + 1, k, B, by omega, by go_num, rfl, rfl, unhide HB9, by omega, hB1, by omega⟩
          case measure => simp [intOf]; omega
      · have hoth : wl k [t] = some k := by
          rcases t with cs | ⟨lo, hi⟩ | (_ | _) | _
          · rfl
          · rfl
          · exact absurd rfl e3
          · exact absurd rfl e2
          · exact absurd rfl e4
        have HB9 := hide ((unhide HBI).go (unhide HT) hoth (fun e => absurd (tkE_bar.2 e) e4))
        obtain ⟨kd, hkd⟩ : ∃ kd, kd = (tkE t).kind := ⟨_, rfl⟩
        rw [← hkd] at e2 e3 e4 c0
        clear hkd hwk hoth
        have e4' : (kd == 4) = false := by simp [e4]
        go_wp2
        go_round
        case rel => exact ⟨i + 1, k, B, by omega, by go_num, rfl, rfl, unhide HB9, by omega, hB1, by omega⟩
        case measure => simp [intOf]; omega
    · obtain rfl : i = n := by omega
      have hBI := unhide HBI
      rw [unhide HN] at hBI
      clear HBI
      have hlt' : ¬ (i : Int) < (i : Int) := by omega
      obtain rfl : B = -1 := hBI.no hnb
      obtain ⟨p, hp⟩ : ∃ p, p = pre.length := ⟨_, rfl⟩
      obtain ⟨S, hS⟩ : ∃ S, S = p := ⟨_, rfl⟩
      have hiE : i = S + 2 := by rw [unhide HN, hts, hS, hp]; simp; try omega
      obtain ⟨E, hE⟩ : ∃ E, E = S + 1 := ⟨_, rfl⟩
      have eN : (i : Int) - 1 = (E : Int) := by omega
      have e1 : (E : Int) - 1 = (S : Int) := by omega
      have hE1 : (0 : Int) ≤ (E : Int) := by omega
      have hE2 : (E : Int) < (i : Int) := by omega
      have E0 : ((E : Int) == 0) = false := by simp; omega
      have h1i : (0 : Int) < (i : Int) := by omega
      have hni : ((i : Int) == 0) = false := by simp; omega
      have hS1 : (0 : Int) ≤ (S : Int) := by omega
      have hS2 : (S : Int) < (i : Int) := by omega
      have hpS : p ≤ S := by omega
      obtain ⟨b, off, rfl, -, hbw, hel⟩ := unhide HC (by omega)
      have htS : ts[S]? = some (.inl cs) := by
        rw [hts, hS, hp]
        rw [List.append_assoc, List.getElem?_append_right (Nat.le_refl _)]
        simp
      obtain ⟨-, -, -, sv8, c1, c2, -, -, hints⟩ := el_at (unhide HN) hel htS
      have c10 : w.cell? ⟨b, off + S * 4, none⟩ = some (.int .i64 1) := c1
      have htE : ts[E]? = some (.inr (.inl (lo, hi))) := by
        rw [hts, hE, hS, hp, List.getElem?_append_right (by simp; try omega)]
        simp
      obtain ⟨-, -, -, sv9, d0, -, d2, d3, -⟩ := el_at (unhide HN) hel htE
      have d00 : w.cell? ⟨b, off + E * 4, none⟩ = some (.int .i64 5) := d0
      have HE2 : Hid (w.cell? ⟨b, off + E * 4 + 2, none⟩ = some (.int .i64 lo)) := d2
      have HE3 : Hid (w.cell? ⟨b, off + E * 4 + 3, none⟩ = some (.int .i64 hi)) := d3
      obtain ⟨⟨q1, q2⟩, q3, q4⟩ : (0 ≤ lo ∧ lo ≤ 9999) ∧ (-1 ≤ hi ∧ hi ≤ 9999) := hNt (.inr (.inl (lo, hi))) (by rw [hts]; simp)
      have HLO : Hid (In64 lo) := ⟨by omega, by omega⟩
      have HHI : Hid (In64 hi) := ⟨by omega, by omega⟩
      have HKEY := hide (key_1 hts hnb (.inl ⟨cs, rfl⟩))
      have HVP : Hid (ElsAt 0 w.heap.size w (.slice (some ⟨b, off, none⟩) p cp) (pre.map tkE)) := by
        show ElsAt _ _ _ _ _
        have h9 := unhide HV
        rw [hts, List.append_assoc, List.map_append] at h9
        have h8 := h9.pre
        rw [List.length_map, ← hp] at h8
        exact h8
      have HNP : Hid (∀ t ∈ pre, TokN t) := fun t ht => hNt t (by rw [hts]; simp [ht])
      have HLP : Hid (pre.length ≤ 100000) := by show _ ≤ _; rw [← hp]; omega
      have HP := hide hp
      have HSP := hide Hp
      have hpi : (p : Int) ≤ (i : Int) := by omega
      have hicp : (i : Int) ≤ (cp : Int) := by omega
      have HGX : Hid (Gr 0 [.inl cs] (.s cs)) := .set cs
      have hcn : Canon cs := hNt (.inl cs) (by rw [hts]; simp)
      have HNC : Hid (Nice (Tr.s cs).l) := nice_canon hcn
      have hsl := ints_slAt hints
      obtain ⟨sa, sc, e9, -, -⟩ := id hsl
      have e9' : sv8 = .slice sa cs.length sc := e9
      subst e9'
      have hcl : cs.length ≤ 1048576 := by have h9 := (unhide HNC).len 0; exact h9
      have HSET := hide (l1set_w _ cs w hsl hcl)
      have c20 : w.cell? ⟨b, off + S * 4 + 1, none⟩ = some (.slice sa cs.length sc) := c2
      obtain ⟨zc, hzc⟩ : ∃ zc, zc = cs.length := ⟨_, rfl⟩
      rw [← hzc] at HSET c20
      clear hBI hel c1 c2 d0 d2 d3 htE hE q1 q2 q3 q4 htS HC hiE hlt hlt' hk hin hts hints hsl hcn hzc hcl hnb Hp hNt hp
      obtain rfl : p = S := hS.symm
      go_wp2_with fail
      refine (unhide HSET).mono ?_
      rintro e w1 ⟨v1, rfl, hg1, hb1⟩
      obtain ⟨X, hX⟩ : ∃ X, X = Tr.s cs := ⟨_, rfl⟩
      have hg1' : GrowE w.heap.size w1 v1 X.l := by rw [hX]; exact hg1
      rw [← hX] at HNC HGX
      obtain ⟨o1, d1, rfl⟩ := hg1'.form
      obtain ⟨nX, hnX⟩ : ∃ nX, nX = X.l.length := ⟨_, rfl⟩
      rw [← hnX] at hg1' ⊢
      have HNX0 := hide hnX
      have HLX0 : Hid (X.l.length ≤ 300000) := by show _ ≤ _; rw [hX]; simp [Tr.s]
      have HG1 := hide hg1'
      have HB1 := hide hb1
      clear hg1 hg1' hb1 hnX hX HSET
      have y2 : w1.cell? ⟨b, off + E * 4 + 2, none⟩ = some (.int .i64 lo) := by rw [(unhide HB1).cell (p := ⟨b, off + E * 4 + 2, none⟩) hbw]; exact unhide HE2
      have y3 : w1.cell? ⟨b, off + E * 4 + 3, none⟩ = some (.int .i64 hi) := by rw [(unhide HB1).cell (p := ⟨b, off + E * 4 + 3, none⟩) hbw]; exact unhide HE3
      have hEX := ((unhide HG1).els (unhide HNC)).below (m := w1.heap.size) (w' := w1.drew) ⟨rfl, rfl, rfl, Nat.le_refl _, fun _ _ => rfl⟩ (Nat.le_refl _)
      have HREP := hide (l1rep_w lo hi _ X.l w1.drew hEX (by have := unhide HLX0; omega) (unhide HNC).len)
      have hz7 := (unhide HB1).size
      have HS7 : Hid (∀ W', Below w.heap.size w W' → W'.cell? ⟨b, off + E * 4 + 2, none⟩ = some (.int .i64 lo) ∧ W'.cell? ⟨b, off + E * 4 + 3, none⟩ = some (.int .i64 hi)) := fun W' hb => ⟨by rw [hb.cell (p := ⟨b, off + E * 4 + 2, none⟩) hbw]; exact unhide HE2, by rw [hb.cell (p := ⟨b, off + E * 4 + 3, none⟩) hbw]; exact unhide HE3⟩
      have hwr : IntKind.i64.wrap (E : Int) = (E : Int) := by rw [IntKind.wrap_i64]; omega
      clear hEX
      go_wp2
      go_region_held3 (fun W' => W'.cell? ⟨b, off + E * 4 + 2, none⟩ = some (.int .i64 lo) ∧ W'.cell? ⟨b, off + E * 4 + 3, none⟩ = some (.int .i64 hi)) (first | (with_reducible exact hS7) | go_keep) (first | (go_at_call 32; (with_reducible refine (unhide HREP).mono ?_); rintro e w7 ⟨v7, rfl, hg7, hb7⟩; obtain ⟨o7, d7, rfl⟩ := hg7.form; have HG7 : Hid (GrowE w.heap.size w7 _ (Tr.rep X lo hi).l) := hg7.low hz7; have HB7 : Hid (Below w.heap.size w w7) := (unhide HB1).trans ⟨(hb7.mono hz7).os, (hb7.mono hz7).tape, (hb7.mono hz7).output, (hb7.mono hz7).size, (hb7.mono hz7).block⟩; clear hg7 hb7; obtain ⟨nY, hnY⟩ : ∃ nY, nY = (X.l ++ [(⟨4, [], lo, hi⟩ : El)]).length := ⟨_, rfl⟩; rw [← hnY] at HG7 ⊢; have HNX : Hid (nY = (Tr.rep X lo hi).l.length) := hnY; clear hnY; have hS7 := unhide HS7 w7 (unhide HB7)))
      all_goals
        have HLX : Hid ((Tr.rep X lo hi).l.length ≤ 300001) := by show (X.l ++ [_]).length ≤ _; rw [List.length_append, List.length_singleton]; have := unhide HLX0; omega
        have HNR : Hid (Nice (Tr.rep X lo hi).l) := (unhide HNC).app (Nice.op 4 lo hi (by simp [In64]) (unhide HLO) (unhide HHI))
        clear y2 y3 HREP HS7 hwr
        try clear hS7
        have hz8 := (unhide HB7).size
        by_cases p0 : p = 0
        · have p0' : ((p : Int) == 0) = true := by simp; omega
          have HT : Hid (Gr 3 ts (Tr.rep X lo hi)) := (unhide HKEY _).2 ⟨_, unhide HGX, .inl ⟨List.eq_nil_of_length_eq_zero (by rw [← unhide HP]; exact p0), rfl⟩⟩
          clear p0
          go_wp2
          go_ret2
          exact ⟨unhide HB7, .inr ⟨Tr.rep X lo hi, _, unhide HT, rfl, unhide HG7⟩⟩
        · have p0' : ((p : Int) == 0) = false := by simp; omega
          have HP0 : Hid (pre ≠ []) := fun e => p0 (by rw [unhide HP, e]; rfl)
          have HSPW := hide (unhide HSP _ w7 ((unhide HVP).below (unhide HB7) (Nat.le_refl _)))
          clear p0
          go_wp2_with fail
          refine (unhide HSPW).mono ?_
          rintro e w8 ⟨hb8, ⟨hn8, rfl⟩ | ⟨A, v8, hA, rfl, hg8⟩⟩
          · have HX : Hid (∀ T, ¬ Gr 3 ts T) := fun T h => by
              obtain ⟨X9, -, ⟨h9, -⟩ | ⟨-, A, hA, -⟩⟩ := (unhide HKEY T).1 h
              · exact unhide HP0 h9
              · exact hn8 A hA
            have HB8 := hide ((unhide HB7).trans (hb8.mono hz8))
            clear hn8 hb8 HSPW
            go_wp2
            go_ret2
            exact ⟨unhide HB8, .inl ⟨unhide HX, rfl⟩⟩
          · obtain ⟨o8, d8, rfl⟩ := hg8.form
            have HB8 := hide ((unhide HB7).trans (hb8.mono hz8))
            have HT : Hid (Gr 3 ts (.cat A (Tr.rep X lo hi))) := (unhide HKEY _).2 ⟨_, unhide HGX, .inr ⟨unhide HP0, A, hA, rfl⟩⟩
            have hLA := (gr_len hA).2
            have hNA := gr_nice hA (unhide HNP)
            have hEA := hg8.els hNA
            have hEX := ((unhide HG7).els (unhide HNR)).below hb8 (Nat.le_refl _)
            have hlX := unhide HLX
            have hlP := unhide HLP
            have HCAT := hide (l1cat_w _ _ A.l (Tr.rep X lo hi).l w8 hEA hEX (by omega) (by omega) hNA.len (unhide HNR).len)
            obtain ⟨nA, hnA⟩ : ∃ nA, nA = A.l.length := ⟨_, rfl⟩
            rw [← hnA] at HCAT ⊢
            have hz9 := (unhide HB8).size
            clear hg8 hb8 hA hLA hNA hEA hEX hlX hlP hnA HSPW
            go_wp2_with fail
            refine (unhide HCAT).mono ?_
            rintro e w9 ⟨v9, rfl, hg9, hb9⟩
            obtain ⟨o9, d9, rfl⟩ := hg9.form
            have HG9 := hide (hg9.low hz9)
            have HB9 := hide ((unhide HB8).trans (hb9.mono hz9))
            obtain ⟨nC, hnC⟩ : ∃ nC, nC = (A.l ++ (Tr.rep X lo hi).l ++ [(⟨2, [], 0, 0⟩ : El)]).length := ⟨_, rfl⟩
            rw [← hnC] at HG9 ⊢
            clear hg9 hb9 hnC HCAT
            go_wp2
            go_ret2
            exact ⟨unhide HB9, .inr ⟨.cat A (Tr.rep X lo hi), _, unhide HT, rfl, unhide HG9⟩⟩


/-- The model counts a tree's size. -/
theorem gr_size {n : Nat} {ts : List Tk} {T : Tr} (h : Gr n ts T) : (∀ t ∈ ts, TokOk t) → (∀ t ∈ ts, bigR 250 t = false) → SegM T.l T.n ∧ SzS T.l T.n := by
  have leaf : ∀ (k : Int) (cs : List Int), (k = 0 ∨ k = 1) → SegM [⟨k, cs, 0, 0⟩] 1 ∧ SzS [⟨k, cs, 0, 0⟩] 1 := fun k cs hk => ⟨SegM.leaf hk, fun v w hv _ => l1size_leaf k hk cs v w hv⟩
  have bin : ∀ (k : Int) (A B : Tr), (k = 2 ∨ k = 3) → (SegM A.l A.n ∧ SzS A.l A.n) → (SegM B.l B.n ∧ SzS B.l B.n) → SegM (A.l ++ B.l ++ [⟨k, [], 0, 0⟩]) (cap (A.n + B.n)) ∧ SzS (A.l ++ B.l ++ [⟨k, [], 0, 0⟩]) (cap (A.n + B.n)) := fun k A B hk hA hB => ⟨SegM.bin hA.1 hB.1 hk, fun v w hv hl => l1size_bin k hk A.l B.l A.n B.n hA.1 hB.1 hA.2 hB.2 v w hv hl⟩
  refine h.ind (Q := fun _ ts T => (∀ t ∈ ts, TokOk t) → (∀ t ∈ ts, bigR 250 t = false) → SegM T.l T.n ∧ SzS T.l T.n) ?_ ?_ ?_ ?_ ?_ ?_ ?_ ?_ ?_ ?_
  · intro cs _ _; exact leaf 1 cs (.inr rfl)
  · intro ts T _ ih h1 h2; exact ih (fun t ht => h1 t (by simp [ht])) (fun t ht => h2 t (by simp [ht]))
  · intro ts T _ ih; exact ih
  · intro ts T lo hi _ ih h1 h2
    have hT := ih (fun t ht => h1 t (by simp [ht])) (fun t ht => h2 t (by simp [ht]))
    obtain ⟨a, b⟩ : 0 ≤ lo ∧ (hi = -1 ∨ lo ≤ hi) := h1 (.inr (.inl (lo, hi))) (by simp)
    have c := h2 (.inr (.inl (lo, hi))) (by simp)
    simp [bigR] at c
    have o4 : hi = -1 ∨ (lo ≤ hi ∧ hi ≤ 250) := by omega
    exact ⟨SegM.rep (x := ⟨4, [], lo, hi⟩) hT.1 rfl a o4, fun v w hv hl => l1size_rep lo hi T.l T.n hT.1 a (by omega) o4 hT.2 v w hv hl⟩
  · intro ts T _ ih; exact ih
  · intro us vs A B _ _ i1 i2 h1 h2
    exact bin 2 A B (.inl rfl) (i1 (fun t ht => h1 t (by simp [ht])) (fun t ht => h2 t (by simp [ht]))) (i2 (fun t ht => h1 t (by simp [ht])) (fun t ht => h2 t (by simp [ht])))
  · intro _ _; exact leaf 0 [] (.inl rfl)
  · intro ts T _ ih; exact ih
  · intro us A _ ih h1 h2
    exact bin 3 A .e (.inr rfl) (ih (fun t ht => h1 t (by simp [ht])) (fun t ht => h2 t (by simp [ht]))) (leaf 0 [] (.inl rfl))
  · intro us vs A B _ _ i1 i2 h1 h2
    exact bin 3 A B (.inr rfl) (i1 (fun t ht => h1 t (by simp [ht])) (fun t ht => h2 t (by simp [ht]))) (i2 (fun t ht => h1 t (by simp [ht])) (fun t ht => h2 t (by simp [ht])))


set_option maxHeartbeats 1000000 in
theorem markPattern_m (l r : Bool) (v : Value) (xs : List El) (k : Int) (S : Nat → Prop) (w : World) (hv : ElsF S w v xs) (k0 : 0 ≤ k) (k1 : k ≤ 1048576) (hlen : xs.length + bulk xs ≤ 1048576) (hset : ∀ i : Nat, (xs[i]?.getD dE).set.length ≤ 1048576) (hS : ∀ j, S j → j < w.heap.size) :
    Calls Try.prog 10 #[.agg #[.bool l, .bool r, v], .int .i64 k] w fun e w' => e = .returned (.int .i64 (endE k xs)) ∧ ElsF S w' v (marksE k xs) ∧ ∃ W : World, Below w.heap.size w W ∧ ChgF S W w' := by
  obtain ⟨a, cp, rfl⟩ : ∃ a c, v = .slice a xs.length c := by obtain ⟨a, c, e, -⟩ := hv; exact ⟨a, c, e⟩
  have hb0 := below1 w (.cells #[.bool l, .bool r, .slice a xs.length cp] 25)
  have HA := hide (markOpS_f _ xs k S _ (hv.same (fun j hj => hb0.block j (hS j hj))) k0 k1 hlen hset)
  clear hv hset
  go_enter Try.func10, Try.ntmps10
  go_wp2_with fail
  refine (unhide HA).mono ?_
  rintro e w1 ⟨rfl, hm, hc⟩
  have HC := hide hc
  have HM := hide hm
  obtain ⟨K, hK⟩ : ∃ K, K = endE k xs := ⟨_, rfl⟩
  rw [← hK]
  have HK := hide hK
  clear hc hm HA hK
  go_wp2
  go_ret
  exact ⟨by rw [← unhide HK]; rfl, unhide HM, _, hb0, unhide HC⟩

set_option maxHeartbeats 1000000 in
theorem heldPattern_f (l r : Bool) (v : Value) (xs : List El) (k : Int) (S : Nat → Prop) (w : World) (hv : ElsF S w v (marksE k xs)) (k0 : 0 ≤ k) (k1 : k ≤ 1048576) (hlen : xs.length + bulk xs ≤ 1048576) (hset : ∀ i : Nat, (xs[i]?.getD dE).set.length ≤ 1048576) (hS : ∀ j, S j → j < w.heap.size) :
    Calls Try.prog 11 #[.agg #[.bool l, .bool r, v], .int .i64 k] w fun e w' => e = .returned (.int .i64 (endE k xs)) ∧ Below w.heap.size w w' := by
  obtain ⟨a, cp, n, rfl⟩ : ∃ a c n, v = .slice a n c := by obtain ⟨a, c, e, -⟩ := hv; exact ⟨a, c, _, e⟩
  have hb0 := below1 w (.cells #[.bool l, .bool r, .slice a n cp] 25)
  have HA := hide (heldOpS_f _ xs k S _ (hv.same (fun j hj => hb0.block j (hS j hj))) k0 k1 hlen hset)
  clear hv hset
  go_enter Try.func11, Try.ntmps11
  go_wp2_with fail
  refine (unhide HA).mono ?_
  rintro e w1 ⟨rfl, rfl⟩
  obtain ⟨K, hK⟩ : ∃ K, K = endE k xs := ⟨_, rfl⟩
  rw [← hK]
  have hen := endE_bd k xs
  rw [← hK] at hen
  have hK0 : ¬ K < 0 := by omega
  have HK := hide hK
  clear HA hK hen
  go_wp2
  go_ret
  exact ⟨by rw [← unhide HK]; rfl, hb0⟩


/-- What a predicate of nodes must bear for nodeOf. -/
structure Clos (G : Value → List El × Int → Prop) : Prop where
  sz : ∀ {u : Value} {t : List El × Int}, G u t → SzV u t.2
  e : G eV ([⟨0, [], 0, 0⟩], 1)
  s : ∀ {xs : List Int} {g : Nat → Nat}, Canon xs → WordsOf xs g → G (sV g) ([⟨1, xs, 0, 0⟩], 1)
  cat : ∀ {u v : Value} {l r : List El × Int}, G u l → G v r → G (cV u v) (l.1 ++ r.1 ++ [⟨2, [], 0, 0⟩], cap (l.2 + r.2))
  alt : ∀ {u v : Value} {l r : List El × Int}, G u l → G v r → G (aV u v) (l.1 ++ r.1 ++ [⟨3, [], 0, 0⟩], cap (l.2 + r.2))
  rep : ∀ {u : Value} {o : List El × Int} {mn mx : Int}, G u o → 0 ≤ mn → mn ≤ 250 → (mx = -1 ∨ (mn ≤ mx ∧ mx ≤ 250)) → G (rV u mn mx) (o.1 ++ [⟨4, [], mn, mx⟩], cap (repSize o.2 mn mx))

/-- The values of a stack of trees. -/
def GVals (G : Value → List El × Int → Prop) : List (List El × Int) → List Value → Prop
  | [], [] => True
  | t :: ts, u :: us => G u t ∧ GVals G ts us
  | _, _ => False

theorem GVals.len {G : Value → List El × Int → Prop} : ∀ {ts : List (List El × Int)} {us : List Value}, GVals G ts us → ts.length = us.length
  | [], [], _ => rfl
  | _ :: _, _ :: _, h => by simp [GVals.len h.2]
  | [], _ :: _, h => h.elim
  | _ :: _, [], h => h.elim

theorem GVals.append {G : Value → List El × Int → Prop} : ∀ {a b : List (List El × Int)} {us vs : List Value}, GVals G a us → GVals G b vs → GVals G (a ++ b) (us ++ vs)
  | [], _, [], _, _, k => k
  | _ :: _, _, _ :: _, _, h, k => ⟨h.1, GVals.append h.2 k⟩
  | [], _, _ :: _, _, h, _ => h.elim
  | _ :: _, _, [], _, h, _ => h.elim

theorem GVals.split {G : Value → List El × Int → Prop} : ∀ {a b : List (List El × Int)} {us : List Value}, GVals G (a ++ b) us → ∃ u v, us = u ++ v ∧ GVals G a u ∧ GVals G b v
  | [], _, us, h => ⟨[], us, rfl, trivial, h⟩
  | _ :: _, _, y :: _, h => by
    obtain ⟨u, v, rfl, hu, hv⟩ := GVals.split h.2
    exact ⟨y :: u, v, rfl, ⟨h.1, hu⟩, hv⟩
  | _ :: _, _, [], h => h.elim

theorem GVals.one {G : Value → List El × Int → Prop} {t : List El × Int} {us : List Value} (h : GVals G [t] us) : ∃ u, us = [u] ∧ G u t := by
  match us, h with
  | [u], h => exact ⟨u, rfl, h.1⟩
theorem GVals.two {G : Value → List El × Int → Prop} {s t : List El × Int} {us : List Value} (h : GVals G [s, t] us) : ∃ u v, us = [u, v] ∧ G u s ∧ G v t := by
  match us, h with
  | [u, v], h => exact ⟨u, v, rfl, h.1, h.2.1⟩

/-- What pushElement leaves. -/
def PushedG (G : Value → List El × Int → Prop) (base : Nat) (w w' : World) (e : Ending) (st : List (List El × Int)) (x : El) : Prop :=
  ∃ v' vals' st', e = .returned v' ∧ w'.ownsRow base 48 1 v' vals'.length vals' ∧ PushR st x st' ∧ GVals G st' vals' ∧ Below base w w'

theorem gpushed_mk {G : Value → List El × Int → Prop} {base : Nat} {w W w' : World} {v' v0 : Value} {n : Nat} {xs : List Value} {u : Value} {st st' : List (List El × Int)} {x : El} (hW : Below base w W) (hB : base ≤ W.heap.size) (h0 : W.ownsRow base 48 1 v0 n xs)
    (hg : W.grownBy w' v0.ownBlock) (h1 : w'.ownsRow base 48 1 v' (n + 1) (xs ++ [u])) (hp : PushR st x st') (hn : GVals G st' (xs ++ [u])) : PushedG G base w w' (.returned v') st x := by
  have hl := h1.1
  rw [Nat.mul_one] at hl
  refine ⟨v', xs ++ [u], st', rfl, by rw [hl]; exact h1, hp, hn, hW.grown hg hB (fun k hk => ?_)⟩
  exact (h0.lt k hk).1




/-- What nodeOf answers. -/
def NodeG (G : Value → List El × Int → Prop) (e : Ending) (xs : List El) : Prop :=
  (∃ u c, e = .returned (.tuple #[u, .bool true]) ∧ ValidT xs ∧ G u (xs, c) ∧ c ≤ 500 ∧ SegM xs c) ∨ (e = .returned (.tuple #[.nilIface, .bool false]) ∧ ¬ ValidT xs)

theorem NodeG.no {G : Value → List El × Int → Prop} {xs : List El} (h : ¬ ValidT xs) : NodeG G (.returned (.tuple #[.nilIface, .bool false])) xs := Or.inr ⟨rfl, h⟩


/-- The first j parts of a counted repetition. -/
def tk (X : List El) (m j : Nat) : List (List El) := List.replicate (min j m) X ++ List.replicate (j - m) (optE X)
theorem tk_lt {X : List El} {m j : Nat} (h : j < m) : tk X m (j + 1) = tk X m j ++ [X] := by
  unfold tk
  rw [show min (j + 1) m = j + 1 by omega, show j + 1 - m = 0 by omega, show min j m = j by omega, show j - m = 0 by omega, List.replicate_succ']
  simp
theorem tk_ge {X : List El} {m j : Nat} (h : m ≤ j) : tk X m (j + 1) = tk X m j ++ [optE X] := by
  unfold tk
  rw [show min (j + 1) m = m by omega, show j + 1 - m = (j - m) + 1 by omega, show min j m = m by omega, List.replicate_succ', List.append_assoc]
theorem tk_all {X : List El} {m M : Nat} (h : m ≤ M) : tk X m M = partsX X m M := by
  unfold tk partsX
  rw [if_neg (by omega), show min M m = m by omega, show ((m : Int)).toNat = m by omega, show ((M : Int) - (m : Int)).toNat = M - m by omega]
theorem tk_mem {X : List El} {m j : Nat} {p : List El} (h : p ∈ tk X m j) : p = X ∨ p = optE X := by
  unfold tk at h
  rcases List.mem_append.1 h with h | h
  · exact Or.inl (List.mem_replicate.1 h).2
  · exact Or.inr (List.mem_replicate.1 h).2
theorem tk_len (X : List El) (m j : Nat) : (tk X m j).length = j := by unfold tk; simp; omega
theorem optE_nice {X : List El} (h : Nice X) : Nice (optE X) := (h.app (Nice.op 0 0 0 (by simp [In64]) (by simp [In64]) (by simp [In64]))).app (Nice.op 3 0 0 (by simp [In64]) (by simp [In64]) (by simp [In64]))


/-- The length of parts that are joined. -/
def jl : List (List El) → Nat
  | [] => 0
  | p :: r => p.length + 1 + jl r
theorem jl_app (a b : List (List El)) : jl (a ++ b) = jl a + jl b := by
  induction a with
  | nil => simp [jl]
  | cons p r ih => simp only [List.cons_append, jl, ih]; omega
theorem jl_rep (p : List El) (n : Nat) : jl (List.replicate n p) = n * (p.length + 1) := by
  induction n with
  | zero => simp [jl]
  | succ n ih => simp only [List.replicate_succ, jl, ih, Nat.succ_mul]; omega
theorem jn_jl (ps : List (List El)) (h : ps ≠ []) : (jn ps).length + 1 = jl ps := by
  match ps with
  | p :: r =>
    have key : ∀ (r : List (List El)) (acc : List El), (r.foldl (fun acc q => acc ++ q ++ [catE]) acc).length = acc.length + jl r := by
      intro r
      induction r with
      | nil => intro acc; simp [jl]
      | cons q r ih => intro acc; simp only [List.foldl_cons, ih, jl, List.length_append, List.length_singleton]; omega
    simp only [jn, key, jl]
    omega

theorem partsX_ne (X : List El) (mn mx : Int) (h : mx = -1 ∨ (0 < mx ∧ mn ≤ mx ∧ 0 ≤ mn)) : partsX X mn mx ≠ [] := by
  unfold partsX
  rcases h with h | ⟨h1, h2, h3⟩
  · rw [if_pos h]; simp
  · rw [if_neg (by omega)]
    intro e
    have := congrArg List.length e
    simp at this
    omega
theorem partsV_ne (U : Value) (mn mx : Int) (h : mx = -1 ∨ (0 < mx ∧ mn ≤ mx ∧ 0 ≤ mn)) : partsV U mn mx ≠ [] := by
  unfold partsV
  rcases h with h | ⟨h1, h2, h3⟩
  · rw [if_pos h]; simp
  · rw [if_neg (by omega)]
    intro e
    have := congrArg List.length e
    simp at this
    omega

/-- What is written out is bounded by the size. -/
theorem parts_len (X : List El) (c mn mx : Int) (hX : (X.length : Int) ≤ 2 * c - 1) (o2 : 0 ≤ mn) (h : mx = -1 ∨ (0 < mx ∧ mn ≤ mx)) : ((jn (partsX X mn mx)).length : Int) ≤ 2 * repSize c mn mx - 1 := by
  have hne := partsX_ne X mn mx (h.imp id (fun q => ⟨q.1, q.2, o2⟩))
  have h1 := jn_jl _ hne
  rcases h with h | ⟨h3, h4⟩
  · subst h
    have e : jl (partsX X mn (-1)) = (mn - 1).toNat * (X.length + 1) + (X.length + 2) := by
      unfold partsX
      rw [if_pos rfl, jl_app, jl_rep]
      simp [jl]
    have hm : (((mn - 1).toNat * (X.length + 1) : Nat) : Int) ≤ ((mn - 1).toNat : Int) * (2 * c) := by
      rw [Int.natCast_mul]
      exact Int.mul_le_mul_of_nonneg_left (by omega) (by omega)
    by_cases hmn : mn < 1
    · rw [show (mn - 1).toNat = 0 by omega] at e hm
      rw [repSize_a hmn]
      omega
    · rw [repSize_b hmn]
      have e2 : ((mn - 1).toNat : Int) * (2 * c) = 2 * (mn * c) - 2 * c := by
        rw [show ((mn - 1).toNat : Int) = mn - 1 by omega, Int.sub_mul, Int.one_mul, ← Int.mul_assoc, Int.mul_comm mn 2, Int.mul_assoc]
      omega
  · have e : jl (partsX X mn mx) = mn.toNat * (X.length + 1) + (mx - mn).toNat * (X.length + 3) := by
      unfold partsX
      rw [if_neg (by omega), jl_app, jl_rep, jl_rep]
      simp [optE]
    have hm : ((mn.toNat * (X.length + 1) : Nat) : Int) ≤ mn * (2 * c) := by
      rw [Int.natCast_mul, show (mn.toNat : Int) = mn by omega]
      exact Int.mul_le_mul_of_nonneg_left (by omega) (by omega)
    have hm2 : (((mx - mn).toNat * (X.length + 3) : Nat) : Int) ≤ (mx - mn) * (2 * (c + 1)) := by
      rw [Int.natCast_mul, show ((mx - mn).toNat : Int) = mx - mn by omega]
      exact Int.mul_le_mul_of_nonneg_left (by omega) (by omega)
    rw [repSize_d (by omega) (by omega)]
    have e2 : mn * (2 * c) = 2 * (mn * c) := by rw [← Int.mul_assoc, Int.mul_comm mn 2, Int.mul_assoc]
    have e3 : (mx - mn) * (2 * (c + 1)) = 2 * ((mx - mn) * (c + 1)) := by rw [← Int.mul_assoc, Int.mul_comm (mx - mn) 2, Int.mul_assoc]
    omega

theorem rep_ge (c mn mx : Int) (hc : 0 ≤ c) (o2 : 0 ≤ mn) (h : mx = -1 ∨ (mn ≤ mx ∧ mx ≤ 250)) : c ≤ repSize c mn mx := by
  rcases h with h | ⟨h1, -⟩
  · subst h
    by_cases hmn : mn < 1
    · rw [repSize_a hmn]; omega
    · rw [repSize_b hmn]
      have : 1 * c ≤ mn * c := Int.mul_le_mul_of_nonneg_right (by omega) hc
      omega
  · by_cases h0 : mx = 0
    · subst h0; rw [repSize_c]; exact Int.le_refl _
    · rw [repSize_d (by omega) h0]
      have p1 : 0 ≤ mn * c := Int.mul_nonneg o2 hc
      have p2 : 0 ≤ (mx - mn) * (c + 1) := Int.mul_nonneg (by omega) (by omega)
      by_cases h2 : 0 < mn
      · have : 1 * c ≤ mn * c := Int.mul_le_mul_of_nonneg_right (by omega) hc
        omega
      · have : 1 * (c + 1) ≤ (mx - mn) * (c + 1) := Int.mul_le_mul_of_nonneg_right (by omega) (by omega)
        omega

end Go.Proofs.Ytjjmgegbeccjoaa
