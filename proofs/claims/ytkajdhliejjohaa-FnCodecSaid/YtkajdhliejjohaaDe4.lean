import Derived.Test.YtkajdhliejjohaaDe3
namespace Go.Proofs.Ytkajdhliejjohaa
open Go.RowKit

/-- What the model's l4read answers. -/
def ReadR (e : Ending) (bs : List Int) (i : Nat) : Prop :=
  (∃ n j, e = .returned (.tuple #[.int .i64 n, .int .i64 (j : Nat)]) ∧ rv 4 (bs.drop i) = some (n, bs.drop j) ∧ i < j ∧ j ≤ bs.length ∧ 0 ≤ n ∧ n < 268435456) ∨ (e = .returned (.tuple #[.int .i64 0, .int .i64 (-1)]) ∧ rv 4 (bs.drop i) = none)
theorem rv_step {f : Nat} {bs : List Int} {i : Nat} (h : i < bs.length) : rv (f + 1) (bs.drop i) = if bs[i]?.getD 0 < 128 then some (bs[i]?.getD 0, bs.drop (i + 1)) else (rv f (bs.drop (i + 1))).map (fun p => (bs[i]?.getD 0 % 128 + 128 * p.1, p.2)) := by
  rw [List.drop_eq_getElem_cons h, List.getElem?_eq_getElem h]
  rfl
theorem rv_end {f : Nat} {bs : List Int} {i : Nat} (h : bs.length ≤ i) : rv f (bs.drop i) = none := by
  rw [List.drop_of_length_le h]
  cases f <;> rfl

set_option maxHeartbeats 4000000 in
set_option maxRecDepth 100000 in
theorem l4read_any (v : Value) (bs : List Int) (i N : Nat) (w : World) (hv : SlAt mB 0 0 N w v bs) (hb : Bytes bs) (hl : bs.length ≤ 1048576) (hi : i ≤ 1048577) :
    Calls Try.prog 34 #[v, .int .i64 i] w fun e w' => ReadR e bs i ∧ w' = w := by
  have HB := hide hb
  obtain ⟨a, cap, rfl, -, hc⟩ := hv
  clear hb
  go_enter Try.func34, Try.ntmps34
  go_wp2
  go_loop [6, 7, 8] (fun vv uv kv => ∃ (k : Nat) (n u : Int), k ≤ 4 ∧ kv = .int .i64 k ∧ vv = .int .i64 n ∧ uv = .int .i64 u ∧ u = 128 ^ k ∧ 0 ≤ n ∧ n < u ∧ rv 4 (bs.drop i) = (rv (4 - k) (bs.drop (i + k))).map (fun p => (n + u * p.1, p.2))) (fun _ _ kv => 4 - (intOf kv).toNat)
  case atStart => exact ⟨0, 0, 1, by omega, rfl, rfl, rfl, rfl, by omega, by omega, by simp⟩
  case round =>
    obtain ⟨k, n, u, hk, rfl, rfl, rfl, hu, hn0, hn1, hrv⟩ := hrel
    have Hrv := hide hrv
    have Hu := hide hu
    clear hrv
    by_cases hlt : k < 4
    · have hlt' : (k : Int) < 4 := by omega
      have hu1 : 1 ≤ u ∧ u ≤ 2097152 := by
        have : k = 0 ∨ k = 1 ∨ k = 2 ∨ k = 3 := by omega
        rcases this with rfl | rfl | rfl | rfl <;> (rw [hu]; decide)
      clear hu
      by_cases hik : i + k < bs.length
      · have hik' : ¬ (bs.length : Int) ≤ (i : Int) + (k : Int) := by omega
        obtain ⟨b, off, rfl, -, -, hcell⟩ := hc (by omega)
        have hx := hcell (i + k) hik
        unfold mB at hx
        have hby := unhide HB (i + k)
        have Hst := hide (rv_step (f := 3 - k) hik)
        have h4 : Hid (4 - k = 3 - k + 1 ∧ 3 - k = 4 - (k + 1)) := ⟨by omega, by omega⟩
        clear hcell hc
        generalize bs[i + k]?.getD 0 = c at *
        have hp0 : 0 ≤ c % 128 * u := Int.mul_nonneg (by omega) (by omega)
        have hp1 : c % 128 * u ≤ 127 * u := Int.mul_le_mul_of_nonneg_right (by omega) (by omega)
        have kw : wrap64 (c % 128 * u) = c % 128 * u := w64i (by omega) (by omega)
        by_cases hc1 : c < 128
        · have HR : Hid (rv 4 (bs.drop i) = some (n + c % 128 * u, bs.drop (i + k + 1))) := by
            show rv 4 (bs.drop i) = some (n + c % 128 * u, bs.drop (i + k + 1))
            rw [unhide Hrv, (unhide h4).1, unhide Hst, if_pos hc1, show c % 128 = c by omega, Int.mul_comm c u]
            rfl
          go_wp2
          go_ret2
          exact ⟨Or.inl ⟨_, i + k + 1, by push_cast; rfl, unhide HR, by omega, by omega, by omega, by omega⟩, rfl⟩
        · have HR : Hid (rv 4 (bs.drop i) = (rv (4 - (k + 1)) (bs.drop (i + (k + 1)))).map (fun p => (n + c % 128 * u + u * 128 * p.1, p.2))) := by
            show rv 4 (bs.drop i) = (rv (4 - (k + 1)) (bs.drop (i + (k + 1)))).map (fun p => (n + c % 128 * u + u * 128 * p.1, p.2))
            rw [unhide Hrv, (unhide h4).1, unhide Hst, if_neg hc1, ← (unhide h4).2, ← Nat.add_assoc]
            cases rv (3 - k) (bs.drop (i + k + 1)) with
            | none => rfl
            | some p =>
              simp only [Option.map_some]
              congr 2
              rw [Int.mul_add, Int.mul_comm u (c % 128), ← Int.mul_assoc, Int.add_assoc]
          go_wp2
          exact ⟨⟨k + 1, n + c % 128 * u, u * 128, by omega, by go_num, rfl, rfl, by rw [Int.pow_succ, ← unhide Hu], by omega, by omega, unhide HR⟩, by simp [intOf]; omega⟩
      · have hik' : (bs.length : Int) ≤ (i : Int) + (k : Int) := by omega
        have HN : Hid (rv 4 (bs.drop i) = none) := by
          show rv 4 (bs.drop i) = none
          rw [unhide Hrv, rv_end (by omega)]
          rfl
        go_wp2
        go_ret2
        exact ⟨Or.inr ⟨rfl, unhide HN⟩, rfl⟩
    · obtain rfl : k = 4 := by omega
      have HN : Hid (rv 4 (bs.drop i) = none) := by
        show rv 4 (bs.drop i) = none
        rw [unhide Hrv]
        rfl
      go_wp2
      go_ret2
      exact ⟨Or.inr ⟨rfl, unhide HN⟩, rfl⟩

/-- What the model's l4lines answers. -/
def LinR (e : Ending) (w' : World) (bs : List Int) : Prop :=
  (∃ b xss lv, e = .returned (.tuple #[.int .i64 b, lv, .bool true]) ∧ parM bs = some (b, xss) ∧ SsAt mB 0 w'.heap.size w' lv xss ∧ (0 ≤ b ∧ b ≤ 268435456) ∧ xss.length ≤ 1000 ∧ tot xss ≤ bs.length ∧ ∀ x ∈ xss, Bytes x) ∨ (e = .returned (.tuple #[.int .i64 0, .slice none 0 0, .bool false]) ∧ parM bs = none)
theorem parM_short {bs : List Int} (h : bs.length < 2) : parM bs = none := by unfold parM; rw [if_pos h]
theorem parM_1 {bs : List Int} (h : ¬ bs.length < 2) (h1 : rv 4 (bs.drop 2) = none) : parM bs = none := by unfold parM; rw [if_neg h, h1]
theorem parM_2 {bs r : List Int} {b : Int} (h : ¬ bs.length < 2) (h1 : rv 4 (bs.drop 2) = some (b, r)) (h2 : rv 4 r = none) : parM bs = none := by unfold parM; rw [if_neg h, h1]; simp only [h2]
theorem parM_3 {bs r r2 : List Int} {b n : Int} (h : ¬ bs.length < 2) (h1 : rv 4 (bs.drop 2) = some (b, r)) (h2 : rv 4 r = some (n, r2)) : parM bs = if 1000 < n then none else (rl n.toNat r2).map (fun l => (b, l)) := by unfold parM; rw [if_neg h, h1]; simp only [h2]
theorem rl_none {k : Nat} {xs : List Int} (h : rv 4 xs = none) : rl (k + 1) xs = none := by simp only [rl, h]
theorem rl_long {k : Nat} {xs r : List Int} {m : Int} (h : rv 4 xs = some (m, r)) (h2 : (r.length : Int) < m) : rl (k + 1) xs = none := by simp only [rl, h, if_pos h2]
theorem rl_some {k : Nat} {xs r : List Int} {m : Int} (h : rv 4 xs = some (m, r)) (h2 : ¬ (r.length : Int) < m) : rl (k + 1) xs = (rl k (r.drop m.toNat)).map (fun l => r.take m.toNat :: l) := by simp only [rl, h, if_neg h2]

set_option maxHeartbeats 8000000 in
set_option maxRecDepth 100000 in
theorem l4lines_any (v : Value) (bs : List Int) (w : World) (hv : SlAt mB 0 0 w.heap.size w v bs) (hcap : CapOk v) (hb : Bytes bs) (hl : bs.length ≤ 1048576) :
    Calls Try.prog 18 #[v] w fun e w' => LinR e w' bs ∧ Below w.heap.size w w' := by
  obtain ⟨j0, hj, hy0, hy1, hy2⟩ := info_parts Try.zinByteS
  have HV := hide hv
  have HB := hide hb
  obtain ⟨a, cap, rfl, -, -⟩ := hv
  have hcp := hcap.le
  have hcm := hcp.2
  unfold maxLen at hcm
  clear hb hcap
  by_cases h2 : bs.length < 2
  · have HN := hide (parM_short h2)
    have h2' : (bs.length : Int) < 2 := by omega
    go_enter Try.func18, Try.ntmps18
    go_wp2
    refine bodyPost_ret (v := .tuple #[.int .i64 0, .slice none 0 0, .bool false]) (by simp [results, Try.results18, go_sem]) rfl ⟨Or.inr ⟨rfl, unhide HN⟩, Below.refl _ _⟩
  · have h2' : ¬ (bs.length : Int) < 2 := by omega
    go_enter Try.func18, Try.ntmps18
    go_wp2_with fail
    refine (l4read_any _ bs 2 w.heap.size w (unhide HV) (unhide HB) hl (by omega)).mono ?_
    rintro e w1 ⟨hr, hw1⟩
    subst hw1
    rcases hr with ⟨b, i, rfl, hr1, hi1, hi2, hb0, hb1⟩ | ⟨rfl, hr1⟩
    · have Hr1 := hide hr1
      have hi0 : ¬ (i : Int) < 0 := by omega
      clear hr1
      go_wp2_with fail
      refine (l4read_any _ bs i w1.heap.size w1 (unhide HV) (unhide HB) hl (by omega)).mono ?_
      rintro e w2 ⟨hr, hw2⟩
      subst hw2
      rcases hr with ⟨n, k0, rfl, hr2, hk1, hk2, hn0, hn1⟩ | ⟨rfl, hr2⟩
      · have Hp := hide (parM_3 h2 (unhide Hr1) hr2)
        have hk0 : ¬ (k0 : Int) < 0 := by omega
        clear hr2
        by_cases hn : 1000 < n
        · have HN : Hid (parM bs = none) := by
            show parM bs = none
            rw [unhide Hp, if_pos hn]
          go_wp2_with fail
          refine bodyPost_ret (v := .tuple #[.int .i64 0, .slice none 0 0, .bool false]) (by simp [results, Try.results18, go_sem]) rfl ⟨Or.inr ⟨rfl, unhide HN⟩, Below.refl _ _⟩
        · have HP : Hid (parM bs = (rl n.toNat (bs.drop k0)).map (fun l => (b, l))) := by
            show parM bs = (rl n.toNat (bs.drop k0)).map (fun l => (b, l))
            rw [unhide Hp, if_neg hn]
          obtain ⟨cnt, hcnt⟩ : ∃ cnt : Nat, n = cnt := ⟨n.toNat, by omega⟩
          subst hcnt
          rw [Int.toNat_natCast] at HP
          have hc1 : cnt ≤ 1000 := by omega
          have HD : Hid ((bs.drop k0).length ≤ bs.length) := by show (bs.drop k0).length ≤ bs.length; rw [List.length_drop]; omega
          clear hn0 hn1 hn Hp
          have Hb1 := hide hb1
          clear hb1
          go_wp2_with fail
          go_loopw [8, 9, 10] (fun qv ov jv wr => ∃ (j q : Nat) (ps : List (Cl Int)), j ≤ cnt ∧ ps.length = j ∧ jv = .int .i64 j ∧ qv = .int .i64 q ∧ q ≤ bs.length ∧ rl cnt (bs.drop k0) = (rl (cnt - j) (bs.drop q)).map (fun l => ps.map Cl.xs ++ l) ∧ tot (ps.map Cl.xs) ≤ q ∧ (∀ x ∈ ps.map Cl.xs, Bytes x) ∧ LB w2.heap.size wr ov ps ∧ Below w2.heap.size w2 wr) (fun _ _ jv _ => cnt - (intOf jv).toNat)
          case atStart => exact ⟨0, k0, [], Nat.zero_le _, rfl, rfl, rfl, hk2, by simp, by simp [Go.Proofs.Ytkajdhliejjohaa.tot], by simp, LL.nil, Below.refl _ _⟩
          case round =>
            obtain ⟨j, q, ps, hj1, hpl, rfl, rfl, hq, hrl, htt, hby, hll, hB⟩ := hrel
            have hz := hB.size
            have hpl1 : ps.length ≤ 1000 := by omega
            have Hpl := hide hpl
            have Hrl := hide hrl
            have Hby := hide hby
            have Hll := hide hll
            have HV2 := hide ((unhide HV).below hB (Nat.le_refl _))
            obtain ⟨oa, oc, rfl⟩ := own_is hll.own
            clear hrl hby hll hpl
            by_cases hlt : j < cnt
            · have hlt' : (j : Int) < (cnt : Int) := by omega
              obtain ⟨g, hg, hg2⟩ : ∃ g, cnt - j = g + 1 ∧ cnt - (j + 1) = g := ⟨cnt - j - 1, by omega, by omega⟩
              have Hg := hide (And.intro hg hg2)
              clear hg hg2
              go_wp2_with fail
              refine (l4read_any _ bs q wr.heap.size wr (unhide HV2) (unhide HB) hl (by omega)).mono ?_
              rintro e w3 ⟨hr, hw3⟩
              subst hw3
              rcases hr with ⟨m, p, rfl, hr3, hp1, hp2, hm0, hm1⟩ | ⟨rfl, hr3⟩
              · have hp0 : ¬ (p : Int) < 0 := by omega
                have Hr3 := hide hr3
                have Hm1 := hide hm1
                clear hr3 hm1
                by_cases hml : (bs.length : Int) - (p : Int) < m
                · have HN : Hid (parM bs = none) := by
                    show parM bs = none
                    rw [unhide HP, unhide Hrl, (unhide Hg).1, rl_long (unhide Hr3) (by rw [List.length_drop]; omega)]
                    rfl
                  go_wp2_with fail
                  refine bodyPost_ret (v := .tuple #[.int .i64 0, .slice none 0 0, .bool false]) (by simp [results, Try.results18, go_sem]) rfl ⟨Or.inr ⟨rfl, unhide HN⟩, hB⟩
                · obtain ⟨mm, hmm⟩ : ∃ mm : Nat, m = mm := ⟨m.toNat, by omega⟩
                  subst hmm
                  have hpm : p + mm ≤ bs.length := by omega
                  have Hrs := hide (rl_some (k := g) (unhide Hr3) (by rw [List.length_drop]; omega))
                  have HX : Hid (SlAt mB 0 0 w3.heap.size w3 (.slice (if cap = p then a else a.map (fun x => x.add p)) mm (cap - p)) ((bs.drop p).take mm)) := by
                    have h1 := (sl_from (j := p) (unhide HV2) (by omega) hcp.1 hcp.2)
                    have hcl := h1.2.le
                    have h2 := h1.1
                    rw [← List.length_drop] at h2
                    exact (sl_to (j := mm) h2 (by rw [List.length_drop]; omega) (by rw [List.length_drop]; omega) hcl.2).1
                  have HBx : Hid (Bytes ((bs.drop p).take mm)) := bytes_of_mem (fun x hx => mem_of_bytes (unhide HB) x (List.mem_of_mem_drop (List.mem_of_mem_take hx)))
                  have hxl : ((bs.drop p).take mm).length = mm := by rw [List.length_take, List.length_drop]; omega
                  have Hxl := hide hxl
                  rw [Int.toNat_natCast, List.drop_drop] at Hrs
                  clear Hm1 hxl
                  generalize (bs.drop p).take mm = x at *
                  have hxb : x.length ≤ 1048576 := by have := unhide Hxl; omega
                  by_cases hcc : cap = p
                  · rw [if_pos hcc] at HX
                    subst hcc
                    rw [Nat.sub_self] at HX
                    go_wp2_with (first
                      | (at_builtin; refine app_bytes rfl _ _ rfl w3.heap.size _ [] rfl (World.ownsRow_nil _ _ _ _) (Nat.le_refl _) (.slice a mm 0) (by first | rfl | (simp [Act.eval]; done) | (simp [Act.eval]; omega)) x (unhide HX) (by simp; omega) ?_; intro v4 w4 hb4 hg4 ho4 hone; rw [List.nil_append] at ho4; have Hst := hide (LB.push (unhide Hll) hz hb4 hB ho4); have Hk := hide ((unhide Hll).keep hb4 (Nat.le_refl _)); have hz4 := hb4.size; obtain ⟨la, lc, rfl⟩ := own_is ho4; clear ho4 hg4 hb4)
                      | (at_builtin; refine wpList_append_own _ rfl _ _ 24 rfl w2.heap.size 22 j0 (.slice none 0 0) 1 24 Try.underlying24 hj hy0 hy1 hy2 rfl (by decide) _ _ _ rfl (World.ownsRow.alloc (w := w4) (unhide Hk).own _) ⟨w4.heap.size, 0, none⟩ 1 1 [.slice la x.length lc] rfl rfl ?_ ?_ ?_ ?_ ?_ ?_))
                    · exact cell_1 (by simp)
                    · intro u hu; simp at hu; subst hu; rfl
                    · unfold maxLen; omega
                    · omega
                    · rw [sz_alloc]; omega
                    intro v5 w5 h5 hg5 _
                    have h3 := hide (unhide Hst w5 v5 h5 hg5)
                    obtain ⟨g3, cap3, rfl⟩ := ownsRow_succ h5
                    clear h5 hg5
                    go_wp2
                    obtain ⟨pp, r1, r2, r3⟩ := unhide h3
                    refine ⟨⟨j + 1, cap + mm, ps ++ [pp], by omega, by rw [List.length_append, unhide Hpl]; rfl, by go_num, by go_num, hpm, ?_, ?_, ?_, r2, r3⟩, by simp [intOf]; omega⟩
                    · have e9 : ((fun l => List.map Cl.xs ps ++ l) ∘ fun l => x :: l) = fun l => List.map Cl.xs ps ++ [x] ++ l := by funext l; simp
                      rw [unhide Hrl, (unhide Hg).1, unhide Hrs, (unhide Hg).2, Option.map_map, List.map_append, List.map_singleton, r1, e9]
                    · rw [List.map_append, tot_app, List.map_singleton, r1]
                      have := unhide Hxl
                      simp only [Go.Proofs.Ytkajdhliejjohaa.tot]
                      omega
                    · intro y hy
                      rw [List.map_append, List.map_singleton, r1] at hy
                      rcases List.mem_append.1 hy with hy | hy
                      · exact unhide Hby y hy
                      · rw [List.mem_singleton.1 hy]
                        exact unhide HBx
                  · rw [if_neg hcc] at HX
                    go_wp2_with (first
                      | (at_builtin; refine app_bytes rfl _ _ rfl w3.heap.size _ [] rfl (World.ownsRow_nil _ _ _ _) (Nat.le_refl _) (.slice (Option.map (fun x => x.add p) a) mm (cap - p)) (by first | rfl | (simp [Act.eval]; done) | (simp [Act.eval]; omega)) x (unhide HX) (by simp; omega) ?_; intro v4 w4 hb4 hg4 ho4 hone; rw [List.nil_append] at ho4; have Hst := hide (LB.push (unhide Hll) hz hb4 hB ho4); have Hk := hide ((unhide Hll).keep hb4 (Nat.le_refl _)); have hz4 := hb4.size; obtain ⟨la, lc, rfl⟩ := own_is ho4; clear ho4 hg4 hb4)
                      | (at_builtin; refine wpList_append_own _ rfl _ _ 24 rfl w2.heap.size 22 j0 (.slice none 0 0) 1 24 Try.underlying24 hj hy0 hy1 hy2 rfl (by decide) _ _ _ rfl (World.ownsRow.alloc (w := w4) (unhide Hk).own _) ⟨w4.heap.size, 0, none⟩ 1 1 [.slice la x.length lc] rfl rfl ?_ ?_ ?_ ?_ ?_ ?_))
                    · exact cell_1 (by simp)
                    · intro u hu; simp at hu; subst hu; rfl
                    · unfold maxLen; omega
                    · omega
                    · rw [sz_alloc]; omega
                    intro v5 w5 h5 hg5 _
                    have h3 := hide (unhide Hst w5 v5 h5 hg5)
                    obtain ⟨g3, cap3, rfl⟩ := ownsRow_succ h5
                    clear h5 hg5
                    go_wp2
                    obtain ⟨pp, r1, r2, r3⟩ := unhide h3
                    refine ⟨⟨j + 1, p + mm, ps ++ [pp], by omega, by rw [List.length_append, unhide Hpl]; rfl, by go_num, by go_num, hpm, ?_, ?_, ?_, r2, r3⟩, by simp [intOf]; omega⟩
                    · have e9 : ((fun l => List.map Cl.xs ps ++ l) ∘ fun l => x :: l) = fun l => List.map Cl.xs ps ++ [x] ++ l := by funext l; simp
                      rw [unhide Hrl, (unhide Hg).1, unhide Hrs, (unhide Hg).2, Option.map_map, List.map_append, List.map_singleton, r1, e9]
                    · rw [List.map_append, tot_app, List.map_singleton, r1]
                      have := unhide Hxl
                      simp only [Go.Proofs.Ytkajdhliejjohaa.tot]
                      omega
                    · intro y hy
                      rw [List.map_append, List.map_singleton, r1] at hy
                      rcases List.mem_append.1 hy with hy | hy
                      · exact unhide Hby y hy
                      · rw [List.mem_singleton.1 hy]
                        exact unhide HBx
              · have HN : Hid (parM bs = none) := by
                  show parM bs = none
                  rw [unhide HP, unhide Hrl, (unhide Hg).1, rl_none hr3]
                  rfl
                clear hr3
                go_wp2_with fail
                refine bodyPost_ret (v := .tuple #[.int .i64 0, .slice none 0 0, .bool false]) (by simp [results, Try.results18, go_sem]) rfl ⟨Or.inr ⟨rfl, unhide HN⟩, hB⟩
            · obtain rfl : j = cnt := by omega
              have HN : Hid (parM bs = some (b, ps.map Cl.xs)) := by
                show parM bs = some (b, ps.map Cl.xs)
                rw [unhide HP, unhide Hrl, Nat.sub_self]
                simp [rl]
              go_wp2_with fail
              refine bodyPost_ret (v := .tuple #[.int .i64 b, .slice oa ps.length oc, .bool true]) (by simp [results, Try.results18, go_sem]) rfl ⟨Or.inl ⟨b, ps.map Cl.xs, _, rfl, unhide HN, ?_, ⟨hb0, by have := unhide Hb1; omega⟩, by rw [List.length_map]; omega, by omega, unhide Hby⟩, hB⟩
              exact (LB.footR (unhide Hll)).all (Nat.le_refl _)
      · have HN := hide (parM_2 h2 (unhide Hr1) hr2)
        clear hr2
        go_wp2_with fail
        refine bodyPost_ret (v := .tuple #[.int .i64 0, .slice none 0 0, .bool false]) (by simp [results, Try.results18, go_sem]) rfl ⟨Or.inr ⟨rfl, unhide HN⟩, Below.refl _ _⟩
    · have HN := hide (parM_1 h2 hr1)
      clear hr1
      go_wp2_with fail
      refine bodyPost_ret (v := .tuple #[.int .i64 0, .slice none 0 0, .bool false]) (by simp [results, Try.results18, go_sem]) rfl ⟨Or.inr ⟨rfl, unhide HN⟩, Below.refl _ _⟩

end Go.Proofs.Ytkajdhliejjohaa
