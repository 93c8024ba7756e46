import Derived.Test.YthgnefdefjannaaGreatFu12
import Derived.Test.YthgnefdefjannaaGreatIg2
import Derived.Test.YthgnefdefjannaaGreatFc16
namespace Go.Proofs.YthgnefdefjannaaGreat
open Go.RowKit

theorem txt_ok (xss : List (List Int)) (last : Bool) (h : ∀ x ∈ xss, Cod x) (t : tot xss ≤ 20000) (l : xss.length ≤ 1000) : Bytes (txt xss last) ∧ (txt xss last).length ≤ 1048576 :=
  ⟨bytes_of_mem (txt_byte xss last h), by have := txt_len xss last; omega⟩
/-- DrawIngest, whatever is drawn. -/
theorem drawIngest_ex (code : List Int) (hc : Cod code) : ∃ (B O : List (List Int)) (T : List Int), InOk B O ∧ (Bytes T ∧ T.length ≤ 1048576) ∧ ∀ (v : Value) (w : World), SlAt mB 0 0 w.heap.size w v code → CapOk v → Calls Tryz.prog 4 #[v] w (DrawnI w B O T) := by
  obtain ⟨E, hE⟩ := encE_ex
  have hx : Cod (code.take 600) := fun x h => hc x (List.mem_of_mem_take h)
  by_cases hk : (code.take 600).headD 0 % 6 = 0
  · obtain ⟨B, O, n, t, hnt, hok, hnr⟩ := l5near_ex E hE (code.take 600).tail hx.tail
    have hh := hx.tail.tail.tail.head
    have hm : ∀ n t last, 1 ≤ n → n ≤ 1000 → t ≤ 20000 → Bytes (txt (mny n t) last) ∧ (txt (mny n t) last).length ≤ 1048576 := fun n t last h1 h2 h3 => txt_ok _ _ (mny_byte n t) (by rw [mny_tot n t h1]; omega) (by rw [mny_len]; omega)
    rcases hnt with ⟨rfl, rfl⟩ | ⟨rfl, rfl⟩
    · rcases (show (code.take 600).tail.tail.tail.headD 0 % 3 = 0 ∨ (code.take 600).tail.tail.tail.headD 0 % 3 = 1 ∨ (code.take 600).tail.tail.tail.headD 0 % 3 = 2 by omega) with hj | hj | hj
      · exact ⟨B, O, _, hok, hm 3 9 false (by omega) (by omega) (by omega), fun v w hv hcap => drawIn_996_0 code hc B O hk hj hnr v w hv hcap⟩
      · exact ⟨B, O, _, hok, hm 4 9 true (by omega) (by omega) (by omega), fun v w hv hcap => drawIn_996_1 code hc B O hk hj hnr v w hv hcap⟩
      · exact ⟨B, O, _, hok, hm 5 9 false (by omega) (by omega) (by omega), fun v w hv hcap => drawIn_996_2 code hc B O hk hj hnr v w hv hcap⟩
    · rcases (show (code.take 600).tail.tail.tail.headD 0 % 3 = 0 ∨ (code.take 600).tail.tail.tail.headD 0 % 3 = 1 ∨ (code.take 600).tail.tail.tail.headD 0 % 3 = 2 by omega) with hj | hj | hj
      · exact ⟨B, O, _, hok, hm 2 39 false (by omega) (by omega) (by omega), fun v w hv hcap => drawIn_30_0 code hc B O hk hj hnr v w hv hcap⟩
      · exact ⟨B, O, _, hok, hm 2 40 true (by omega) (by omega) (by omega), fun v w hv hcap => drawIn_30_1 code hc B O hk hj hnr v w hv hcap⟩
      · exact ⟨B, O, _, hok, hm 2 41 false (by omega) (by omega) (by omega), fun v w hv hcap => drawIn_30_2 code hc B O hk hj hnr v w hv hcap⟩
  · obtain ⟨hok, hcd⟩ := dA_ok hE (code.take 600).tail hx.tail
    by_cases hj : (dA E (code.take 600).tail).2.2.headD 0 % 7 = 1
    · exact ⟨_, _, [], hok, ⟨bytes_nil, Nat.zero_le _⟩, fun v w hv hcap => drawIn_nil code hc E hE hk hj v w hv hcap⟩
    · have hh := hcd.tail.head
      obtain ⟨q1, q2, q3, q4⟩ := dLs_ok (1 + (dA E (code.take 600).tail).2.2.tail.headD 0 % 4).toNat (dA E (code.take 600).tail).2.2.tail.tail hcd.tail.tail
      by_cases hj2 : (dA E (code.take 600).tail).2.2.headD 0 % 2 = 1
      · exact ⟨_, _, _, hok, txt_ok _ true q3 (by omega) (by omega), fun v w hv hcap => drawIn_true code hc E hE hk hj hj2 v w hv hcap⟩
      · exact ⟨_, _, _, hok, txt_ok _ false q3 (by omega) (by omega), fun v w hv hcap => drawIn_false code hc E hE hk hj hj2 v w hv hcap⟩

set_option maxHeartbeats 4000000 in
set_option maxRecDepth 100000 in
theorem sameState_same (u v : Value) (bss oss : List (List Int)) (w : World) (hu : StRd w u bss oss) (hv : StRd w v bss oss) (l1 : bss.length ≤ 1048576) (l2 : oss.length ≤ 1048576) :
    Calls Tryz.prog 7 #[u, v] w fun e w' => e = .returned (.bool true) ∧ Below w.heap.size w w' := by
  obtain ⟨sv, ov, rfl, u1, u2⟩ := hu
  obtain ⟨sv', ov', rfl, v1, v2⟩ := hv
  have U1 := hide u1
  have U2 := hide u2
  have V1 := hide v1
  have V2 := hide v2
  obtain ⟨a1, c1, rfl, -⟩ := id u1
  obtain ⟨a2, c2, rfl, -⟩ := id u2
  obtain ⟨b1, d1, rfl, -⟩ := id v1
  obtain ⟨b2, d2, rfl, -⟩ := id v2
  clear u1 u2 v1 v2
  have hb0 := below2 w (.cells #[.slice a1 bss.length c1, .slice a2 oss.length c2] 25) (.cells #[.slice b1 bss.length d1, .slice b2 oss.length d2] 25)
  have RA := (Row2.new w 25 (.slice a1 bss.length c1) (.slice a2 oss.length c2)).alloc (.cells #[.slice b1 bss.length d1, .slice b2 oss.length d2] 25)
  have RB := Row2.new (w.alloc (.cells #[.slice a1 bss.length c1, .slice a2 oss.length c2] 25)) 25 (.slice b1 bss.length d1) (.slice b2 oss.length d2)
  rw [sz_alloc] at RB
  go_enter Tryz.func7, Tryz.ntmps7
  go_wp2_with fail
  generalize (w.alloc (.cells #[.slice a1 bss.length c1, .slice a2 oss.length c2] 25)).alloc (.cells #[.slice b1 bss.length d1, .slice b2 oss.length d2] 25) = V at *
  obtain ⟨f0, f1, -⟩ := RA.facts4
  obtain ⟨g0, g1, -⟩ := RB.facts4
  have HU2 := hide ((unhide U2).below hb0 (Nat.le_refl _))
  have HV2 := hide ((unhide V2).below hb0 (Nat.le_refl _))
  refine (sameTexts_same _ _ bss V ((unhide U1).below hb0 (Nat.le_refl _)) ((unhide V1).below hb0 (Nat.le_refl _)) l1).mono ?_
  rintro e w1 ⟨rfl, q1, rfl⟩
  clear U1 V1 U2 V2 RA RB
  go_wp2_with fail
  refine (sameTexts_same _ _ oss _ (by exact unhide HU2) (by exact unhide HV2) l2).mono ?_
  rintro e w2 ⟨rfl, q2, rfl⟩
  go_wp2
  go_ret
  exact ⟨rfl, below_drewN hb0 (q1 + q2)⟩

theorem step_append_none_f {w : World} {ops : Array Oper} {o : Oper} {a : Act} {K : Act → World → Prop} {Q : Exit → Act → World → Prop} {E : Prop} (hgd : o.guard = none) (s x : Operand) (t : TypeId)
    (ho : o.op = .call { callee := .builtin .append, args := #[s, x], argTypes := #[t, t] })
    (base : Nat) (e : TypeId) (i : TypeInfo) (size : Nat) (ht : Tryz.prog.underlying t = some (.slice e)) (hi : Tryz.prog.info? e = some i)
    (v : Value) (n : Nat) (xs : List Value) (hs : a.eval s = v) (hown : w.ownsRow base e size v n xs) (c : Nat) (hx : a.eval x = .slice none 0 c)
    (h : K (a.put o.dst v) w) : if Region.wanted o (yielded ops a.tmps) = true then Oper.wp Tryz.prog o a w K Q else E := by
  have hw : Region.wanted o (yielded ops a.tmps) = true := by simp [Region.wanted, hgd]
  rw [if_pos hw]
  have hrun := run_append_none_c (P := Tryz.prog) (w := w) base t o.type e i size ht hi v n xs hown c
  unfold Oper.wp
  simp [execOp, ho, resolve, invoke, builtin, hs, hx, hrun, Result.andThen]
  exact h
/-- The append of lines of its own, many or none, as a step of a region. -/
theorem step_app_any {w : World} {ops : Array Oper} {o : Oper} {a : Act} {K : Act → World → Prop} {Q : Exit → Act → World → Prop} {E : Prop} (base : Nat) (hgd : o.guard = none) (s x : Operand)
    (ho : o.op = .call { callee := .builtin .append, args := #[s, x], argTypes := #[23, 23] }) (v u : Value) (ps qs : List (Cl Int)) (hs : a.eval s = v) (h : LB base w v ps) (hx : a.eval x = u) (hu : LB base w u qs) (hps : ∀ p ∈ ps, ∀ q ∈ qs, 0 < p.xs.length → 0 < q.xs.length → p.b ≠ q.b) (hbase : base ≤ w.heap.size) (hlen : ps.length + qs.length ≤ 4194304)
    (hK : ∀ v' w', LB base w' v' (ps ++ qs) → w.grownBy w' v.ownBlock → OwnS w v v' → K (a.put o.dst v') w') :
    if Region.wanted o (yielded ops a.tmps) = true then Oper.wp Tryz.prog o a w K Q else E := by
  obtain ⟨i0, hi, hz0, hz1, hz2⟩ := info_parts Tryz.zinByteS
  have hlu := hu.own.1
  rcases hu.own.2 with ⟨rfl, hz⟩ | ⟨g, cap, cur, rfl, hbg, hgb, hnc, hcm, hcs, htake⟩
  · have hq : qs = [] := List.eq_nil_of_length_eq_zero hz
    subst hq
    exact step_append_none_f hgd s x 23 ho base 22 i0 1 Tryz.underlying23 hi v ps.length _ hs h.own 0 hx (hK v w (by simpa using h) ⟨rfl, rfl, rfl, Nat.le_refl _, fun _ _ _ => rfl⟩ (Or.inl rfl))
  · have hw : Region.wanted o (yielded ops a.tmps) = true := by simp [Region.wanted, hgd]
    rw [if_pos hw]
    obtain ⟨v', w', hr, h2, h3, h4, h5⟩ := run_append_own_at (P := Tryz.prog) w base 23 o.type 22 i0 (.slice none 0 0) 1 24 Tryz.underlying23 hi hz0 hz1 hz2 rfl (by decide) v ps.length (ps.map Cl.v) h.own ⟨g, 0, none⟩ qs.length cap (qs.map Cl.v) (by simp) (by
      intro j u hu2
      have hj : j < qs.length := by have := (List.getElem?_eq_some_iff.1 hu2).1; simpa using this
      have e3 : (⟨g, 0, none⟩ : Addr).add j = ⟨g, j, none⟩ := by cases j <;> simp [Addr.add]
      rw [e3, hu.own.cellAt j (by omega)]
      exact hu2) (by
      intro u hu2
      obtain ⟨q, hq, rfl⟩ := List.mem_map.1 hu2
      exact (hu.ok q hq).one) (by unfold maxLen; omega) (by omega) hbase
    have hk9 := hK v' w' (h.appAll (by decide) hbase hu.ok hu.lo hu.apart hps h2 h3).1 h3 (h5.imp id (fun e => ⟨_, Nat.le_refl _, e⟩))
    unfold Oper.wp
    simp [execOp, ho, resolve, invoke, builtin, hs, hx, hr, Result.andThen]
    exact hk9
theorem run_specSplit (x : Value) (w : World) : Sem.run Tryz.prog (callFunc 8 #[x]) w = .ok (.enter 8 #[x]) w := by kernel_rfl

end Go.Proofs.YthgnefdefjannaaGreat
