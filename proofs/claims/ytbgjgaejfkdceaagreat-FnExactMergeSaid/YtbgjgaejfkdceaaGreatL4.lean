import Derived.Test.YtbgjgaejfkdceaaGreatP3
import Derived.Test.YtbgjgaejfkdceaaGreatSgb
import Derived.Test.YtbgjgaejfkdceaaGreatP2
namespace Go.Proofs.YtbgjgaejfkdceaaGreat
open Go.RowKit

/-- Values behind a row of lists of bytes that is one's own. -/
theorem app_vals {w : World} {ops : Array Oper} {rest : List Oper} {o : Oper} {a : Act} {Q : Exit → Act → World → Prop} (hgd : o.guard = none) (s x : Operand)
    (ho : o.op = .call { callee := .builtin .append, args := #[s, x], argTypes := #[22, 22] }) (base : Nat) (ov : Value) (hs : a.eval s = ov) (os : List Value) (hown : w.ownsRow base 25 1 ov os.length os) (hbase : base ≤ w.heap.size)
    (sv : Value) (hx : a.eval x = sv) (xs : List Value) (hv : SlAt id undef 0 w.heap.size w sv xs) (hone : ∀ v ∈ xs, v.oneCell' = true) (hlen : os.length + xs.length ≤ 1048576)
    (h : ∀ v' w', Below base w w' → w'.ownsRow base 25 1 v' (os ++ xs).length (os ++ xs) → v'.oneCell' = true → wpList Tryz.prog ops Q rest (a.put o.dst v') w') : wpList Tryz.prog ops Q (o :: rest) a w := by
  obtain ⟨i0, hi, hz0, hz1, hz2⟩ := info_parts Tryz.zinByteS
  obtain ⟨sa, sc, rfl, hl, hc⟩ := hv
  cases sa with
  | none =>
    have h0 : xs.length = 0 := by
      by_cases q : 0 < xs.length
      · obtain ⟨b, off, e, -⟩ := hc q; simp at e
      · omega
    rw [h0] at hx
    refine wpList_append_none_c hgd s x 22 ho base 25 i0 1 Tryz.underlying22 hi _ os.length os hs hown sc hx (h _ w (Below.refl _ _) (by rw [List.eq_nil_of_length_eq_zero h0, List.append_nil]; exact hown) ?_)
    obtain ⟨oa, oc, rfl⟩ := own_is hown
    rfl
  | some ad =>
    refine wpList_append_own_at w hgd s x 22 ho base 25 i0 (.slice none 0 0) 1 24 Tryz.underlying22 hi hz0 hz1 hz2 rfl (by decide) _ os.length os hs hown ad xs.length sc xs hx (by simp) ?_ hone (by unfold maxLen; omega) (by omega) hbase ?_
    · intro j u hu
      have hj : j < xs.length := (List.getElem?_eq_some_iff.1 hu).1
      obtain ⟨b, off, e, -, -, hcell⟩ := hc (by omega)
      simp only [Option.some.injEq] at e
      subst e
      have e3 : (⟨b, off, none⟩ : Addr).add j = ⟨b, off + j, none⟩ := by cases j <;> rfl
      rw [e3, hcell j hj, hu]
      rfl
    · intro v' w' h1 hg _ _
      have h2 : w'.ownsRow base 25 1 v' (os ++ xs).length (os ++ xs) := by rw [List.length_append]; exact h1
      obtain ⟨oa, oc, rfl⟩ := own_is h2
      exact h _ w' ((Below.refl _ _).grown hg hbase (fun k hk => (hown.lt k hk).1)) h2 rfl

theorem growV_any (n : Nat) (w : World) (hn : n ≤ 1048576) :
    Calls Tryz.prog 86 #[.slice none 0 0, .int .i64 n] w fun e w' => ∃ v', e = .returned v' ∧ w'.ownsRow w.heap.size 25 1 v' 0 [] ∧ Below w.heap.size w w' := by
  by_cases h0 : n = 0
  · subst h0
    refine (Any8.slices_Grow_room Tryz.laysGrowB none 0 0 0 w (Nat.le_refl _) (by omega) (by omega) (Nat.le_refl _)).mono ?_
    rintro e w' ⟨rfl, rfl⟩
    exact ⟨_, rfl, World.ownsRow_nil _ _ _ _, Below.refl _ _⟩
  · obtain ⟨i0, hi, hz0, hz1, hz2⟩ := info_parts Tryz.zinByteS
    refine (Any8.slices_Grow_grow Tryz.laysGrowB i0 (.slice none 0 0) hi hz0 (by omega) none 0 0 n [] w (Nat.le_refl _) (by omega) (by rw [hz2]; omega) (by omega) (by simp) (fun _ => rfl) (fun a h => by cases h)).mono ?_
    rintro e w' ⟨rfl, rfl⟩
    have hge := grownCap_ge w n 0 (Tryz.laysGrowB_ren.t 25)
    refine ⟨_, rfl, ⟨rfl, Or.inr ⟨w.heap.size, _, _, rfl, Nat.le_refl _, (pushd_alloc w.drew _).new, Nat.zero_le _, grownCap_le_maxLen _ _ _ _ (by unfold maxLen; omega), ?_, rfl⟩⟩, ((Below.refl w.heap.size w).drew.alloc (Nat.le_refl _) _)⟩
    simp [size_zeroCells, Value.cells]
    omega

theorem flat_nextV {xss : List (List Value)} {i : Nat} (h : i < xss.length) : (xss.take (i + 1)).flatten = (xss.take i).flatten ++ xss[i]?.getD [] := by
  rw [List.take_add_one, List.flatten_append, List.getElem?_eq_getElem h]
  simp only [Option.toList_some, List.flatten_cons, List.flatten_nil, List.append_nil, Option.getD_some]
theorem tot_flatV : ∀ xss : List (List Value), xss.flatten.length = tot xss
  | [] => rfl
  | x :: xss => by simp only [List.flatten_cons, List.length_append, tot_flatV xss, Go.Proofs.YtbgjgaejfkdceaaGreat.tot]

set_option maxHeartbeats 4000000 in
set_option maxRecDepth 100000 in
theorem concatV_any (v : Value) (xss : List (List Value)) (w : World) (hv : SsAt id undef w.heap.size w v xss) (hone : ∀ x ∈ xss, ∀ u ∈ x, u.oneCell' = true) (hT : tot xss ≤ 1048576) (hL : xss.length ≤ 1048576) :
    Calls Tryz.prog 67 #[v] w fun e w' => ∃ v', e = .returned v' ∧ w'.ownsRow w.heap.size 25 1 v' xss.flatten.length xss.flatten ∧ Below w.heap.size w w' := by
  have HO := hide hone
  have Hv := hide hv
  obtain ⟨a, cap, rfl, -, -⟩ := hv
  clear hone
  go_enter Tryz.func67, Tryz.ntmps67
  go_wp2_with fail
  go_loop [3, 11] (fun zv iv => ∃ i : Nat, i ≤ xss.length ∧ iv = .int .i64 i ∧ zv = .int .i64 (tot (xss.take i) : Nat)) (fun _ iv => xss.length - (intOf iv).toNat)
  case atStart => exact ⟨0, Nat.zero_le _, rfl, by simp [Go.Proofs.YtbgjgaejfkdceaaGreat.tot]⟩
  case round =>
    obtain ⟨i, hil, rfl, rfl⟩ := hrel
    by_cases hlt : i < xss.length
    · have hlt' : (i : Int) < (xss.length : Int) := by omega
      obtain ⟨_, _, e, -, hc⟩ := unhide Hv
      cases e
      obtain ⟨b, off, rfl, hbn, hcell⟩ := hc (by omega)
      obtain ⟨sv, hx, hsx, -⟩ := hcell i hlt
      obtain ⟨sa, sc, rfl, -⟩ := id hsx
      have hts := tot_step xss i hlt
      have htl : tot (xss.take (i + 1)) ≤ tot xss := tot_take xss (i + 1)
      have HT := hide hts
      have hneg : ¬ ((tot (xss.take i) : Int) + ((xss[i]?.getD []).length : Int) < 0) := by omega
      have hsm : tot (xss.take i) + (xss[i]?.getD []).length ≤ 1048576 := by omega
      clear hcell hc hsx hts htl
      generalize xss[i]?.getD [] = x at *
      generalize tot (xss.take i) = T at *
      go_wp2
      go_round
      case rel => exact ⟨i + 1, by omega, by go_num, by rw [unhide HT]; go_num⟩
      case measure => simp [intOf]; omega
    · obtain rfl : i = xss.length := by omega
      rw [List.take_length]
      go_wp2_with fail
      refine (growV_any (tot xss) _ hT).mono ?_
      rintro e w1 ⟨v1, rfl, hown1, hb1⟩
      have H1 := hide hown1
      obtain ⟨oa1, oc1, rfl⟩ := own_is hown1
      clear hown1
      go_wp2_with fail
      go_loopw [6, 27] (fun ov iv wr => ∃ i : Nat, i ≤ xss.length ∧ iv = .int .i64 i ∧ wr.ownsRow w.heap.size 25 1 ov (xss.take i).flatten.length (xss.take i).flatten ∧ Below w.heap.size w wr) (fun _ iv _ => xss.length - (intOf iv).toNat)
      case atStart => exact ⟨0, Nat.zero_le _, rfl, unhide H1, hb1⟩
      case round =>
        clear H1 hb1
        obtain ⟨i, hil, rfl, hown, hbw⟩ := hrel
        have hszr := hbw.size
        have Hown := hide hown
        obtain ⟨oa, oc, rfl⟩ := own_is hown
        clear hown
        by_cases hlt : i < xss.length
        · have hlt' : (i : Int) < (xss.length : Int) := by omega
          obtain ⟨_, _, e, -, hc⟩ := (unhide Hv).below hbw (Nat.le_refl _)
          cases e
          obtain ⟨b, off, rfl, hbn, hcell⟩ := hc (by omega)
          obtain ⟨sv, hx, hsx, -⟩ := hcell i hlt
          have HX := hide hsx
          obtain ⟨sa, sc, rfl, -⟩ := id hsx
          have hlen : (xss.take i).flatten.length + (xss[i]?.getD []).length ≤ 1048576 := by
            have h1 := tot_step xss i hlt
            have h2 := tot_take xss (i + 1)
            rw [tot_flatV]
            omega
          have HN : Hid ((xss.take (i + 1)).flatten = (xss.take i).flatten ++ xss[i]?.getD []) := flat_nextV hlt
          have HO1 : Hid (∀ u ∈ xss[i]?.getD [], u.oneCell' = true) := unhide HO _ (by rw [List.getElem?_eq_getElem hlt]; exact List.getElem_mem hlt)
          clear hcell hc hsx
          generalize xss[i]?.getD [] = x at *
          generalize (xss.take i).flatten = os at *
          go_wp2_with (at_builtin; refine app_vals rfl _ _ rfl w.heap.size _ rfl os (by exact unhide Hown) hszr _ rfl x (by exact unhide HX) (unhide HO1) hlen ?_; intro v3 w3 hb3 ho3 hoc3)
          have H3 := hide ho3
          obtain ⟨g3, cap3, rfl⟩ := own_is ho3
          clear ho3
          go_wp2
          go_roundw
          case rel => exact ⟨i + 1, by omega, by go_num, by rw [unhide HN]; exact unhide H3, hbw.trans hb3⟩
          case measure => simp [intOf]; omega
        · obtain rfl : i = xss.length := by omega
          rw [List.take_length] at *
          go_wp2
          go_ret
          exact ⟨_, rfl, unhide Hown, hbw⟩

end Go.Proofs.YtbgjgaejfkdceaaGreat
