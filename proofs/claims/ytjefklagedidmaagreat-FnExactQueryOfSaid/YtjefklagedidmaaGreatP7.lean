import Derived.Test.YtjefklagedidmaaGreatP6
import Derived.Shelf.Spec.SlicesGrow
import Derived.Test.YtjefklagedidmaaGreatRows
import Derived.Test.YtjefklagedidmaaGreatP5
import Derived.Laws.CopyOwn
import Derived.Lib.Overlaps
import Derived.Lib.AppendZerosOnto
import Derived.Lib.AppendZeros
namespace Go.Proofs.YtjefklagedidmaaGreat
open Go.RowKit

set_option maxHeartbeats 4000000 in
set_option maxRecDepth 100000 in
theorem l3cut_any (base : Nat) (v : Value) (ps : List (Cl Int)) (L : List (List Int)) (w : World) (h : LR base w v ps) (hbase : base ≤ w.heap.size) (k : OutS L (ps.map Cl.xs)) :
    Calls Tryz.prog 58 #[v] w fun e w' => ∃ v' ps' S, e = .returned v' ∧ CutR L S ∧ (ps'.map Cl.xs).Perm S ∧ LR base w' v' ps' ∧ Below w.heap.size w w' := by
  have H := hide h
  have HK := hide k
  have hlen := k.len
  rw [List.length_map] at hlen
  obtain ⟨va, vc, rfl⟩ := own_is h.own
  clear h k
  by_cases h50 : 50 < ps.length
  · have h50' : (50 : Int) < (ps.length : Int) := by omega
    go_enter Tryz.func58, Tryz.ntmps58
    go_wp2_with fail
    refine (l3gap_any _).mono ?_
    rintro e w1 ⟨v1, rfl, ⟨p, hp, hlr⟩, hb1⟩
    have hlow : Hid (LR base w1 v1 [p]) := ⟨own_low hlr.own hbase, hlr.ok⟩
    obtain ⟨ga, gc, rfl⟩ := own_is hlr.own
    clear hlr
    go_wp2
    go_ret
    exact ⟨_, [p], [[256]], rfl, (unhide HK).gap (Or.inl (by rw [List.length_map]; exact h50)), by rw [List.map_singleton, hp], unhide hlow, hb1⟩
  · have h50' : ¬ (50 : Int) < (ps.length : Int) := by omega
    go_enter Tryz.func58, Tryz.ntmps58
    go_wp2_with fail
    go_loop [3] (fun iv => ∃ i : Nat, i ≤ ps.length ∧ iv = .int .i64 i ∧ ∀ j : Nat, j < i → (ps[j]?.getD dC).xs.length ≤ 60) (fun iv => ps.length - (intOf iv).toNat)
    case atStart => exact ⟨0, Nat.zero_le _, rfl, fun j hj => absurd hj (Nat.not_lt_zero _)⟩
    case round =>
      obtain ⟨i, hi, rfl, hin⟩ := hrel
      have Hin := hide hin
      clear hin
      by_cases hlt : i < ps.length
      · have hlt' : (i : Int) < (ps.length : Int) := by omega
        obtain ⟨g, cap', e, hcl⟩ := own_at_s (unhide H).own (by omega)
        cases e
        have hm : ps[i]?.getD dC ∈ ps := by rw [List.getElem?_eq_getElem hlt]; exact List.getElem_mem _
        have hx : w.cell? ⟨g, i, none⟩ = some (ps[i]?.getD dC).v := by
          rw [hcl i hlt, List.getElem?_map, List.getElem?_eq_getElem hlt]
          rfl
        have hok := (unhide H).ok _ hm
        obtain ⟨pa, pc, e1⟩ : ∃ a c, (ps[i]?.getD dC).v = .slice a (ps[i]?.getD dC).xs.length c := by obtain ⟨a, c, e, -⟩ := hok; exact ⟨a, c, e⟩
        rw [e1] at hx
        have Hov : Hid (60 < (ps[i]?.getD dC).xs.length → CutR L [[256]]) := fun h => (unhide HK).gap (Or.inr ⟨_, List.mem_map_of_mem hm, h⟩)
        have Hnx : Hid ((ps[i]?.getD dC).xs.length ≤ 60 → ∀ j : Nat, j < i + 1 → (ps[j]?.getD dC).xs.length ≤ 60) := fun h j hj => by
          by_cases e : j = i
          · subst e; exact h
          · exact unhide Hin j (by omega)
        clear hcl hm hok e1 Hin
        generalize ps[i]?.getD dC = p at *
        by_cases hl : 60 < p.xs.length
        · have hl' : (60 : Int) < (p.xs.length : Int) := by omega
          have HQ := hide (unhide Hov hl)
          clear Hov Hnx
          go_wp2_with fail
          refine (l3gap_any _).mono ?_
          rintro e w1 ⟨v1, rfl, ⟨p', hp, hlr⟩, hb1⟩
          have hlow : Hid (LR base w1 v1 [p']) := ⟨own_low hlr.own hbase, hlr.ok⟩
          obtain ⟨ga, gc, rfl⟩ := own_is hlr.own
          clear hlr
          go_wp2
          go_ret
          exact ⟨_, [p'], [[256]], rfl, unhide HQ, by rw [List.map_singleton, hp], unhide hlow, hb1⟩
        · have hl' : ¬ (60 : Int) < (p.xs.length : Int) := by omega
          have HQ := hide (unhide Hnx (by omega))
          clear Hov Hnx
          go_wp2
          go_round
          case rel => exact ⟨i + 1, by omega, by go_num, unhide HQ⟩
          case measure => simp [intOf]; omega
      · obtain rfl : i = ps.length := by omega
        obtain ⟨S, h1, h2⟩ := (unhide HK).fit (fun h => by
          rcases h with h | ⟨x, hx, h⟩
          · rw [List.length_map] at h; omega
          · obtain ⟨q, hq, rfl⟩ := List.mem_map.1 hx
            obtain ⟨j, hj, e⟩ := List.mem_iff_getElem.1 hq
            have := unhide Hin j hj
            rw [List.getElem?_eq_getElem hj, e] at this
            have : q.xs.length ≤ 60 := this
            omega)
        have H1 := hide h1
        have H2 := hide h2
        clear h1 h2
        go_wp2
        go_ret
        exact ⟨_, rfl, ps, S, unhide H1, unhide H2, unhide H, Below.refl _ _⟩

end Go.Proofs.YtjefklagedidmaaGreat

namespace Go.Proofs.YtjefklagedidmaaGreat
open Go.Shelf
def Tryz.laysGrow_ren : Go.Shelf.Ren := ⟨fun | 4 => 130 | n => n, fun | 22 => 41 | 25 => 3 | 3 => 3 | 4 => 4 | 9 => 9 | 20 => 20 | 0 => 0 | n => n, fun | n => n⟩
theorem Tryz.laysGrow : Go.Proofs.Lays8.n4 Tryz.prog Tryz.laysGrow_ren := {
  mixed := by kernel_rfl
  f4 := ⟨Tryz.f130.name, by decide, Tryz.func130.trans (congrArg some (by kernel_rfl))⟩
  t0 := Tryz.underlying0
  a0 := Tryz.isAgg0
  z0 := Tryz.sizeOf0
  v0 := Tryz.zeroValue0
  t3 := Tryz.underlying3
  a3 := Tryz.isAgg3
  z3 := Tryz.sizeOf3
  v3 := Tryz.zeroValue3
  t4 := Tryz.underlying4
  a4 := Tryz.isAgg4
  z4 := Tryz.sizeOf4
  v4 := Tryz.zeroValue4
  t9 := Tryz.underlying9
  a9 := Tryz.isAgg9
  z9 := Tryz.sizeOf9
  v9 := Tryz.zeroValue9
  t20 := Tryz.underlying20
  a20 := Tryz.isAgg20
  z20 := Tryz.sizeOf20
  v20 := Tryz.zeroValue20
  t22 := Tryz.underlying41
  a22 := Tryz.isAgg41
  z22 := Tryz.sizeOf41
  v22 := Tryz.zeroValue41 }
end Go.Proofs.YtjefklagedidmaaGreat

namespace Go.Proofs.YtjefklagedidmaaGreat
open Go.RowKit

theorem grow_any (n : Nat) (w : World) (hn : n ≤ 1048576) :
    Calls Tryz.prog 130 #[.slice none 0 0, .int .i64 n] w fun e w' => ∃ v', e = .returned v' ∧ w'.ownsRow w.heap.size 3 1 v' 0 [] ∧ Below w.heap.size w w' := by
  by_cases h0 : n = 0
  · subst h0
    refine (Any8.slices_Grow_room Tryz.laysGrow none 0 0 0 w (Nat.le_refl _) (by omega) (by omega) (Nat.le_refl _)).mono ?_
    rintro e w' ⟨rfl, rfl⟩
    exact ⟨_, rfl, World.ownsRow_nil _ _ _ _, Below.refl _ _⟩
  · obtain ⟨i0, hi, hz0, hz1, hz2⟩ := info_parts Tryz.zinInt
    refine (Any8.slices_Grow_grow Tryz.laysGrow i0 (.int .i64 0) hi hz0 (by omega) none 0 0 n [] w (Nat.le_refl _) (by omega) (by rw [hz2]; omega) (by omega) (by simp) (fun _ => rfl) (fun a h => by cases h)).mono ?_
    rintro e w' ⟨rfl, rfl⟩
    have hge := grownCap_ge w n 0 (Tryz.laysGrow_ren.t 25)
    refine ⟨_, rfl, ⟨rfl, Or.inr ⟨w.heap.size, _, _, rfl, Nat.le_refl _, (pushd_alloc w.drew _).new, Nat.zero_le _, grownCap_le_maxLen _ _ _ _ (by unfold maxLen; omega), ?_, rfl⟩⟩, ((Below.refl w.heap.size w).drew.alloc (Nat.le_refl _) _)⟩
    simp [size_zeroCells, Value.cells]
    omega

/-- A whole list behind a row of one's own. -/
theorem app_more {w : World} {ops : Array Oper} {rest : List Oper} {o : Oper} {a : Act} {Q : Exit → Act → World → Prop} (hgd : o.guard = none) (s x : Operand)
    (ho : o.op = .call { callee := .builtin .append, args := #[s, x], argTypes := #[41, 41] }) (base : Nat) (ov : Value) (hs : a.eval s = ov) (os : List Int) (hown : w.ownsRow base 3 1 ov os.length (os.map mI)) (hbase : base ≤ w.heap.size)
    (sv : Value) (hx : a.eval x = sv) (xs : List Int) (hv : SlAt mI 0 0 w.heap.size w sv xs) (hlen : os.length + xs.length ≤ 1048576)
    (h : ∀ v' w', Below base w w' → w'.ownsRow base 3 1 v' (os ++ xs).length ((os ++ xs).map mI) → v'.oneCell' = true → wpList Tryz.prog ops Q rest (a.put o.dst v') w') : wpList Tryz.prog ops Q (o :: rest) a w := by
  obtain ⟨i0, hi, hz0, hz1, hz2⟩ := info_parts Tryz.zinInt
  obtain ⟨sa, sc, rfl, hl, hc⟩ := hv
  cases sa with
  | none =>
    have h0 : xs.length = 0 := by
      by_cases q : 0 < xs.length
      · obtain ⟨b, off, e, -⟩ := hc q; simp at e
      · omega
    rw [h0] at hx
    refine wpList_append_none_c hgd s x 41 ho base 3 i0 1 Tryz.underlying41 hi _ os.length (os.map mI) hs hown sc hx (h _ w (Below.refl _ _) (by rw [List.eq_nil_of_length_eq_zero h0, List.append_nil]; exact hown) ?_)
    obtain ⟨oa, oc, rfl⟩ := own_is hown
    rfl
  | some ad =>
    refine wpList_append_own_at w hgd s x 41 ho base 3 i0 (.int .i64 0) 1 8 Tryz.underlying41 hi hz0 hz1 hz2 rfl (by decide) _ os.length (os.map mI) hs hown ad xs.length sc (xs.map mI) hx (by simp) ?_ ?_ (by unfold maxLen; omega) (by omega) hbase ?_
    · intro j u hu
      have hj : j < xs.length := by
        have := (List.getElem?_eq_some_iff.1 hu).1
        simpa using this
      obtain ⟨b, off, e, -, -, hcell⟩ := hc (by omega)
      simp only [Option.some.injEq] at e
      subst e
      rw [List.getElem?_map, getD_of_lt hj] at hu
      simp only [Option.map_some, Option.some.injEq] at hu
      subst hu
      have e3 : (⟨b, off, none⟩ : Addr).add j = ⟨b, off + j, none⟩ := by cases j <;> rfl
      rw [e3]
      exact hcell j hj
    · intro u hu
      obtain ⟨y, -, rfl⟩ := List.mem_map.1 hu
      rfl
    · intro v' w' h1 hg _ _
      have h2 : w'.ownsRow base 3 1 v' (os ++ xs).length ((os ++ xs).map mI) := by rw [List.length_append, List.map_append]; exact h1
      obtain ⟨oa, oc, rfl⟩ := own_is h2
      exact h _ w' ((Below.refl _ _).grown hg hbase (fun k hk => (hown.lt k hk).1)) h2 rfl

theorem flat_next {xss : List (List Int)} {i : Nat} (h : i < xss.length) : (xss.take (i + 1)).flatten = (xss.take i).flatten ++ xss[i]?.getD [] := by
  rw [List.take_add_one, List.flatten_append, List.getElem?_eq_getElem h]
  simp only [Option.toList_some, List.flatten_cons, List.flatten_nil, List.append_nil, Option.getD_some]
theorem tot_flat : ∀ xss : List (List Int), xss.flatten.length = tot xss
  | [] => rfl
  | x :: xss => by simp only [List.flatten_cons, List.length_append, tot_flat xss, Go.Proofs.YtjefklagedidmaaGreat.tot]

set_option maxHeartbeats 4000000 in
set_option maxRecDepth 100000 in
theorem concat_any (v : Value) (xss : List (List Int)) (w : World) (hv : SsAt mI 0 w.heap.size w v xss) (hT : tot xss ≤ 1048576) (hL : xss.length ≤ 1048576) :
    Calls Tryz.prog 114 #[v] w fun e w' => ∃ v', e = .returned v' ∧ w'.ownsRow w.heap.size 3 1 v' xss.flatten.length (xss.flatten.map mI) ∧ Below w.heap.size w w' := by
  obtain ⟨i0, hi, hz0, hz1, hz2⟩ := info_parts Tryz.zinInt
  have Hv := hide hv
  obtain ⟨a, cap, rfl, -, -⟩ := hv
  go_enter Tryz.func114, Tryz.ntmps114
  go_wp2_with fail
  go_loop [3, 11] (fun zv iv => ∃ i : Nat, i ≤ xss.length ∧ iv = .int .i64 i ∧ zv = .int .i64 (tot (xss.take i) : Nat)) (fun _ iv => xss.length - (intOf iv).toNat)
  case atStart => exact ⟨0, Nat.zero_le _, rfl, by simp [Go.Proofs.YtjefklagedidmaaGreat.tot]⟩
  case round =>
    obtain ⟨i, hil, rfl, rfl⟩ := hrel
    by_cases hlt : i < xss.length
    · have hlt' : (i : Int) < (xss.length : Int) := by omega
      obtain ⟨_, _, e, -, hc⟩ := unhide Hv
      cases e
      obtain ⟨b, off, rfl, hbn, hcell⟩ := hc (by omega)
      obtain ⟨sv, hx, hsx, -⟩ := hcell i hlt
      obtain ⟨sa, sc, rfl, -⟩ := id hsx
      have hts := tot_step xss i hlt
      have htl : tot (xss.take (i + 1)) ≤ tot xss := tot_take xss (i + 1)
      have HT := hide hts
      have hneg : ¬ ((tot (xss.take i) : Int) + ((xss[i]?.getD []).length : Int) < 0) := by omega
      have hsm : tot (xss.take i) + (xss[i]?.getD []).length ≤ 1048576 := by omega
      clear hcell hc hsx hts htl
      generalize xss[i]?.getD [] = x at *
      generalize tot (xss.take i) = T at *
      go_wp2
      go_round
      case rel => exact ⟨i + 1, by omega, by go_num, by rw [unhide HT]; go_num⟩
      case measure => simp [intOf]; omega
    · obtain rfl : i = xss.length := by omega
      rw [List.take_length]
      go_wp2_with fail
      refine (grow_any (tot xss) _ hT).mono ?_
      rintro e w1 ⟨v1, rfl, hown1, hb1⟩
      have H1 := hide hown1
      obtain ⟨oa1, oc1, rfl⟩ := own_is hown1
      clear hown1
      go_wp2_with fail
      go_loopw [6, 27] (fun ov iv wr => ∃ i : Nat, i ≤ xss.length ∧ iv = .int .i64 i ∧ wr.ownsRow w.heap.size 3 1 ov (xss.take i).flatten.length ((xss.take i).flatten.map mI) ∧ Below w.heap.size w wr) (fun _ iv _ => xss.length - (intOf iv).toNat)
      case atStart => exact ⟨0, Nat.zero_le _, rfl, unhide H1, hb1⟩
      case round =>
        clear H1 hb1
        obtain ⟨i, hil, rfl, hown, hbw⟩ := hrel
        have hszr := hbw.size
        have Hown := hide hown
        obtain ⟨oa, oc, rfl⟩ := own_is hown
        clear hown
        by_cases hlt : i < xss.length
        · have hlt' : (i : Int) < (xss.length : Int) := by omega
          obtain ⟨_, _, e, -, hc⟩ := (unhide Hv).below hbw (Nat.le_refl _)
          cases e
          obtain ⟨b, off, rfl, hbn, hcell⟩ := hc (by omega)
          obtain ⟨sv, hx, hsx, -⟩ := hcell i hlt
          have HX := hide hsx
          obtain ⟨sa, sc, rfl, -⟩ := id hsx
          have hlen : (xss.take i).flatten.length + (xss[i]?.getD []).length ≤ 1048576 := by
            have h1 := tot_step xss i hlt
            have h2 := tot_take xss (i + 1)
            rw [tot_flat]
            omega
          have HN : Hid ((xss.take (i + 1)).flatten = (xss.take i).flatten ++ xss[i]?.getD []) := flat_next hlt
          clear hcell hc hsx
          generalize xss[i]?.getD [] = x at *
          generalize (xss.take i).flatten = os at *
          go_wp2_with (at_builtin; refine app_more rfl _ _ rfl w.heap.size _ rfl os (by exact unhide Hown) hszr _ rfl x (by exact unhide HX) hlen ?_; intro v3 w3 hb3 ho3 hoc3)
          have H3 := hide ho3
          obtain ⟨g3, cap3, rfl⟩ := own_is ho3
          clear ho3
          go_wp2
          go_roundw
          case rel => exact ⟨i + 1, by omega, by go_num, by rw [unhide HN]; exact unhide H3, hbw.trans hb3⟩
          case measure => simp [intOf]; omega
        · obtain rfl : i = xss.length := by omega
          rw [List.take_length] at *
          go_wp2
          go_ret
          exact ⟨_, rfl, unhide Hown, hbw⟩

end Go.Proofs.YtjefklagedidmaaGreat

namespace Go.Proofs.YtjefklagedidmaaGreat
open Go.RowKit

theorem ssAt_two {w : World} {u v : Value} {a b : List Int} {t : TypeId} (hu : SlAt mI 0 0 w.heap.size w u a) (cu : CapOk u) (hv : SlAt mI 0 0 w.heap.size w v b) (cv : CapOk v) :
    SsAt mI 0 (w.alloc (.cells #[u, v] t)).heap.size (w.alloc (.cells #[u, v] t)) (.slice (some ⟨w.heap.size, 0, none⟩) 2 2) [a, b] := by
  have hB := below1 w (.cells #[u, v] t)
  refine ⟨_, 2, rfl, ⟨Nat.le_refl _, by unfold maxLen; omega⟩, fun _ => ⟨w.heap.size, 0, rfl, by rw [sz_alloc]; omega, fun i hi => ?_⟩⟩
  have hi' : i < 2 := hi
  have hn : (w.alloc (.cells #[u, v] t)).cell? ⟨w.heap.size, 0 + 0, none⟩ = some u ∧ (w.alloc (.cells #[u, v] t)).cell? ⟨w.heap.size, 0 + 1, none⟩ = some v := ⟨(pushd_alloc w (.cells #[u, v] t)).news 0 u rfl, (pushd_alloc w (.cells #[u, v] t)).news 1 v rfl⟩
  rcases (show i = 0 ∨ i = 1 by omega) with rfl | rfl
  · exact ⟨u, hn.1, hu.below hB (Nat.le_refl _), cu⟩
  · exact ⟨v, hn.2, hv.below hB (Nat.le_refl _), cv⟩

set_option maxHeartbeats 4000000 in
set_option maxRecDepth 100000 in
theorem joinSk_any (u v : Value) (a b : List Int) (w : World) (hu : SlAt mI 0 0 w.heap.size w u a) (cu : CapOk u) (hv : SlAt mI 0 0 w.heap.size w v b) (cv : CapOk v) (hl : a.length + b.length ≤ 1048576) :
    Calls Tryz.prog 93 #[u, v] w fun e w' => ∃ v', e = .returned v' ∧ w'.ownsRow w.heap.size 3 1 v' (jn2 a b).length ((jn2 a b).map mI) ∧ Below w.heap.size w w' := by
  have Hu := hide hu
  have Hv := hide hv
  have Cu := hide cu
  have Cv := hide cv
  obtain ⟨ua, uc, rfl, -, hcu⟩ := hu
  obtain ⟨va, vc, rfl, -, hcv⟩ := hv
  obtain ⟨cv1, cv2⟩ := cv.le
  unfold maxLen at cv2
  clear cu cv
  by_cases ga : 0 < a.length
  · have ga' : (0 : Int) < (a.length : Int) := by omega
    have gb' : (a.length : Int) - 1 < (a.length : Int) := by omega
    have gc' : (0 : Int) ≤ (a.length : Int) - 1 := by omega
    obtain ⟨ub, uo, rfl, -, -, hcell⟩ := hcu ga
    have hx : w.cell? ⟨ub, uo + (a.length - 1), none⟩ = some (.int .i64 (a[a.length - 1]?.getD 0)) := hcell _ (by omega)
    have hla := hide (last_at ga)
    clear hcell hcu
    generalize a[a.length - 1]?.getD 0 = x at *
    by_cases gb : 0 < b.length
    · have gbb' : (0 : Int) < (b.length : Int) := by omega
      obtain ⟨vb, vo, rfl, -, hvn, hcell⟩ := hcv gb
      have hy : w.cell? ⟨vb, vo, none⟩ = some (.int .i64 (b[0]?.getD 0)) := hcell 0 gb
      have hh := hide (head_at gb)
      have Hcell := hide hcell
      clear hcell hcv
      generalize b[0]?.getD 0 = y at *
      by_cases g1 : x = 256
      · subst g1
        by_cases g2 : y = 256
        · subst g2
          have HJ : Hid (jn2 a b = a ++ b.tail) := jn2_yes ⟨unhide hla, unhide hh⟩
          have htl : b.tail.length = b.length - 1 := List.length_tail
          by_cases hc1 : 1 < vc
          · have HV : Hid (SlAt mI 0 0 w.heap.size w (.slice (some ⟨vb, vo + 1, none⟩) (b.length - 1) (vc - 1)) b.tail) := by
              have := SlAt.drop (k := 1) (m := b.length - 1) (cap := vc - 1) (by omega) (by unfold maxLen; omega) (Nat.zero_le _) hvn (unhide Hcell)
              rwa [List.drop_one] at this
            have HC : Hid (CapOk (.slice (some ⟨vb, vo + 1, none⟩) (b.length - 1) (vc - 1))) := CapOk.mk (by omega) (by unfold maxLen; omega)
            go_enter Tryz.func93, Tryz.ntmps93
            go_wp2_with fail
            refine (concat_any _ [a, b.tail] _ (ssAt_two (unhide Hu) (unhide Cu) (unhide HV) (unhide HC)) (by simp [Go.Proofs.YtjefklagedidmaaGreat.tot]; omega) (by simp)).mono ?_
            rintro e w1 ⟨v1, rfl, hown1, hb1⟩
            have hO : w1.ownsRow w.heap.size 3 1 v1 (jn2 a b).length ((jn2 a b).map mI) := by
              rw [unhide HJ]
              have h := own_low hown1 (b' := w.heap.size) (by rw [sz_alloc]; omega)
              have e : [a, b.tail].flatten = a ++ b.tail := by simp
              rw [e] at h
              exact h
            have HO := hide hO
            have hB : Below w.heap.size w w1 := (below1 w _).trans (hb1.mono (by rw [sz_alloc]; omega))
            obtain ⟨oa, oc, rfl⟩ := own_is hO
            clear hown1 hb1 hO HJ
            go_wp2
            go_ret
            exact ⟨_, rfl, unhide HO, hB⟩
          · obtain rfl : vc = 1 := by omega
            have htl0 : b.tail.length = 0 := by omega
            have HV : Hid (SlAt mI 0 0 w.heap.size w (.slice (some ⟨vb, vo, none⟩) 0 0) b.tail) := ⟨_, 0, by rw [htl0], by rw [htl0]; exact Nat.zero_le _, fun h => by rw [htl0] at h; omega⟩
            have HC : Hid (CapOk (.slice (some ⟨vb, vo, none⟩) 0 0)) := CapOk.mk (by omega) (by unfold maxLen; omega)
            clear htl htl0
            go_enter Tryz.func93, Tryz.ntmps93
            go_wp2_with fail
            refine (concat_any _ [a, b.tail] _ (ssAt_two (unhide Hu) (unhide Cu) (unhide HV) (unhide HC)) (by simp [Go.Proofs.YtjefklagedidmaaGreat.tot]; omega) (by simp)).mono ?_
            rintro e w1 ⟨v1, rfl, hown1, hb1⟩
            have hO : w1.ownsRow w.heap.size 3 1 v1 (jn2 a b).length ((jn2 a b).map mI) := by
              rw [unhide HJ]
              have h := own_low hown1 (b' := w.heap.size) (by rw [sz_alloc]; omega)
              have e : [a, b.tail].flatten = a ++ b.tail := by simp
              rw [e] at h
              exact h
            have HO := hide hO
            have hB : Below w.heap.size w w1 := (below1 w _).trans (hb1.mono (by rw [sz_alloc]; omega))
            obtain ⟨oa, oc, rfl⟩ := own_is hO
            clear hown1 hb1 hO HJ
            go_wp2
            go_ret
            exact ⟨_, rfl, unhide HO, hB⟩
        · have g2' : (y == 256) = false := by simpa using g2
          have HJ : Hid (jn2 a b = a ++ b) := jn2_no (fun h => by rw [unhide hh] at h; exact g2 (by simpa using h.2))
          go_enter Tryz.func93, Tryz.ntmps93
          go_wp2_with fail
          refine (concat_any _ [a, b] _ (ssAt_two (unhide Hu) (unhide Cu) (unhide Hv) (unhide Cv)) (by simp [Go.Proofs.YtjefklagedidmaaGreat.tot]; omega) (by simp)).mono ?_
          rintro e w1 ⟨v1, rfl, hown1, hb1⟩
          have hO : w1.ownsRow w.heap.size 3 1 v1 (jn2 a b).length ((jn2 a b).map mI) := by
            rw [unhide HJ]
            have h := own_low hown1 (b' := w.heap.size) (by rw [sz_alloc]; omega)
            have e : [a, b].flatten = a ++ b := by simp
            rw [e] at h
            exact h
          have HO := hide hO
          have hB : Below w.heap.size w w1 := (below1 w _).trans (hb1.mono (by rw [sz_alloc]; omega))
          obtain ⟨oa, oc, rfl⟩ := own_is hO
          clear hown1 hb1 hO HJ
          go_wp2
          go_ret
          exact ⟨_, rfl, unhide HO, hB⟩
      · have g1' : (x == 256) = false := by simpa using g1
        have HJ : Hid (jn2 a b = a ++ b) := jn2_no (fun h => by rw [unhide hla] at h; exact g1 (by simpa using h.1))
        go_enter Tryz.func93, Tryz.ntmps93
        go_wp2_with fail
        refine (concat_any _ [a, b] _ (ssAt_two (unhide Hu) (unhide Cu) (unhide Hv) (unhide Cv)) (by simp [Go.Proofs.YtjefklagedidmaaGreat.tot]; omega) (by simp)).mono ?_
        rintro e w1 ⟨v1, rfl, hown1, hb1⟩
        have hO : w1.ownsRow w.heap.size 3 1 v1 (jn2 a b).length ((jn2 a b).map mI) := by
          rw [unhide HJ]
          have h := own_low hown1 (b' := w.heap.size) (by rw [sz_alloc]; omega)
          have e : [a, b].flatten = a ++ b := by simp
          rw [e] at h
          exact h
        have HO := hide hO
        have hB : Below w.heap.size w w1 := (below1 w _).trans (hb1.mono (by rw [sz_alloc]; omega))
        obtain ⟨oa, oc, rfl⟩ := own_is hO
        clear hown1 hb1 hO HJ
        go_wp2
        go_ret
        exact ⟨_, rfl, unhide HO, hB⟩
    · have gbb' : ¬ (0 : Int) < (b.length : Int) := by omega
      have gbd : decide (0 < b.length) = false := decide_eq_false gb
      have HJ : Hid (jn2 a b = a ++ b) := jn2_no (fun h => by rw [List.eq_nil_of_length_eq_zero (show b.length = 0 by omega)] at h; simp at h)
      go_enter Tryz.func93, Tryz.ntmps93
      go_wp2_with fail
      refine (concat_any _ [a, b] _ (ssAt_two (unhide Hu) (unhide Cu) (unhide Hv) (unhide Cv)) (by simp [Go.Proofs.YtjefklagedidmaaGreat.tot]; omega) (by simp)).mono ?_
      rintro e w1 ⟨v1, rfl, hown1, hb1⟩
      have hO : w1.ownsRow w.heap.size 3 1 v1 (jn2 a b).length ((jn2 a b).map mI) := by
        rw [unhide HJ]
        have h := own_low hown1 (b' := w.heap.size) (by rw [sz_alloc]; omega)
        have e : [a, b].flatten = a ++ b := by simp
        rw [e] at h
        exact h
      have HO := hide hO
      have hB : Below w.heap.size w w1 := (below1 w _).trans (hb1.mono (by rw [sz_alloc]; omega))
      obtain ⟨oa, oc, rfl⟩ := own_is hO
      clear hown1 hb1 hO HJ
      go_wp2
      go_ret
      exact ⟨_, rfl, unhide HO, hB⟩
  · have ga' : ¬ (0 : Int) < (a.length : Int) := by omega
    have gad : decide (0 < a.length) = false := decide_eq_false ga
    have HJ : Hid (jn2 a b = a ++ b) := jn2_no (fun h => by rw [List.eq_nil_of_length_eq_zero (show a.length = 0 by omega)] at h; simp at h)
    go_enter Tryz.func93, Tryz.ntmps93
    go_wp2_with fail
    refine (concat_any _ [a, b] _ (ssAt_two (unhide Hu) (unhide Cu) (unhide Hv) (unhide Cv)) (by simp [Go.Proofs.YtjefklagedidmaaGreat.tot]; omega) (by simp)).mono ?_
    rintro e w1 ⟨v1, rfl, hown1, hb1⟩
    have hO : w1.ownsRow w.heap.size 3 1 v1 (jn2 a b).length ((jn2 a b).map mI) := by
      rw [unhide HJ]
      have h := own_low hown1 (b' := w.heap.size) (by rw [sz_alloc]; omega)
      have e : [a, b].flatten = a ++ b := by simp
      rw [e] at h
      exact h
    have HO := hide hO
    have hB : Below w.heap.size w w1 := (below1 w _).trans (hb1.mono (by rw [sz_alloc]; omega))
    obtain ⟨oa, oc, rfl⟩ := own_is hO
    clear hown1 hb1 hO HJ
    go_wp2
    go_ret
    exact ⟨_, rfl, unhide HO, hB⟩

end Go.Proofs.YtjefklagedidmaaGreat

namespace Go.Proofs.YtjefklagedidmaaGreat
open Go.RowKit

/-- Outside one block nothing has changed. -/
structure But (g : Nat) (w w' : World) : Prop where
  os : w'.os = w.os
  tape : w'.tape = w.tape
  output : w'.output = w.output
  size : w'.heap.size = w.heap.size
  block : ∀ k, k ≠ g → w'.heap[k]? = w.heap[k]?
theorem But.trans {g : Nat} {a b c : World} (h : But g a b) (k : But g b c) : But g a c := ⟨k.os.trans h.os, k.tape.trans h.tape, k.output.trans h.output, k.size.trans h.size, fun i hi => (k.block i hi).trans (h.block i hi)⟩
theorem but_setRow {w : World} {g : Nat} (cs : Array Value) : But g w (w.setRow g cs) := ⟨rfl, rfl, rfl, by simp [World.setRow], fun k hk => setRow_other w g k cs hk⟩

/-- copy into a row that is known whole, as a step of a region. -/
theorem step_copy1 {P : Program} {ops : Array Oper} {o : Oper} {a : Act} {w : World} {K : Act → World → Prop} {Q : Exit → Act → World → Prop} {E : Prop} (hgd : o.guard = none) (d s : Operand) (dT sT : TypeId)
    (ho : o.op = .call { callee := .builtin .copy, args := #[d, s], argTypes := #[dT, sT] }) (elem : TypeId) (hu : P.underlying dT = some (.slice elem)) (hsz : (P.info? elem).map (·.size) = some 1)
    (g off dLen dCap : Nat) (ad : Addr) (sLen sCap : Nat) (hd : a.eval d = .slice (some ⟨g, off, none⟩) dLen dCap) (hs : a.eval s = .slice (some ad) sLen sCap)
    (cur : List Value) (t : TypeId) (hg : w.heap[g]? = some (.cells cur.toArray t (0, 0))) (cs : List Value) (hn : cs.length = Nat.min sLen dLen) (hsrc : ∀ j v, cs[j]? = some v → w.cell? (ad.add j) = some v) (hfit : off + cs.length ≤ cur.length) (h1 : ∀ v ∈ cs, v.oneCell' = true)
    (h : ∀ w', w'.heap[g]? = some (.cells (splice cur off cs).toArray t (0, 0)) → But g w w' → K (a.put o.dst (goInt cs.length)) w') :
    if Region.wanted o (yielded ops a.tmps) = true then Oper.wp P o a w K Q else E := by
  have hw : Region.wanted o (yielded ops a.tmps) = true := by simp [Region.wanted, hgd]
  rw [if_pos hw]
  have hrun := run_copy_row (P := P) w dT sT o.type elem g off dLen dCap ad sLen sCap cur.toArray t cs hu hsz hg hn hsrc (by simpa using hfit) h1
  unfold Oper.wp
  simp [execOp, ho, resolve, invoke, builtin, hd, hs, hrun, Result.andThen]
  exact h _ (by simpa [splice] using setRow_heap w g _ _ t _ hg) (but_setRow _)
theorem copy_row {P : Program} (w : World) (dT sT elem : TypeId) (hu : P.underlying dT = some (.slice elem)) (hsz : (P.info? elem).map (·.size) = some 1) (g off dLen dCap : Nat) (ad : Addr) (sLen sCap : Nat) (cur : List Value) (t : TypeId) (hg : w.heap[g]? = some (.cells cur.toArray t (0, 0))) (cs : List Value) (hn : cs.length = Nat.min sLen dLen) (hsrc : ∀ j v, cs[j]? = some v → w.cell? (ad.add j) = some v) (hfit : off + cs.length ≤ cur.length) (h1 : ∀ v ∈ cs, v.oneCell' = true) :
    ∃ w' : World, (∀ ty, (Builtin.copy_ #[dT, sT] ty #[.slice (some ⟨g, off, none⟩) dLen dCap, .slice (some ad) sLen sCap]).run P w = .ok (goInt cs.length) w') ∧ w'.heap[g]? = some (.cells (splice cur off cs).toArray t (0, 0)) ∧ But g w w' :=
  ⟨_, fun ty => run_copy_row (P := P) w dT sT ty elem g off dLen dCap ad sLen sCap cur.toArray t cs hu hsz hg hn hsrc (by simpa using hfit) h1, by simpa [splice] using setRow_heap w g _ _ t _ hg, but_setRow _⟩

/-- What an insertion leaves of the row. -/
theorem splice_ins (vs R : List Value) (x : Value) (i : Nat) (hi : i ≤ vs.length) (hR : 0 < R.length) : splice (splice (vs ++ R) (i + 1) (vs.drop i)) i [x] = (vs.take i ++ x :: vs.drop i) ++ R.drop 1 := by
  have e1 : splice (vs ++ R) (i + 1) (vs.drop i) = (vs ++ R).take (i + 1) ++ (vs.drop i ++ R.drop 1) := by
    unfold splice
    congr 2
    rw [List.length_drop, List.drop_append, List.drop_eq_nil_of_le (by omega), List.nil_append]
    congr 1
    omega
  rw [e1]
  have hl : ((vs ++ R).take (i + 1)).length = i + 1 := by rw [List.length_take, List.length_append]; omega
  unfold splice
  rw [List.take_append_of_le_length (by omega), List.take_take, Nat.min_eq_left (by omega), List.take_append_of_le_length hi, List.length_singleton, List.drop_append, hl, Nat.sub_self, List.drop_zero, List.drop_eq_nil_of_le (by omega), List.nil_append]
  simp

/-- What slices.Insert leaves. -/
def InsR (e : Ending) (base n : Nat) (w w' : World) (sv : Value) (L : List Value) : Prop := ∃ v', e = .returned v' ∧ w'.ownsRow base 41 1 v' (n + 1) L ∧ w.grownBy w' sv.ownBlock ∧ (v'.ownBlock = sv.ownBlock ∨ ∃ k, w.heap.size ≤ k ∧ v'.ownBlock = some k)

set_option maxHeartbeats 8000000 in
set_option maxRecDepth 100000 in
theorem insert_end (base n AD : Nat) (sv x : Value) (vs : List Value) (w : World) (hown : w.ownsRow base 41 1 sv n vs) (hn : n ≤ 1000) (hbase : base ≤ w.heap.size) (hA : w.heap[AD]? = some (.cells #[x] 41 (0, 0))) (hx1 : x.oneCell' = true) :
    Calls Tryz.prog 91 #[sv, .int .i64 n, .slice (some ⟨AD, 0, none⟩) 1 1] w fun e w' => InsR e base n w w' sv (vs ++ [x]) := by
  obtain ⟨j0, hj, hy0, hy1, hy2⟩ := info_parts Tryz.zinIntS
  have HO := hide hown
  have hnew : ∀ j u, [x][j]? = some u → w.cell? ((⟨AD, 0, none⟩ : Addr).add j) = some u := World.news_of_block hA
  have HN := hide hnew
  obtain ⟨sa, sc, rfl⟩ := own_is hown
  have hcap : n ≤ sc ∧ sc ≤ 9223372036854775807 := by have := (own_cap hown).le; unfold maxLen at this; omega
  clear hown hnew
  go_enter Tryz.func91, Tryz.ntmps91
  go_wp2_with (at_builtin; refine wpList_append_own_at _ rfl _ _ 26 rfl base 41 j0 (.slice none 0 0) 1 24 Tryz.underlying26 hj hy0 hy1 hy2 rfl (by decide) (.slice sa n sc) n vs rfl (unhide HO) ⟨AD, 0, none⟩ 1 1 [x] rfl rfl (unhide HN) (by intro u hu; simp at hu; subst hu; exact hx1) (by unfold maxLen; omega) (by omega) hbase ?_)
  all_goals
    intro v' w' q1 q2 _ q3
    have hob : ∀ c, (Value.slice sa n c).ownBlock = (Value.slice sa n sc).ownBlock := fun c => by cases sa <;> rfl
    rw [hob] at q2 q3
    have hR : InsR (.returned v') base n w w' (.slice sa n sc) (vs ++ [x]) := ⟨v', rfl, q1, q2, q3.imp id (fun e => ⟨_, Nat.le_refl _, e⟩)⟩
    have HR := hide hR
    obtain ⟨g', c', rfl⟩ := ownsRow_succ q1
    clear hR q1 q2 q3
    go_wp2
    go_ret
    exact unhide HR

/-- The model's slices.overlaps, of one new list and a row. -/
theorem overlaps_no (AD g off lb cb : Nat) (x : Value) (C : Array Value) (w : World) (hA : w.heap[AD]? = some (.cells #[x] 41 (0, 0))) (hg : w.heap[g]? = some (.cells C 41 (0, 0))) (hC : C.size ≠ 0) (hne : AD ≠ g) :
    (callFunc 111 #[.slice (some ⟨AD, 0, none⟩) 1 1, .slice (some ⟨g, off, none⟩) lb cb]).run Tryz.prog w = .ok (.value (.bool false)) w := by
  obtain ⟨j0, hj, hy0, hy1, hy2⟩ := info_parts Tryz.zinIntS
  rw [run_callFunc_extern Tryz.func111 (by kernel_rfl) (by kernel_rfl) (by kernel_rfl) (e := Extern.SlicesOverlaps.overlaps #[26, 26] #[4]) (by kernel_rfl),
    Lib.run_overlaps_apart w 26 4 41 Tryz.underlying26 1 (fun w => by simp [Go.sizeOf, typeInfo, hj, hy1]) ⟨AD, 0, none⟩ ⟨g, off, none⟩ 1 1 lb cb hne 41 41 1 C.size (by simp [World.shape?, hA]) (by simp [World.shape?, hg]) hC (frz ⟨_, _, hA⟩) (frz ⟨_, _, hA⟩)]
  rfl

set_option maxHeartbeats 8000000 in
set_option maxRecDepth 100000 in
theorem insert_room (base n i cap g AD : Nat) (x : Value) (vs R : List Value) (w : World) (hvl : vs.length = n) (hbg : base ≤ g) (hg : w.heap[g]? = some (.cells (vs ++ R).toArray 41 (0, 0))) (hsz : (vs ++ R).length = cap) (hcm : cap ≤ maxLen) (hi : i < n) (hroom : n + 1 ≤ cap) (hn : n ≤ 1000) (hA : w.heap[AD]? = some (.cells #[x] 41 (0, 0))) (hAg : AD ≠ g) (h1 : ∀ v ∈ vs, v.oneCell' = true) (hx1 : x.oneCell' = true) :
    Calls Tryz.prog 91 #[.slice (some ⟨g, 0, none⟩) n cap, .int .i64 i, .slice (some ⟨AD, 0, none⟩) 1 1] w fun e w' => InsR e base n w w' (.slice (some ⟨g, 0, none⟩) n cap) (vs.take i ++ x :: vs.drop i) := by
  obtain ⟨j0, hj, hy0, hy1, hy2⟩ := info_parts Tryz.zinIntS
  have hs1 : (Tryz.prog.info? 41).map (·.size) = some 1 := by rw [hj]; simp [hy1]
  have hov : ∀ off lb cb, (callFunc 111 #[.slice (some ⟨AD, 0, none⟩) 1 1, .slice (some ⟨g, off, none⟩) lb cb]).run Tryz.prog w = .ok (.value (.bool false)) w := fun off lb cb => overlaps_no AD g off lb cb x (vs ++ R).toArray w hA hg (by rw [List.size_toArray, hsz]; omega) hAg
  have hgz : g < w.heap.size := (Array.getElem?_eq_some_iff.1 hg).1
  have hdl : (vs.drop i).length = n - i := by rw [List.length_drop, hvl]
  have HRl : Hid (0 < R.length) := by show 0 < R.length; rw [List.length_append, hvl] at hsz; omega
  obtain ⟨X, hX⟩ : ∃ X, vs.drop i = X := ⟨_, rfl⟩
  obtain ⟨L, hL⟩ : ∃ L, vs ++ R = L := ⟨_, rfl⟩
  have hsrc0 : ∀ j v, X[j]? = some v → w.cell? ((⟨g, i, none⟩ : Addr).add j) = some v := fun j v hv => by
    have e3 : (⟨g, i, none⟩ : Addr).add j = ⟨g, i + j, none⟩ := by cases j <;> rfl
    rw [← hX, List.getElem?_drop] at hv
    have hlt := (List.getElem?_eq_some_iff.1 hv).1
    have e4 : w.cell? ⟨g, i + j, none⟩ = (vs ++ R)[i + j]? := by simp [World.cell?, hg]
    rw [e3, e4, List.getElem?_append_left hlt]
    exact hv
  have hX1 : ∀ v ∈ X, v.oneCell' = true := fun v hv => h1 v (List.mem_of_mem_drop (by rw [hX]; exact hv))
  have hfin := splice_ins vs R x i (by omega) (unhide HRl)
  rw [hX, hL] at hfin
  rw [hX] at hdl
  have HFIN : Hid (∀ w', w'.heap[g]? = some (.cells (splice (splice L (i + 1) X) i [x]).toArray 41 (0, 0)) → But g w w' → InsR (.returned (.slice (some ⟨g, 0, none⟩) (n + 1) cap)) base n w w' (.slice (some ⟨g, 0, none⟩) n cap) (vs.take i ++ x :: X)) := fun w' q1 q2 => by
    refine ⟨_, rfl, ⟨by simp [hdl]; omega, Or.inr ⟨g, cap, _, rfl, hbg, q1, hroom, hcm, ?_, ?_⟩⟩, ⟨q2.os, q2.tape, q2.output, Nat.le_of_eq q2.size.symm, fun k _ hk => q2.block k (fun e => hk (by rw [e]; rfl))⟩, Or.inl rfl⟩
    · rw [hfin, List.size_toArray, Nat.mul_one, List.length_append, List.length_append, List.length_cons, List.length_take, List.length_drop, hdl]
      rw [List.length_append] at hsz
      have := unhide HRl
      omega
    · rw [hfin, Nat.mul_one]
      have hl : (vs.take i ++ x :: X).length = n + 1 := by simp [hdl]; omega
      show List.take (n + 1) ((vs.take i ++ x :: X) ++ R.drop 1) = _
      rw [← hl]
      exact List.take_left
  rw [hL] at hg hsz
  rw [hX]
  have HG := hide hg
  have HA := hide hA
  have HSZ := hide hsz
  have HDL := hide hdl
  have HX1 := hide hX1
  have HS0 := hide hsrc0
  have hcm' : cap ≤ 9223372036854775807 := by unfold maxLen at hcm; exact hcm
  have hiI : (i : Int) ≤ (n : Int) := by omega
  have hne : ((i : Int) == (n : Int)) = false := by rw [beq_eq_false_iff_ne]; omega
  have hle : ¬ (cap : Int) < (n : Int) + 1 := by omega
  have hw1 : IntKind.i64.wrap ((i : Int) + 1) = (i : Int) + 1 := k64i (by omega) (by omega)
  have hw2 : (0 : Int) ≤ (i : Int) + 1 := by omega
  have hw3 : (i : Int) + 1 ≤ (n : Int) + 1 := by omega
  have hw4 : ((i : Int) + 1).toNat = i + 1 := by omega
  have hw5 : (i : Int) ≤ (n : Int) + 1 := by omega
  have hc1 : ¬ cap = i + 1 := by omega
  have hc2 : ¬ cap = i := by omega
  clear hg hA h1 hvl hsz hdl hcm hX hL hfin hX1 hsrc0
  go_enter Tryz.func91, Tryz.ntmps91
  go_wp2_with (simp only [hov])
  go_region_law (refine step_copy1 rfl (.tmp 73) (.tmp 76) 26 26 rfl 41 Tryz.underlying26 hs1 g (i + 1) (n + 1 - (i + 1)) (cap - (i + 1)) ⟨g, i, none⟩ (n + 1 - i) (cap - i) (by first | (simp [Act.eval]; done) | (simp [Act.eval, Act.put]; done)) (by first | (simp [Act.eval]; done) | (simp [Act.eval, Act.put]; done)) L 41 (by exact unhide HG) X (by rw [unhide HDL]; simp only [Nat.min_def]; split <;> omega) (by exact unhide HS0) (by rw [unhide HSZ, unhide HDL]; omega) (unhide HX1) ?_; intro w1 hg1 hb1; have hb1' : But g w w1 := ⟨hb1.os, hb1.tape, hb1.output, hb1.size, hb1.block⟩; have HG1 := hide hg1; have hA1 := hide (show w1.heap[AD]? = some (.cells #[x] 41 (0, 0)) from (hb1'.block AD hAg).trans (unhide HA)); clear hg1 hb1)
  all_goals
    have hl1 : (splice L (i + 1) X).length = cap := by rw [length_splice L (i + 1) X (by rw [unhide HSZ, unhide HDL]; omega)]; exact unhide HSZ
    have HL1 := hide hl1
    clear hl1
    obtain ⟨w2, hcp, hg2, hb2⟩ : ∃ w2 : World, (∀ ty, Sem.run Tryz.prog (Builtin.copy_ #[26, 26] ty #[.slice (some ⟨g, i, none⟩) (n + 1 - i) (cap - i), .slice (some ⟨AD, 0, none⟩) 1 1]) w1 = .ok (goInt 1) w2) ∧ w2.heap[g]? = some (.cells (splice (splice L (i + 1) X) i [x]).toArray 41 (0, 0)) ∧ But g w1 w2 :=
      copy_row w1 26 26 41 Tryz.underlying26 hs1 g i (n + 1 - i) (cap - i) ⟨AD, 0, none⟩ 1 1 (splice L (i + 1) X) 41 (unhide HG1) [x] (by simp only [Nat.min_def, List.length_singleton]; split <;> omega) (World.news_of_block (unhide hA1)) (by rw [unhide HL1, List.length_singleton]; omega) (by intro u hu; simp at hu; subst hu; exact hx1)
    have hb2' : But g w w2 := hb1'.trans ⟨hb2.os, hb2.tape, hb2.output, hb2.size, hb2.block⟩
    have HR := hide (unhide HFIN w2 hg2 hb2')
    clear hg2 hb2
    go_wp2
    go_ret
    exact unhide HR

/-- append of zero lists behind the first i: a new row. -/
theorem grow_zeros (n i cap g : Nat) (vs : List Value) (w : World) (hvl : vs.length = n) (hcell : ∀ j v, vs[j]? = some v → w.cell? ⟨g, j, none⟩ = some v) (hi : i < n) (hfull : cap < n + 1) (hn : n ≤ 1000) :
    ∃ (W1 : World) (G : Nat) (ROW : List Value), (∀ ty, (Builtin.append_ #[26, 3] ty #[.slice (some ⟨g, 0, none⟩) i cap, .int .i64 ((n : Int) + 1 - (i : Int))]).run Tryz.prog w = .ok (.slice (some ⟨w.heap.size, 0, none⟩) (n + 1) G) W1) ∧ W1.heap[w.heap.size]? = some (.cells ROW.toArray 41 (0, 0)) ∧ ROW.length = G ∧ ROW.take i = vs.take i ∧ (n + 1 ≤ G ∧ G ≤ maxLen) ∧ W1.heap.size = w.heap.size + 1 ∧ Below w.heap.size w W1 := by
  obtain ⟨j0, hj, hy0, hy1, hy2⟩ := info_parts Tryz.zinIntS
  have hold : (Builtin.firstCells j0.size i (.slice (some ⟨g, 0, none⟩) i cap)).run Tryz.prog w.drew = .ok (vs.take i).toArray w.drew := by
    rw [hy1]
    refine run_firstCells_some w.drew 1 i ⟨g, 0, none⟩ i cap (vs.take i) (by rw [List.length_take]; omega) (fun j v hv => ?_)
    rw [List.getElem?_take] at hv
    split at hv
    · have e3 : (⟨g, 0, none⟩ : Addr).add j = ⟨g, j, none⟩ := by cases j <;> simp [Addr.add]
      rw [e3]
      exact hcell j v hv
    · cases hv
  have hik : i + (n + 1 - i) = n + 1 := by omega
  have hkk : (n : Int) + 1 - (i : Int) = ((n + 1 - i : Nat) : Int) := by omega
  have hrun := fun ty => Lib.run_append_grow_zeros (P := Tryz.prog) w 26 3 ty 41 j0 (.slice none 0 0) .i64 .i64 Tryz.underlying26 Tryz.underlying3 hj hy0 (some ⟨g, 0, none⟩) i cap (vs.take i) hold (n + 1 - i) (by omega) (by rw [hy1]; decide) (by omega) (by omega) (by rw [hy2]; omega) (by rw [hy2, hik]; exact growslice_fits (by omega) (by omega))
  have hge := grownCap_ge w (n + 1) cap 41
  have hle := grownCap_le_maxLen w (n + 1) cap 41 (by unfold maxLen; omega)
  rw [hik] at hrun
  refine ⟨_, _, (vs.take i ++ List.replicate (n + 1 - i) (.slice none 0 0)) ++ List.replicate (grownCap w (n + 1) cap 41 - (n + 1)) (.slice none 0 0), fun ty => by rw [hkk]; exact hrun ty, ?_, ?_, ?_, ⟨hge, hle⟩, by rw [sz_alloc]; rfl, ?_⟩
  · have hz : ∀ k, Builtin.zeroCells (Value.slice none 0 0).cells k = (List.replicate k (Value.slice none 0 0)).toArray := fun k => by
      apply Array.ext
      · simp [Builtin.zeroCells, Value.cells]
      · intro t t1 t2
        simp [Builtin.zeroCells, Value.cells, Nat.mod_one]
    rw [hz, hz]
    show ((w.drew).heap.push _)[w.heap.size]? = _
    rw [Array.getElem?_push, if_pos (by rfl)]
    simp
  · simp
    omega
  · rw [List.append_assoc, List.take_append_of_le_length (by rw [List.length_take]; omega), List.take_take, Nat.min_self]
  · exact (below1 w.drew _).mono (Nat.le_refl _) |>.trans (Below.refl _ _) |> fun h => ⟨h.os, h.tape, h.output, h.size, h.block⟩

theorem splice_grow (vs ROW : List Value) (x : Value) (n i : Nat) (hvl : vs.length = n) (hi : i < n) (hR : n + 1 ≤ ROW.length) (ht : ROW.take i = vs.take i) : (splice (splice ROW i [x]) (i + 1) (vs.drop i)).take (n + 1) = vs.take i ++ x :: vs.drop i ∧ (splice (splice ROW i [x]) (i + 1) (vs.drop i)).length = ROW.length := by
  have l1 : (splice ROW i [x]).length = ROW.length := length_splice ROW i [x] (by rw [List.length_singleton]; omega)
  have hd : (vs.drop i).length = n - i := by rw [List.length_drop, hvl]
  refine ⟨?_, by rw [length_splice _ _ _ (by rw [l1, hd]; omega), l1]⟩
  have e1 : (splice ROW i [x]).take (i + 1) = vs.take i ++ [x] := by
    unfold splice
    rw [ht, ← List.append_assoc]
    have : (vs.take i ++ [x]).length = i + 1 := by rw [List.length_append, List.length_take, List.length_singleton]; omega
    rw [← this]
    exact List.take_left
  have e2 : splice (splice ROW i [x]) (i + 1) (vs.drop i) = (vs.take i ++ x :: vs.drop i) ++ (splice ROW i [x]).drop (i + 1 + (vs.drop i).length) := by
    conv => lhs; unfold splice
    rw [show (List.take i ROW ++ ([x] ++ List.drop (i + [x].length) ROW)) = splice ROW i [x] from rfl, e1]
    simp
  rw [e2]
  have hl : (vs.take i ++ x :: vs.drop i).length = n + 1 := by rw [List.length_append, List.length_cons, List.length_take, hd]; omega
  rw [← hl]
  exact List.take_left

set_option maxHeartbeats 8000000 in
set_option maxRecDepth 100000 in
theorem insert_full (base n i cap g AD : Nat) (x : Value) (vs : List Value) (w : World) (hbase : base ≤ w.heap.size) (hvl : vs.length = n) (hcell : ∀ j v, vs[j]? = some v → w.cell? ⟨g, j, none⟩ = some v) (hgz : g < w.heap.size) (hnc : n ≤ cap) (hi : i < n) (hfull : cap < n + 1) (hn : n ≤ 1000) (hA : w.heap[AD]? = some (.cells #[x] 41 (0, 0))) (h1 : ∀ v ∈ vs, v.oneCell' = true) (hx1 : x.oneCell' = true) :
    Calls Tryz.prog 91 #[.slice (some ⟨g, 0, none⟩) n cap, .int .i64 i, .slice (some ⟨AD, 0, none⟩) 1 1] w fun e w' => InsR e base n w w' (.slice (some ⟨g, 0, none⟩) n cap) (vs.take i ++ x :: vs.drop i) := by
  obtain ⟨j0, hj, hy0, hy1, hy2⟩ := info_parts Tryz.zinIntS
  have hs1 : (Tryz.prog.info? 41).map (·.size) = some 1 := by rw [hj]; simp [hy1]
  obtain ⟨W1, G, ROW, hrz, hg1, hRl, hRt, ⟨hGn, hGm⟩, hzW, hbW⟩ := grow_zeros n i cap g vs w hvl hcell hi hfull hn
  have hAz : AD < w.heap.size := (Array.getElem?_eq_some_iff.1 hA).1
  have hdl : (vs.drop i).length = n - i := by rw [List.length_drop, hvl]
  have hfin := splice_grow vs ROW x n i hvl hi (by omega) hRt
  have l1 : (splice ROW i [x]).length = G := by rw [length_splice ROW i [x] (by rw [List.length_singleton]; omega), hRl]
  obtain ⟨W2, hcp, hg2, hb2⟩ := copy_row (P := Tryz.prog) W1 26 26 41 Tryz.underlying26 hs1 w.heap.size i (n + 1 - i) (G - i) ⟨AD, 0, none⟩ 1 1 ROW 41 hg1 [x] (by simp only [Nat.min_def, List.length_singleton]; split <;> omega) (World.news_of_block (by rw [hbW.block AD hAz]; exact hA)) (by rw [hRl, List.length_singleton]; omega) (by intro u hu; simp at hu; subst hu; exact hx1)
  obtain ⟨X, hX⟩ : ∃ X, vs.drop i = X := ⟨_, rfl⟩
  have hsrc : ∀ W : World, W.heap[g]? = w.heap[g]? → ∀ j v, X[j]? = some v → W.cell? ((⟨g, i, none⟩ : Addr).add j) = some v := fun W hW j v hv => by
    have e3 : (⟨g, i, none⟩ : Addr).add j = ⟨g, i + j, none⟩ := by cases j <;> rfl
    rw [← hX, List.getElem?_drop] at hv
    rw [e3, World.cell?_of_block (w := w) (a := ⟨g, i + j, none⟩) hW]
    exact hcell (i + j) v hv
  have HS0 := hide (hsrc W2 (by rw [hb2.block g (by omega), hbW.block g hgz]))
  have HX1 : Hid (∀ v ∈ X, v.oneCell' = true) := fun v hv => h1 v (List.mem_of_mem_drop (by rw [hX]; exact hv))
  rw [hX] at hfin hdl ⊢
  have HFIN : Hid (∀ w', w'.heap[w.heap.size]? = some (.cells (splice (splice ROW i [x]) (i + 1) X).toArray 41 (0, 0)) → But w.heap.size W2 w' → InsR (.returned (.slice (some ⟨w.heap.size, 0, none⟩) (n + 1) G)) base n w w' (.slice (some ⟨g, 0, none⟩) n cap) (vs.take i ++ x :: X)) := fun w' q1 q2 => by
    refine ⟨_, rfl, ⟨by simp [hdl]; omega, Or.inr ⟨w.heap.size, G, _, rfl, hbase, q1, hGn, hGm, ?_, ?_⟩⟩, ⟨q2.os.trans (hb2.os.trans hbW.os), q2.tape.trans (hb2.tape.trans hbW.tape), q2.output.trans (hb2.output.trans hbW.output), by rw [q2.size, hb2.size]; omega, fun k k1 _ => ?_⟩, Or.inr ⟨_, Nat.le_refl _, rfl⟩⟩
    · rw [List.size_toArray, hfin.2, hRl, Nat.mul_one]
    · rw [Nat.mul_one]
      exact hfin.1
    · rw [q2.block k (by omega), hb2.block k (by omega), hbW.block k k1]
  have HG2 := hide hg2
  have HL1 := hide l1
  have HDL := hide hdl
  have hcm' : G ≤ 9223372036854775807 := by unfold maxLen at hGm; exact hGm
  have hiI : (i : Int) ≤ (n : Int) := by omega
  have hne : ((i : Int) == (n : Int)) = false := by rw [beq_eq_false_iff_ne]; omega
  have hle : (cap : Int) < (n : Int) + 1 := by omega
  have hw1 : IntKind.i64.wrap ((i : Int) + 1) = (i : Int) + 1 := k64i (by omega) (by omega)
  have hw2 : (0 : Int) ≤ (i : Int) + 1 := by omega
  have hw3 : (i : Int) + 1 ≤ (n : Int) + 1 := by omega
  have hw4 : ((i : Int) + 1).toNat = i + 1 := by omega
  have hw5 : (i : Int) ≤ (n : Int) + 1 := by omega
  have hc1 : ¬ G = i + 1 := by omega
  have hc2 : ¬ G = i := by omega
  have hc3 : ¬ cap = i := by omega
  have hiC : (i : Int) ≤ (cap : Int) := by omega
  clear hX hfin hdl l1 hg1 hRl hRt hzW hb2 hg2 hA h1 hvl hcell hsrc
  go_enter Tryz.func91, Tryz.ntmps91
  go_wp2_with (at_builtin; refine Lib.wpList_append_run _ rfl _ _ _ _ rfl _ _ rfl rfl _ _ (hrz _) ?_)
  go_region_law (refine step_copy1 rfl (.tmp 50) (.tmp 53) 26 26 rfl 41 Tryz.underlying26 hs1 w.heap.size (i + 1) (n + 1 - (i + 1)) (G - (i + 1)) ⟨g, i, none⟩ (n - i) (cap - i) (by first | (simp [Act.eval]; done) | (simp [Act.eval, Act.put]; done)) (by first | (simp [Act.eval]; done) | (simp [Act.eval, Act.put]; done)) (splice ROW i [x]) 41 (by exact unhide HG2) X (by rw [unhide HDL]; simp only [Nat.min_def]; split <;> omega) (by exact unhide HS0) (by rw [unhide HL1, unhide HDL]; omega) (unhide HX1) ?_; intro w3 hg3 hb3; have hb3' : But w.heap.size W2 w3 := ⟨hb3.os, hb3.tape, hb3.output, hb3.size, hb3.block⟩; have HR := hide (unhide HFIN w3 hg3 hb3'); clear hg3 hb3)
  all_goals
    go_wp2
    go_ret
    exact unhide HR

/-- slices.Insert of one list into a row of one's own. -/
theorem insert_any (base n i AD : Nat) (sv x : Value) (vs : List Value) (w : World) (hown : w.ownsRow base 41 1 sv n vs) (hi : i ≤ n) (hn : n ≤ 1000) (hbase : base ≤ w.heap.size) (hA : w.heap[AD]? = some (.cells #[x] 41 (0, 0))) (hAg : sv.ownBlock ≠ some AD) (h1 : ∀ v ∈ vs, v.oneCell' = true) (hx1 : x.oneCell' = true) :
    Calls Tryz.prog 91 #[sv, .int .i64 i, .slice (some ⟨AD, 0, none⟩) 1 1] w fun e w' => InsR e base n w w' sv (vs.take i ++ x :: vs.drop i) := by
  have hvl := hown.1
  rw [Nat.mul_one] at hvl
  by_cases hin : i = n
  · subst hin
    have e : vs.take i ++ x :: vs.drop i = vs ++ [x] := by rw [List.take_of_length_le (by omega), List.drop_eq_nil_of_le (by omega)]
    rw [e]
    exact insert_end base i AD sv x vs w hown hn hbase hA hx1
  · rcases hown.2 with ⟨rfl, hz⟩ | ⟨g, cap, cur, rfl, hbg, hg, hnc, hcm, hcs, htake⟩
    · omega
    · rw [Nat.mul_one] at hcs htake
      have hAg' : AD ≠ g := fun e => hAg (by rw [e]; rfl)
      by_cases hroom : n + 1 ≤ cap
      · have e : cur = (vs ++ cur.toList.drop n).toArray := by rw [← htake, List.take_append_drop]
        refine insert_room base n i cap g AD x vs (cur.toList.drop n) w hvl hbg (by rw [← e]; exact hg) ?_ hcm (by omega) hroom hn hA hAg' h1 hx1
        rw [← htake, List.take_append_drop, Array.length_toList]
        exact hcs
      · exact insert_full base n i cap g AD x vs w hbase hvl (fun j v hv => by
          have hlt : j < n := by have := (List.getElem?_eq_some_iff.1 hv).1; omega
          rw [hown.cellAt j (by omega)]
          exact hv) (Array.getElem?_eq_some_iff.1 hg).1 hnc (by omega) (by omega) hn hA h1 hx1

end Go.Proofs.YtjefklagedidmaaGreat
