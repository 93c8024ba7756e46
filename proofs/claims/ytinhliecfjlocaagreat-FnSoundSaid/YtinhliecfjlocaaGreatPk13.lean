import Derived.Test.YtinhliecfjlocaaGreatPk10
import Derived.Test.YtinhliecfjlocaaGreatPk7
import Derived.Test.YtinhliecfjlocaaGreatPk8
import Derived.Laws.CopyOwn
import Derived.Lib.Overlaps
import Derived.Lib.AppendZerosOnto
import Derived.Lib.AppendZeros
namespace Go.Proofs.YtinhliecfjlocaaGreat
open Go.RowKit
def AddR (ps : List (Cl Int)) (p : Cl Int) (ps' : List (Cl Int)) : Prop :=
  (ps' = ps ∧ (50 < ps.length ∨ p.xs ∈ ps.map Cl.xs)) ∨ (ps' = ps ++ [p] ∧ ps.length ≤ 50 ∧ p.xs ∉ ps.map Cl.xs)
theorem AddR.out {L : List (List Int)} {ps ps' : List (Cl Int)} {p : Cl Int} (h : AddR ps p ps') (k : OutS L (ps.map Cl.xs)) : OutS (L ++ [p.xs]) (ps'.map Cl.xs) := by
  rcases h with ⟨rfl, h | h⟩ | ⟨rfl, h1, h2⟩
  · exact k.full (by rw [List.length_map]; exact h) _
  · exact k.known h
  · rw [List.map_append]
    exact k.new (by rw [List.length_map]; exact h1) h2
theorem grow_any (n : Nat) (w : World) (hn : n ≤ 1048576) :
    Calls Tryz.prog 147 #[.slice none 0 0, .int .i64 n] w fun e w' => ∃ v', e = .returned v' ∧ w'.ownsRow w.heap.size 3 1 v' 0 [] ∧ Below w.heap.size w w' := by
  by_cases h0 : n = 0
  · subst h0
    refine (Any8.slices_Grow_room Tryz.laysGrow none 0 0 0 w (Nat.le_refl _) (by omega) (by omega) (Nat.le_refl _)).mono ?_
    rintro e w' ⟨rfl, rfl⟩
    exact ⟨_, rfl, World.ownsRow_nil _ _ _ _, Below.refl _ _⟩
  · obtain ⟨i0, hi, hz0, hz1, hz2⟩ := info_parts Tryz.zinInt
    refine (Any8.slices_Grow_grow Tryz.laysGrow i0 (.int .i64 0) hi hz0 (by omega) none 0 0 n [] w (Nat.le_refl _) (by omega) (by rw [hz2]; omega) (by omega) (by simp) (fun _ => rfl) (fun a h => by cases h)).mono ?_
    rintro e w' ⟨rfl, rfl⟩
    have hge := grownCap_ge w n 0 (Tryz.laysGrow_ren.t 25)
    refine ⟨_, rfl, ⟨rfl, Or.inr ⟨w.heap.size, _, _, rfl, Nat.le_refl _, (pushd_alloc w.drew _).new, Nat.zero_le _, grownCap_le_maxLen _ _ _ _ (by unfold maxLen; omega), ?_, rfl⟩⟩, ((Below.refl w.heap.size w).drew.alloc (Nat.le_refl _) _)⟩
    simp [size_zeroCells, Value.cells]
    omega
theorem flat_next {xss : List (List Int)} {i : Nat} (h : i < xss.length) : (xss.take (i + 1)).flatten = (xss.take i).flatten ++ xss[i]?.getD [] := by
  rw [List.take_add_one, List.flatten_append, List.getElem?_eq_getElem h]
  simp only [Option.toList_some, List.flatten_cons, List.flatten_nil, List.append_nil, Option.getD_some]
theorem tot_flat : ∀ xss : List (List Int), xss.flatten.length = tot xss
  | [] => rfl
  | x :: xss => by simp only [List.flatten_cons, List.length_append, tot_flat xss, Go.Proofs.YtinhliecfjlocaaGreat.tot]
set_option maxHeartbeats 4000000 in
set_option maxRecDepth 100000 in
theorem concat_any (v : Value) (xss : List (List Int)) (w : World) (hv : SsAt mI 0 w.heap.size w v xss) (hT : tot xss ≤ 1048576) (hL : xss.length ≤ 1048576) :
    Calls Tryz.prog 137 #[v] w fun e w' => ∃ v', e = .returned v' ∧ w'.ownsRow w.heap.size 3 1 v' xss.flatten.length (xss.flatten.map mI) ∧ Below w.heap.size w w' := by
  obtain ⟨i0, hi, hz0, hz1, hz2⟩ := info_parts Tryz.zinInt
  have Hv := hide hv
  obtain ⟨a, cap, rfl, -, -⟩ := hv
  go_enter Tryz.func137, Tryz.ntmps137
  go_wp2_with fail
  go_loop [3, 11] (fun zv iv => ∃ i : Nat, i ≤ xss.length ∧ iv = .int .i64 i ∧ zv = .int .i64 (tot (xss.take i) : Nat)) (fun _ iv => xss.length - (intOf iv).toNat)
  case atStart => exact ⟨0, Nat.zero_le _, rfl, by simp [Go.Proofs.YtinhliecfjlocaaGreat.tot]⟩
  case round =>
    obtain ⟨i, hil, rfl, rfl⟩ := hrel
    by_cases hlt : i < xss.length
    · have hlt' : (i : Int) < (xss.length : Int) := by omega
      obtain ⟨_, _, e, -, hc⟩ := unhide Hv
      cases e
      obtain ⟨b, off, rfl, hbn, hcell⟩ := hc (by omega)
      obtain ⟨sv, hx, hsx, -⟩ := hcell i hlt
      obtain ⟨sa, sc, rfl, -⟩ := id hsx
      have hts := tot_step xss i hlt
      have htl : tot (xss.take (i + 1)) ≤ tot xss := tot_take xss (i + 1)
      have HT := hide hts
      have hneg : ¬ ((tot (xss.take i) : Int) + ((xss[i]?.getD []).length : Int) < 0) := by omega
      have hsm : tot (xss.take i) + (xss[i]?.getD []).length ≤ 1048576 := by omega
      clear hcell hc hsx hts htl
      generalize xss[i]?.getD [] = x at *
      generalize tot (xss.take i) = T at *
      go_wp2
      go_round
      case rel => exact ⟨i + 1, by omega, by go_num, by rw [unhide HT]; go_num⟩
      case measure => simp [intOf]; omega
    · obtain rfl : i = xss.length := by omega
      rw [List.take_length]
      go_wp2_with fail
      refine (grow_any (tot xss) _ hT).mono ?_
      rintro e w1 ⟨v1, rfl, hown1, hb1⟩
      have H1 := hide hown1
      obtain ⟨oa1, oc1, rfl⟩ := own_is hown1
      clear hown1
      go_wp2_with fail
      go_loopw [6, 27] (fun ov iv wr => ∃ i : Nat, i ≤ xss.length ∧ iv = .int .i64 i ∧ wr.ownsRow w.heap.size 3 1 ov (xss.take i).flatten.length ((xss.take i).flatten.map mI) ∧ Below w.heap.size w wr) (fun _ iv _ => xss.length - (intOf iv).toNat)
      case atStart => exact ⟨0, Nat.zero_le _, rfl, unhide H1, hb1⟩
      case round =>
        clear H1 hb1
        obtain ⟨i, hil, rfl, hown, hbw⟩ := hrel
        have hszr := hbw.size
        have Hown := hide hown
        obtain ⟨oa, oc, rfl⟩ := own_is hown
        clear hown
        by_cases hlt : i < xss.length
        · have hlt' : (i : Int) < (xss.length : Int) := by omega
          obtain ⟨_, _, e, -, hc⟩ := (unhide Hv).below hbw (Nat.le_refl _)
          cases e
          obtain ⟨b, off, rfl, hbn, hcell⟩ := hc (by omega)
          obtain ⟨sv, hx, hsx, -⟩ := hcell i hlt
          have HX := hide hsx
          obtain ⟨sa, sc, rfl, -⟩ := id hsx
          have hlen : (xss.take i).flatten.length + (xss[i]?.getD []).length ≤ 1048576 := by
            have h1 := tot_step xss i hlt
            have h2 := tot_take xss (i + 1)
            rw [tot_flat]
            omega
          have HN : Hid ((xss.take (i + 1)).flatten = (xss.take i).flatten ++ xss[i]?.getD []) := flat_next hlt
          clear hcell hc hsx
          generalize xss[i]?.getD [] = x at *
          generalize (xss.take i).flatten = os at *
          go_wp2_with (at_builtin; refine app_more rfl _ _ rfl w.heap.size _ rfl os (by exact unhide Hown) hszr _ rfl x (by exact unhide HX) hlen ?_; intro v3 w3 hb3 ho3 hoc3)
          have H3 := hide ho3
          obtain ⟨g3, cap3, rfl⟩ := own_is ho3
          clear ho3
          go_wp2
          go_roundw
          case rel => exact ⟨i + 1, by omega, by go_num, by rw [unhide HN]; exact unhide H3, hbw.trans hb3⟩
          case measure => simp [intOf]; omega
        · obtain rfl : i = xss.length := by omega
          rw [List.take_length] at *
          go_wp2
          go_ret
          exact ⟨_, rfl, unhide Hown, hbw⟩
theorem ssAt_two {w : World} {u v : Value} {a b : List Int} {t : TypeId} (hu : SlAt mI 0 0 w.heap.size w u a) (cu : CapOk u) (hv : SlAt mI 0 0 w.heap.size w v b) (cv : CapOk v) :
    SsAt mI 0 (w.alloc (.cells #[u, v] t)).heap.size (w.alloc (.cells #[u, v] t)) (.slice (some ⟨w.heap.size, 0, none⟩) 2 2) [a, b] := by
  have hB := below1 w (.cells #[u, v] t)
  refine ⟨_, 2, rfl, ⟨Nat.le_refl _, by unfold maxLen; omega⟩, fun _ => ⟨w.heap.size, 0, rfl, by rw [sz_alloc]; omega, fun i hi => ?_⟩⟩
  have hi' : i < 2 := hi
  have hn : (w.alloc (.cells #[u, v] t)).cell? ⟨w.heap.size, 0 + 0, none⟩ = some u ∧ (w.alloc (.cells #[u, v] t)).cell? ⟨w.heap.size, 0 + 1, none⟩ = some v := ⟨(pushd_alloc w (.cells #[u, v] t)).news 0 u rfl, (pushd_alloc w (.cells #[u, v] t)).news 1 v rfl⟩
  rcases (show i = 0 ∨ i = 1 by omega) with rfl | rfl
  · exact ⟨u, hn.1, hu.below hB (Nat.le_refl _), cu⟩
  · exact ⟨v, hn.2, hv.below hB (Nat.le_refl _), cv⟩
set_option maxHeartbeats 4000000 in
set_option maxRecDepth 100000 in
theorem joinSk_any (u v : Value) (a b : List Int) (w : World) (hu : SlAt mI 0 0 w.heap.size w u a) (cu : CapOk u) (hv : SlAt mI 0 0 w.heap.size w v b) (cv : CapOk v) (hl : a.length + b.length ≤ 1048576) :
    Calls Tryz.prog 105 #[u, v] w fun e w' => ∃ v', e = .returned v' ∧ w'.ownsRow w.heap.size 3 1 v' (jn2 a b).length ((jn2 a b).map mI) ∧ Below w.heap.size w w' := by
  have Hu := hide hu
  have Hv := hide hv
  have Cu := hide cu
  have Cv := hide cv
  obtain ⟨ua, uc, rfl, -, hcu⟩ := hu
  obtain ⟨va, vc, rfl, -, hcv⟩ := hv
  obtain ⟨cv1, cv2⟩ := cv.le
  unfold maxLen at cv2
  clear cu cv
  by_cases ga : 0 < a.length
  · have ga' : (0 : Int) < (a.length : Int) := by omega
    have gb' : (a.length : Int) - 1 < (a.length : Int) := by omega
    have gc' : (0 : Int) ≤ (a.length : Int) - 1 := by omega
    obtain ⟨ub, uo, rfl, -, -, hcell⟩ := hcu ga
    have hx : w.cell? ⟨ub, uo + (a.length - 1), none⟩ = some (.int .i64 (a[a.length - 1]?.getD 0)) := hcell _ (by omega)
    have hla := hide (last_at ga)
    clear hcell hcu
    generalize a[a.length - 1]?.getD 0 = x at *
    by_cases gb : 0 < b.length
    · have gbb' : (0 : Int) < (b.length : Int) := by omega
      obtain ⟨vb, vo, rfl, -, hvn, hcell⟩ := hcv gb
      have hy : w.cell? ⟨vb, vo, none⟩ = some (.int .i64 (b[0]?.getD 0)) := hcell 0 gb
      have hh := hide (head_at gb)
      have Hcell := hide hcell
      clear hcell hcv
      generalize b[0]?.getD 0 = y at *
      by_cases g1 : x = 256
      · subst g1
        by_cases g2 : y = 256
        · subst g2
          have HJ : Hid (jn2 a b = a ++ b.tail) := jn2_yes ⟨unhide hla, unhide hh⟩
          have htl : b.tail.length = b.length - 1 := List.length_tail
          by_cases hc1 : 1 < vc
          · have HV : Hid (SlAt mI 0 0 w.heap.size w (.slice (some ⟨vb, vo + 1, none⟩) (b.length - 1) (vc - 1)) b.tail) := by
              have := SlAt.drop (k := 1) (m := b.length - 1) (cap := vc - 1) (by omega) (by unfold maxLen; omega) (Nat.zero_le _) hvn (unhide Hcell)
              rwa [List.drop_one] at this
            have HC : Hid (CapOk (.slice (some ⟨vb, vo + 1, none⟩) (b.length - 1) (vc - 1))) := CapOk.mk (by omega) (by unfold maxLen; omega)
            go_enter Tryz.func105, Tryz.ntmps105
            go_wp2_with fail
            refine (concat_any _ [a, b.tail] _ (ssAt_two (unhide Hu) (unhide Cu) (unhide HV) (unhide HC)) (by simp [Go.Proofs.YtinhliecfjlocaaGreat.tot]; omega) (by simp)).mono ?_
            rintro e w1 ⟨v1, rfl, hown1, hb1⟩
            have hO : w1.ownsRow w.heap.size 3 1 v1 (jn2 a b).length ((jn2 a b).map mI) := by
              rw [unhide HJ]
              have h := own_low hown1 (b' := w.heap.size) (by rw [sz_alloc]; omega)
              have e : [a, b.tail].flatten = a ++ b.tail := by simp
              rw [e] at h
              exact h
            have HO := hide hO
            have hB : Below w.heap.size w w1 := (below1 w _).trans (hb1.mono (by rw [sz_alloc]; omega))
            obtain ⟨oa, oc, rfl⟩ := own_is hO
            clear hown1 hb1 hO HJ
            go_wp2
            go_ret
            exact ⟨_, rfl, unhide HO, hB⟩
          · obtain rfl : vc = 1 := by omega
            have htl0 : b.tail.length = 0 := by omega
            have HV : Hid (SlAt mI 0 0 w.heap.size w (.slice (some ⟨vb, vo, none⟩) 0 0) b.tail) := ⟨_, 0, by rw [htl0], by rw [htl0]; exact Nat.zero_le _, fun h => by rw [htl0] at h; omega⟩
            have HC : Hid (CapOk (.slice (some ⟨vb, vo, none⟩) 0 0)) := CapOk.mk (by omega) (by unfold maxLen; omega)
            clear htl htl0
            go_enter Tryz.func105, Tryz.ntmps105
            go_wp2_with fail
            refine (concat_any _ [a, b.tail] _ (ssAt_two (unhide Hu) (unhide Cu) (unhide HV) (unhide HC)) (by simp [Go.Proofs.YtinhliecfjlocaaGreat.tot]; omega) (by simp)).mono ?_
            rintro e w1 ⟨v1, rfl, hown1, hb1⟩
            have hO : w1.ownsRow w.heap.size 3 1 v1 (jn2 a b).length ((jn2 a b).map mI) := by
              rw [unhide HJ]
              have h := own_low hown1 (b' := w.heap.size) (by rw [sz_alloc]; omega)
              have e : [a, b.tail].flatten = a ++ b.tail := by simp
              rw [e] at h
              exact h
            have HO := hide hO
            have hB : Below w.heap.size w w1 := (below1 w _).trans (hb1.mono (by rw [sz_alloc]; omega))
            obtain ⟨oa, oc, rfl⟩ := own_is hO
            clear hown1 hb1 hO HJ
            go_wp2
            go_ret
            exact ⟨_, rfl, unhide HO, hB⟩
        · have g2' : (y == 256) = false := by simpa using g2
          have HJ : Hid (jn2 a b = a ++ b) := jn2_no (fun h => by rw [unhide hh] at h; exact g2 (by simpa using h.2))
          go_enter Tryz.func105, Tryz.ntmps105
          go_wp2_with fail
          refine (concat_any _ [a, b] _ (ssAt_two (unhide Hu) (unhide Cu) (unhide Hv) (unhide Cv)) (by simp [Go.Proofs.YtinhliecfjlocaaGreat.tot]; omega) (by simp)).mono ?_
          rintro e w1 ⟨v1, rfl, hown1, hb1⟩
          have hO : w1.ownsRow w.heap.size 3 1 v1 (jn2 a b).length ((jn2 a b).map mI) := by
            rw [unhide HJ]
            have h := own_low hown1 (b' := w.heap.size) (by rw [sz_alloc]; omega)
            have e : [a, b].flatten = a ++ b := by simp
            rw [e] at h
            exact h
          have HO := hide hO
          have hB : Below w.heap.size w w1 := (below1 w _).trans (hb1.mono (by rw [sz_alloc]; omega))
          obtain ⟨oa, oc, rfl⟩ := own_is hO
          clear hown1 hb1 hO HJ
          go_wp2
          go_ret
          exact ⟨_, rfl, unhide HO, hB⟩
      · have g1' : (x == 256) = false := by simpa using g1
        have HJ : Hid (jn2 a b = a ++ b) := jn2_no (fun h => by rw [unhide hla] at h; exact g1 (by simpa using h.1))
        go_enter Tryz.func105, Tryz.ntmps105
        go_wp2_with fail
        refine (concat_any _ [a, b] _ (ssAt_two (unhide Hu) (unhide Cu) (unhide Hv) (unhide Cv)) (by simp [Go.Proofs.YtinhliecfjlocaaGreat.tot]; omega) (by simp)).mono ?_
        rintro e w1 ⟨v1, rfl, hown1, hb1⟩
        have hO : w1.ownsRow w.heap.size 3 1 v1 (jn2 a b).length ((jn2 a b).map mI) := by
          rw [unhide HJ]
          have h := own_low hown1 (b' := w.heap.size) (by rw [sz_alloc]; omega)
          have e : [a, b].flatten = a ++ b := by simp
          rw [e] at h
          exact h
        have HO := hide hO
        have hB : Below w.heap.size w w1 := (below1 w _).trans (hb1.mono (by rw [sz_alloc]; omega))
        obtain ⟨oa, oc, rfl⟩ := own_is hO
        clear hown1 hb1 hO HJ
        go_wp2
        go_ret
        exact ⟨_, rfl, unhide HO, hB⟩
    · have gbb' : ¬ (0 : Int) < (b.length : Int) := by omega
      have gbd : decide (0 < b.length) = false := decide_eq_false gb
      have HJ : Hid (jn2 a b = a ++ b) := jn2_no (fun h => by rw [List.eq_nil_of_length_eq_zero (show b.length = 0 by omega)] at h; simp at h)
      go_enter Tryz.func105, Tryz.ntmps105
      go_wp2_with fail
      refine (concat_any _ [a, b] _ (ssAt_two (unhide Hu) (unhide Cu) (unhide Hv) (unhide Cv)) (by simp [Go.Proofs.YtinhliecfjlocaaGreat.tot]; omega) (by simp)).mono ?_
      rintro e w1 ⟨v1, rfl, hown1, hb1⟩
      have hO : w1.ownsRow w.heap.size 3 1 v1 (jn2 a b).length ((jn2 a b).map mI) := by
        rw [unhide HJ]
        have h := own_low hown1 (b' := w.heap.size) (by rw [sz_alloc]; omega)
        have e : [a, b].flatten = a ++ b := by simp
        rw [e] at h
        exact h
      have HO := hide hO
      have hB : Below w.heap.size w w1 := (below1 w _).trans (hb1.mono (by rw [sz_alloc]; omega))
      obtain ⟨oa, oc, rfl⟩ := own_is hO
      clear hown1 hb1 hO HJ
      go_wp2
      go_ret
      exact ⟨_, rfl, unhide HO, hB⟩
  · have ga' : ¬ (0 : Int) < (a.length : Int) := by omega
    have gad : decide (0 < a.length) = false := decide_eq_false ga
    have HJ : Hid (jn2 a b = a ++ b) := jn2_no (fun h => by rw [List.eq_nil_of_length_eq_zero (show a.length = 0 by omega)] at h; simp at h)
    go_enter Tryz.func105, Tryz.ntmps105
    go_wp2_with fail
    refine (concat_any _ [a, b] _ (ssAt_two (unhide Hu) (unhide Cu) (unhide Hv) (unhide Cv)) (by simp [Go.Proofs.YtinhliecfjlocaaGreat.tot]; omega) (by simp)).mono ?_
    rintro e w1 ⟨v1, rfl, hown1, hb1⟩
    have hO : w1.ownsRow w.heap.size 3 1 v1 (jn2 a b).length ((jn2 a b).map mI) := by
      rw [unhide HJ]
      have h := own_low hown1 (b' := w.heap.size) (by rw [sz_alloc]; omega)
      have e : [a, b].flatten = a ++ b := by simp
      rw [e] at h
      exact h
    have HO := hide hO
    have hB : Below w.heap.size w w1 := (below1 w _).trans (hb1.mono (by rw [sz_alloc]; omega))
    obtain ⟨oa, oc, rfl⟩ := own_is hO
    clear hown1 hb1 hO HJ
    go_wp2
    go_ret
    exact ⟨_, rfl, unhide HO, hB⟩
structure But (g : Nat) (w w' : World) : Prop where
  os : w'.os = w.os
  tape : w'.tape = w.tape
  output : w'.output = w.output
  size : w'.heap.size = w.heap.size
  block : ∀ k, k ≠ g → w'.heap[k]? = w.heap[k]?
theorem But.trans {g : Nat} {a b c : World} (h : But g a b) (k : But g b c) : But g a c := ⟨k.os.trans h.os, k.tape.trans h.tape, k.output.trans h.output, k.size.trans h.size, fun i hi => (k.block i hi).trans (h.block i hi)⟩
theorem but_setRow {w : World} {g : Nat} (cs : Array Value) : But g w (w.setRow g cs) := ⟨rfl, rfl, rfl, by simp [World.setRow], fun k hk => setRow_other w g k cs hk⟩
theorem step_copy1 {P : Program} {ops : Array Oper} {o : Oper} {a : Act} {w : World} {K : Act → World → Prop} {Q : Exit → Act → World → Prop} {E : Prop} (hgd : o.guard = none) (d s : Operand) (dT sT : TypeId)
    (ho : o.op = .call { callee := .builtin .copy, args := #[d, s], argTypes := #[dT, sT] }) (elem : TypeId) (hu : P.underlying dT = some (.slice elem)) (hsz : (P.info? elem).map (·.size) = some 1)
    (g off dLen dCap : Nat) (ad : Addr) (sLen sCap : Nat) (hd : a.eval d = .slice (some ⟨g, off, none⟩) dLen dCap) (hs : a.eval s = .slice (some ad) sLen sCap)
    (cur : List Value) (t : TypeId) (hg : w.heap[g]? = some (.cells cur.toArray t (0, 0))) (cs : List Value) (hn : cs.length = Nat.min sLen dLen) (hsrc : ∀ j v, cs[j]? = some v → w.cell? (ad.add j) = some v) (hfit : off + cs.length ≤ cur.length) (h1 : ∀ v ∈ cs, v.oneCell' = true)
    (h : ∀ w', w'.heap[g]? = some (.cells (splice cur off cs).toArray t (0, 0)) → But g w w' → K (a.put o.dst (goInt cs.length)) w') :
    if Region.wanted o (yielded ops a.tmps) = true then Oper.wp P o a w K Q else E := by
  have hw : Region.wanted o (yielded ops a.tmps) = true := by simp [Region.wanted, hgd]
  rw [if_pos hw]
  have hrun := run_copy_row (P := P) w dT sT o.type elem g off dLen dCap ad sLen sCap cur.toArray t cs hu hsz hg hn hsrc (by simpa using hfit) h1
  unfold Oper.wp
  simp [execOp, ho, resolve, invoke, builtin, hd, hs, hrun, Result.andThen]
  exact h _ (by simpa [splice] using setRow_heap w g _ _ t _ hg) (but_setRow _)
theorem copy_row {P : Program} (w : World) (dT sT elem : TypeId) (hu : P.underlying dT = some (.slice elem)) (hsz : (P.info? elem).map (·.size) = some 1) (g off dLen dCap : Nat) (ad : Addr) (sLen sCap : Nat) (cur : List Value) (t : TypeId) (hg : w.heap[g]? = some (.cells cur.toArray t (0, 0))) (cs : List Value) (hn : cs.length = Nat.min sLen dLen) (hsrc : ∀ j v, cs[j]? = some v → w.cell? (ad.add j) = some v) (hfit : off + cs.length ≤ cur.length) (h1 : ∀ v ∈ cs, v.oneCell' = true) :
    ∃ w' : World, (∀ ty, (Builtin.copy_ #[dT, sT] ty #[.slice (some ⟨g, off, none⟩) dLen dCap, .slice (some ad) sLen sCap]).run P w = .ok (goInt cs.length) w') ∧ w'.heap[g]? = some (.cells (splice cur off cs).toArray t (0, 0)) ∧ But g w w' :=
  ⟨_, fun ty => run_copy_row (P := P) w dT sT ty elem g off dLen dCap ad sLen sCap cur.toArray t cs hu hsz hg hn hsrc (by simpa using hfit) h1, by simpa [splice] using setRow_heap w g _ _ t _ hg, but_setRow _⟩
theorem splice_ins (vs R : List Value) (x : Value) (i : Nat) (hi : i ≤ vs.length) (hR : 0 < R.length) : splice (splice (vs ++ R) (i + 1) (vs.drop i)) i [x] = (vs.take i ++ x :: vs.drop i) ++ R.drop 1 := by
  have e1 : splice (vs ++ R) (i + 1) (vs.drop i) = (vs ++ R).take (i + 1) ++ (vs.drop i ++ R.drop 1) := by
    unfold splice
    congr 2
    rw [List.length_drop, List.drop_append, List.drop_eq_nil_of_le (by omega), List.nil_append]
    congr 1
    omega
  rw [e1]
  have hl : ((vs ++ R).take (i + 1)).length = i + 1 := by rw [List.length_take, List.length_append]; omega
  unfold splice
  rw [List.take_append_of_le_length (by omega), List.take_take, Nat.min_eq_left (by omega), List.take_append_of_le_length hi, List.length_singleton, List.drop_append, hl, Nat.sub_self, List.drop_zero, List.drop_eq_nil_of_le (by omega), List.nil_append]
  simp
def InsR (e : Ending) (base n : Nat) (w w' : World) (sv : Value) (L : List Value) : Prop := ∃ v', e = .returned v' ∧ w'.ownsRow base 34 1 v' (n + 1) L ∧ w.grownBy w' sv.ownBlock ∧ (v'.ownBlock = sv.ownBlock ∨ ∃ k, w.heap.size ≤ k ∧ v'.ownBlock = some k)
set_option maxHeartbeats 8000000 in
set_option maxRecDepth 100000 in
theorem insert_end (base n AD : Nat) (sv x : Value) (vs : List Value) (w : World) (hown : w.ownsRow base 34 1 sv n vs) (hn : n ≤ 1000) (hbase : base ≤ w.heap.size) (hA : w.heap[AD]? = some (.cells #[x] 34 (0, 0))) (hx1 : x.oneCell' = true) :
    Calls Tryz.prog 103 #[sv, .int .i64 n, .slice (some ⟨AD, 0, none⟩) 1 1] w fun e w' => InsR e base n w w' sv (vs ++ [x]) := by
  obtain ⟨j0, hj, hy0, hy1, hy2⟩ := info_parts Tryz.zinIntS
  have HO := hide hown
  have hnew : ∀ j u, [x][j]? = some u → w.cell? ((⟨AD, 0, none⟩ : Addr).add j) = some u := World.news_of_block hA
  have HN := hide hnew
  obtain ⟨sa, sc, rfl⟩ := own_is hown
  have hcap : n ≤ sc ∧ sc ≤ 9223372036854775807 := by have := (own_cap hown).le; unfold maxLen at this; omega
  clear hown hnew
  go_enter Tryz.func103, Tryz.ntmps103
  go_wp2_with (at_builtin; refine wpList_append_own_at _ rfl _ _ 29 rfl base 34 j0 (.slice none 0 0) 1 24 Tryz.underlying29 hj hy0 hy1 hy2 rfl (by decide) (.slice sa n sc) n vs rfl (unhide HO) ⟨AD, 0, none⟩ 1 1 [x] rfl rfl (unhide HN) (by intro u hu; simp at hu; subst hu; exact hx1) (by unfold maxLen; omega) (by omega) hbase ?_)
  all_goals
    intro v' w' q1 q2 _ q3
    have hob : ∀ c, (Value.slice sa n c).ownBlock = (Value.slice sa n sc).ownBlock := fun c => by cases sa <;> rfl
    rw [hob] at q2 q3
    have hR : InsR (.returned v') base n w w' (.slice sa n sc) (vs ++ [x]) := ⟨v', rfl, q1, q2, q3.imp id (fun e => ⟨_, Nat.le_refl _, e⟩)⟩
    have HR := hide hR
    obtain ⟨g', c', rfl⟩ := ownsRow_succ q1
    clear hR q1 q2 q3
    go_wp2
    go_ret
    exact unhide HR
theorem overlaps_no (AD g off lb cb : Nat) (x : Value) (C : Array Value) (w : World) (hA : w.heap[AD]? = some (.cells #[x] 34 (0, 0))) (hg : w.heap[g]? = some (.cells C 34 (0, 0))) (hC : C.size ≠ 0) (hne : AD ≠ g) :
    (callFunc 134 #[.slice (some ⟨AD, 0, none⟩) 1 1, .slice (some ⟨g, off, none⟩) lb cb]).run Tryz.prog w = .ok (.value (.bool false)) w := by
  obtain ⟨j0, hj, hy0, hy1, hy2⟩ := info_parts Tryz.zinIntS
  rw [run_callFunc_extern Tryz.func134 (by kernel_rfl) (by kernel_rfl) (by kernel_rfl) (e := Extern.SlicesOverlaps.overlaps #[29, 29] #[4]) (by kernel_rfl),
    Lib.run_overlaps_apart w 29 4 34 Tryz.underlying29 1 (fun w => by simp [Go.sizeOf, typeInfo, hj, hy1]) ⟨AD, 0, none⟩ ⟨g, off, none⟩ 1 1 lb cb hne 34 34 1 C.size (by simp [World.shape?, hA]) (by simp [World.shape?, hg]) hC (frz ⟨_, _, hA⟩) (frz ⟨_, _, hA⟩)]
  rfl
set_option maxHeartbeats 8000000 in
set_option maxRecDepth 100000 in
theorem insert_room (base n i cap g AD : Nat) (x : Value) (vs R : List Value) (w : World) (hvl : vs.length = n) (hbg : base ≤ g) (hg : w.heap[g]? = some (.cells (vs ++ R).toArray 34 (0, 0))) (hsz : (vs ++ R).length = cap) (hcm : cap ≤ maxLen) (hi : i < n) (hroom : n + 1 ≤ cap) (hn : n ≤ 1000) (hA : w.heap[AD]? = some (.cells #[x] 34 (0, 0))) (hAg : AD ≠ g) (h1 : ∀ v ∈ vs, v.oneCell' = true) (hx1 : x.oneCell' = true) :
    Calls Tryz.prog 103 #[.slice (some ⟨g, 0, none⟩) n cap, .int .i64 i, .slice (some ⟨AD, 0, none⟩) 1 1] w fun e w' => InsR e base n w w' (.slice (some ⟨g, 0, none⟩) n cap) (vs.take i ++ x :: vs.drop i) := by
  obtain ⟨j0, hj, hy0, hy1, hy2⟩ := info_parts Tryz.zinIntS
  have hs1 : (Tryz.prog.info? 34).map (·.size) = some 1 := by rw [hj]; simp [hy1]
  have hov : ∀ off lb cb, (callFunc 134 #[.slice (some ⟨AD, 0, none⟩) 1 1, .slice (some ⟨g, off, none⟩) lb cb]).run Tryz.prog w = .ok (.value (.bool false)) w := fun off lb cb => overlaps_no AD g off lb cb x (vs ++ R).toArray w hA hg (by rw [List.size_toArray, hsz]; omega) hAg
  have hgz : g < w.heap.size := (Array.getElem?_eq_some_iff.1 hg).1
  have hdl : (vs.drop i).length = n - i := by rw [List.length_drop, hvl]
  have HRl : Hid (0 < R.length) := by show 0 < R.length; rw [List.length_append, hvl] at hsz; omega
  obtain ⟨X, hX⟩ : ∃ X, vs.drop i = X := ⟨_, rfl⟩
  obtain ⟨L, hL⟩ : ∃ L, vs ++ R = L := ⟨_, rfl⟩
  have hsrc0 : ∀ j v, X[j]? = some v → w.cell? ((⟨g, i, none⟩ : Addr).add j) = some v := fun j v hv => by
    have e3 : (⟨g, i, none⟩ : Addr).add j = ⟨g, i + j, none⟩ := by cases j <;> rfl
    rw [← hX, List.getElem?_drop] at hv
    have hlt := (List.getElem?_eq_some_iff.1 hv).1
    have e4 : w.cell? ⟨g, i + j, none⟩ = (vs ++ R)[i + j]? := by simp [World.cell?, hg]
    rw [e3, e4, List.getElem?_append_left hlt]
    exact hv
  have hX1 : ∀ v ∈ X, v.oneCell' = true := fun v hv => h1 v (List.mem_of_mem_drop (by rw [hX]; exact hv))
  have hfin := splice_ins vs R x i (by omega) (unhide HRl)
  rw [hX, hL] at hfin
  rw [hX] at hdl
  have HFIN : Hid (∀ w', w'.heap[g]? = some (.cells (splice (splice L (i + 1) X) i [x]).toArray 34 (0, 0)) → But g w w' → InsR (.returned (.slice (some ⟨g, 0, none⟩) (n + 1) cap)) base n w w' (.slice (some ⟨g, 0, none⟩) n cap) (vs.take i ++ x :: X)) := fun w' q1 q2 => by
    refine ⟨_, rfl, ⟨by simp [hdl]; omega, Or.inr ⟨g, cap, _, rfl, hbg, q1, hroom, hcm, ?_, ?_⟩⟩, ⟨q2.os, q2.tape, q2.output, Nat.le_of_eq q2.size.symm, fun k _ hk => q2.block k (fun e => hk (by rw [e]; rfl))⟩, Or.inl rfl⟩
    · rw [hfin, List.size_toArray, Nat.mul_one, List.length_append, List.length_append, List.length_cons, List.length_take, List.length_drop, hdl]
      rw [List.length_append] at hsz
      have := unhide HRl
      omega
    · rw [hfin, Nat.mul_one]
      have hl : (vs.take i ++ x :: X).length = n + 1 := by simp [hdl]; omega
      show List.take (n + 1) ((vs.take i ++ x :: X) ++ R.drop 1) = _
      rw [← hl]
      exact List.take_left
  rw [hL] at hg hsz
  rw [hX]
  have HG := hide hg
  have HA := hide hA
  have HSZ := hide hsz
  have HDL := hide hdl
  have HX1 := hide hX1
  have HS0 := hide hsrc0
  have hcm' : cap ≤ 9223372036854775807 := by unfold maxLen at hcm; exact hcm
  have hiI : (i : Int) ≤ (n : Int) := by omega
  have hne : ((i : Int) == (n : Int)) = false := by rw [beq_eq_false_iff_ne]; omega
  have hle : ¬ (cap : Int) < (n : Int) + 1 := by omega
  have hw1 : IntKind.i64.wrap ((i : Int) + 1) = (i : Int) + 1 := k64i (by omega) (by omega)
  have hw2 : (0 : Int) ≤ (i : Int) + 1 := by omega
  have hw3 : (i : Int) + 1 ≤ (n : Int) + 1 := by omega
  have hw4 : ((i : Int) + 1).toNat = i + 1 := by omega
  have hw5 : (i : Int) ≤ (n : Int) + 1 := by omega
  have hc1 : ¬ cap = i + 1 := by omega
  have hc2 : ¬ cap = i := by omega
  clear hg hA h1 hvl hsz hdl hcm hX hL hfin hX1 hsrc0
  go_enter Tryz.func103, Tryz.ntmps103
  go_wp2_with (simp only [hov])
  go_region_law (refine step_copy1 rfl (.tmp 73) (.tmp 76) 29 29 rfl 34 Tryz.underlying29 hs1 g (i + 1) (n + 1 - (i + 1)) (cap - (i + 1)) ⟨g, i, none⟩ (n + 1 - i) (cap - i) (by first | (simp [Act.eval]; done) | (simp [Act.eval, Act.put]; done)) (by first | (simp [Act.eval]; done) | (simp [Act.eval, Act.put]; done)) L 34 (by exact unhide HG) X (by rw [unhide HDL]; simp only [Nat.min_def]; split <;> omega) (by exact unhide HS0) (by rw [unhide HSZ, unhide HDL]; omega) (unhide HX1) ?_; intro w1 hg1 hb1; have hb1' : But g w w1 := ⟨hb1.os, hb1.tape, hb1.output, hb1.size, hb1.block⟩; have HG1 := hide hg1; have hA1 := hide (show w1.heap[AD]? = some (.cells #[x] 34 (0, 0)) from (hb1'.block AD hAg).trans (unhide HA)); clear hg1 hb1)
  all_goals
    have hl1 : (splice L (i + 1) X).length = cap := by rw [length_splice L (i + 1) X (by rw [unhide HSZ, unhide HDL]; omega)]; exact unhide HSZ
    have HL1 := hide hl1
    clear hl1
    obtain ⟨w2, hcp, hg2, hb2⟩ : ∃ w2 : World, (∀ ty, Sem.run Tryz.prog (Builtin.copy_ #[29, 29] ty #[.slice (some ⟨g, i, none⟩) (n + 1 - i) (cap - i), .slice (some ⟨AD, 0, none⟩) 1 1]) w1 = .ok (goInt 1) w2) ∧ w2.heap[g]? = some (.cells (splice (splice L (i + 1) X) i [x]).toArray 34 (0, 0)) ∧ But g w1 w2 :=
      copy_row w1 29 29 34 Tryz.underlying29 hs1 g i (n + 1 - i) (cap - i) ⟨AD, 0, none⟩ 1 1 (splice L (i + 1) X) 34 (unhide HG1) [x] (by simp only [Nat.min_def, List.length_singleton]; split <;> omega) (World.news_of_block (unhide hA1)) (by rw [unhide HL1, List.length_singleton]; omega) (by intro u hu; simp at hu; subst hu; exact hx1)
    have hb2' : But g w w2 := hb1'.trans ⟨hb2.os, hb2.tape, hb2.output, hb2.size, hb2.block⟩
    have HR := hide (unhide HFIN w2 hg2 hb2')
    clear hg2 hb2
    go_wp2
    go_ret
    exact unhide HR
theorem grow_zeros (n i cap g : Nat) (vs : List Value) (w : World) (hvl : vs.length = n) (hcell : ∀ j v, vs[j]? = some v → w.cell? ⟨g, j, none⟩ = some v) (hi : i < n) (hfull : cap < n + 1) (hn : n ≤ 1000) :
    ∃ (W1 : World) (G : Nat) (ROW : List Value), (∀ ty, (Builtin.append_ #[29, 3] ty #[.slice (some ⟨g, 0, none⟩) i cap, .int .i64 ((n : Int) + 1 - (i : Int))]).run Tryz.prog w = .ok (.slice (some ⟨w.heap.size, 0, none⟩) (n + 1) G) W1) ∧ W1.heap[w.heap.size]? = some (.cells ROW.toArray 34 (0, 0)) ∧ ROW.length = G ∧ ROW.take i = vs.take i ∧ (n + 1 ≤ G ∧ G ≤ maxLen) ∧ W1.heap.size = w.heap.size + 1 ∧ Below w.heap.size w W1 := by
  obtain ⟨j0, hj, hy0, hy1, hy2⟩ := info_parts Tryz.zinIntS
  have hold : (Builtin.firstCells j0.size i (.slice (some ⟨g, 0, none⟩) i cap)).run Tryz.prog w.drew = .ok (vs.take i).toArray w.drew := by
    rw [hy1]
    refine run_firstCells_some w.drew 1 i ⟨g, 0, none⟩ i cap (vs.take i) (by rw [List.length_take]; omega) (fun j v hv => ?_)
    rw [List.getElem?_take] at hv
    split at hv
    · have e3 : (⟨g, 0, none⟩ : Addr).add j = ⟨g, j, none⟩ := by cases j <;> simp [Addr.add]
      rw [e3]
      exact hcell j v hv
    · cases hv
  have hik : i + (n + 1 - i) = n + 1 := by omega
  have hkk : (n : Int) + 1 - (i : Int) = ((n + 1 - i : Nat) : Int) := by omega
  have hrun := fun ty => Lib.run_append_grow_zeros (P := Tryz.prog) w 29 3 ty 34 j0 (.slice none 0 0) .i64 .i64 Tryz.underlying29 Tryz.underlying3 hj hy0 (some ⟨g, 0, none⟩) i cap (vs.take i) hold (n + 1 - i) (by omega) (by rw [hy1]; decide) (by omega) (by omega) (by rw [hy2]; omega) (by rw [hy2, hik]; exact growslice_fits (by omega) (by omega))
  have hge := grownCap_ge w (n + 1) cap 34
  have hle := grownCap_le_maxLen w (n + 1) cap 34 (by unfold maxLen; omega)
  rw [hik] at hrun
  refine ⟨_, _, (vs.take i ++ List.replicate (n + 1 - i) (.slice none 0 0)) ++ List.replicate (grownCap w (n + 1) cap 34 - (n + 1)) (.slice none 0 0), fun ty => by rw [hkk]; exact hrun ty, ?_, ?_, ?_, ⟨hge, hle⟩, by rw [sz_alloc]; rfl, ?_⟩
  · have hz : ∀ k, Builtin.zeroCells (Value.slice none 0 0).cells k = (List.replicate k (Value.slice none 0 0)).toArray := fun k => by
      apply Array.ext
      · simp [Builtin.zeroCells, Value.cells]
      · intro t t1 t2
        simp [Builtin.zeroCells, Value.cells, Nat.mod_one]
    rw [hz, hz]
    show ((w.drew).heap.push _)[w.heap.size]? = _
    rw [Array.getElem?_push, if_pos (by rfl)]
    simp
  · simp
    omega
  · rw [List.append_assoc, List.take_append_of_le_length (by rw [List.length_take]; omega), List.take_take, Nat.min_self]
  · exact (below1 w.drew _).mono (Nat.le_refl _) |>.trans (Below.refl _ _) |> fun h => ⟨h.os, h.tape, h.output, h.size, h.block⟩
theorem splice_grow (vs ROW : List Value) (x : Value) (n i : Nat) (hvl : vs.length = n) (hi : i < n) (hR : n + 1 ≤ ROW.length) (ht : ROW.take i = vs.take i) : (splice (splice ROW i [x]) (i + 1) (vs.drop i)).take (n + 1) = vs.take i ++ x :: vs.drop i ∧ (splice (splice ROW i [x]) (i + 1) (vs.drop i)).length = ROW.length := by
  have l1 : (splice ROW i [x]).length = ROW.length := length_splice ROW i [x] (by rw [List.length_singleton]; omega)
  have hd : (vs.drop i).length = n - i := by rw [List.length_drop, hvl]
  refine ⟨?_, by rw [length_splice _ _ _ (by rw [l1, hd]; omega), l1]⟩
  have e1 : (splice ROW i [x]).take (i + 1) = vs.take i ++ [x] := by
    unfold splice
    rw [ht, ← List.append_assoc]
    have : (vs.take i ++ [x]).length = i + 1 := by rw [List.length_append, List.length_take, List.length_singleton]; omega
    rw [← this]
    exact List.take_left
  have e2 : splice (splice ROW i [x]) (i + 1) (vs.drop i) = (vs.take i ++ x :: vs.drop i) ++ (splice ROW i [x]).drop (i + 1 + (vs.drop i).length) := by
    conv => lhs; unfold splice
    rw [show (List.take i ROW ++ ([x] ++ List.drop (i + [x].length) ROW)) = splice ROW i [x] from rfl, e1]
    simp
  rw [e2]
  have hl : (vs.take i ++ x :: vs.drop i).length = n + 1 := by rw [List.length_append, List.length_cons, List.length_take, hd]; omega
  rw [← hl]
  exact List.take_left
set_option maxHeartbeats 8000000 in
set_option maxRecDepth 100000 in
theorem insert_full (base n i cap g AD : Nat) (x : Value) (vs : List Value) (w : World) (hbase : base ≤ w.heap.size) (hvl : vs.length = n) (hcell : ∀ j v, vs[j]? = some v → w.cell? ⟨g, j, none⟩ = some v) (hgz : g < w.heap.size) (hnc : n ≤ cap) (hi : i < n) (hfull : cap < n + 1) (hn : n ≤ 1000) (hA : w.heap[AD]? = some (.cells #[x] 34 (0, 0))) (h1 : ∀ v ∈ vs, v.oneCell' = true) (hx1 : x.oneCell' = true) :
    Calls Tryz.prog 103 #[.slice (some ⟨g, 0, none⟩) n cap, .int .i64 i, .slice (some ⟨AD, 0, none⟩) 1 1] w fun e w' => InsR e base n w w' (.slice (some ⟨g, 0, none⟩) n cap) (vs.take i ++ x :: vs.drop i) := by
  obtain ⟨j0, hj, hy0, hy1, hy2⟩ := info_parts Tryz.zinIntS
  have hs1 : (Tryz.prog.info? 34).map (·.size) = some 1 := by rw [hj]; simp [hy1]
  obtain ⟨W1, G, ROW, hrz, hg1, hRl, hRt, ⟨hGn, hGm⟩, hzW, hbW⟩ := grow_zeros n i cap g vs w hvl hcell hi hfull hn
  have hAz : AD < w.heap.size := (Array.getElem?_eq_some_iff.1 hA).1
  have hdl : (vs.drop i).length = n - i := by rw [List.length_drop, hvl]
  have hfin := splice_grow vs ROW x n i hvl hi (by omega) hRt
  have l1 : (splice ROW i [x]).length = G := by rw [length_splice ROW i [x] (by rw [List.length_singleton]; omega), hRl]
  obtain ⟨W2, hcp, hg2, hb2⟩ := copy_row (P := Tryz.prog) W1 29 29 34 Tryz.underlying29 hs1 w.heap.size i (n + 1 - i) (G - i) ⟨AD, 0, none⟩ 1 1 ROW 34 hg1 [x] (by simp only [Nat.min_def, List.length_singleton]; split <;> omega) (World.news_of_block (by rw [hbW.block AD hAz]; exact hA)) (by rw [hRl, List.length_singleton]; omega) (by intro u hu; simp at hu; subst hu; exact hx1)
  obtain ⟨X, hX⟩ : ∃ X, vs.drop i = X := ⟨_, rfl⟩
  have hsrc : ∀ W : World, W.heap[g]? = w.heap[g]? → ∀ j v, X[j]? = some v → W.cell? ((⟨g, i, none⟩ : Addr).add j) = some v := fun W hW j v hv => by
    have e3 : (⟨g, i, none⟩ : Addr).add j = ⟨g, i + j, none⟩ := by cases j <;> rfl
    rw [← hX, List.getElem?_drop] at hv
    rw [e3, World.cell?_of_block (w := w) (a := ⟨g, i + j, none⟩) hW]
    exact hcell (i + j) v hv
  have HS0 := hide (hsrc W2 (by rw [hb2.block g (by omega), hbW.block g hgz]))
  have HX1 : Hid (∀ v ∈ X, v.oneCell' = true) := fun v hv => h1 v (List.mem_of_mem_drop (by rw [hX]; exact hv))
  rw [hX] at hfin hdl ⊢
  have HFIN : Hid (∀ w', w'.heap[w.heap.size]? = some (.cells (splice (splice ROW i [x]) (i + 1) X).toArray 34 (0, 0)) → But w.heap.size W2 w' → InsR (.returned (.slice (some ⟨w.heap.size, 0, none⟩) (n + 1) G)) base n w w' (.slice (some ⟨g, 0, none⟩) n cap) (vs.take i ++ x :: X)) := fun w' q1 q2 => by
    refine ⟨_, rfl, ⟨by simp [hdl]; omega, Or.inr ⟨w.heap.size, G, _, rfl, hbase, q1, hGn, hGm, ?_, ?_⟩⟩, ⟨q2.os.trans (hb2.os.trans hbW.os), q2.tape.trans (hb2.tape.trans hbW.tape), q2.output.trans (hb2.output.trans hbW.output), by rw [q2.size, hb2.size]; omega, fun k k1 _ => ?_⟩, Or.inr ⟨_, Nat.le_refl _, rfl⟩⟩
    · rw [List.size_toArray, hfin.2, hRl, Nat.mul_one]
    · rw [Nat.mul_one]
      exact hfin.1
    · rw [q2.block k (by omega), hb2.block k (by omega), hbW.block k k1]
  have HG2 := hide hg2
  have HL1 := hide l1
  have HDL := hide hdl
  have hcm' : G ≤ 9223372036854775807 := by unfold maxLen at hGm; exact hGm
  have hiI : (i : Int) ≤ (n : Int) := by omega
  have hne : ((i : Int) == (n : Int)) = false := by rw [beq_eq_false_iff_ne]; omega
  have hle : (cap : Int) < (n : Int) + 1 := by omega
  have hw1 : IntKind.i64.wrap ((i : Int) + 1) = (i : Int) + 1 := k64i (by omega) (by omega)
  have hw2 : (0 : Int) ≤ (i : Int) + 1 := by omega
  have hw3 : (i : Int) + 1 ≤ (n : Int) + 1 := by omega
  have hw4 : ((i : Int) + 1).toNat = i + 1 := by omega
  have hw5 : (i : Int) ≤ (n : Int) + 1 := by omega
  have hc1 : ¬ G = i + 1 := by omega
  have hc2 : ¬ G = i := by omega
  have hc3 : ¬ cap = i := by omega
  have hiC : (i : Int) ≤ (cap : Int) := by omega
  clear hX hfin hdl l1 hg1 hRl hRt hzW hb2 hg2 hA h1 hvl hcell hsrc
  go_enter Tryz.func103, Tryz.ntmps103
  go_wp2_with (at_builtin; refine Lib.wpList_append_run _ rfl _ _ _ _ rfl _ _ rfl rfl _ _ (hrz _) ?_)
  go_region_law (refine step_copy1 rfl (.tmp 50) (.tmp 53) 29 29 rfl 34 Tryz.underlying29 hs1 w.heap.size (i + 1) (n + 1 - (i + 1)) (G - (i + 1)) ⟨g, i, none⟩ (n - i) (cap - i) (by first | (simp [Act.eval]; done) | (simp [Act.eval, Act.put]; done)) (by first | (simp [Act.eval]; done) | (simp [Act.eval, Act.put]; done)) (splice ROW i [x]) 34 (by exact unhide HG2) X (by rw [unhide HDL]; simp only [Nat.min_def]; split <;> omega) (by exact unhide HS0) (by rw [unhide HL1, unhide HDL]; omega) (unhide HX1) ?_; intro w3 hg3 hb3; have hb3' : But w.heap.size W2 w3 := ⟨hb3.os, hb3.tape, hb3.output, hb3.size, hb3.block⟩; have HR := hide (unhide HFIN w3 hg3 hb3'); clear hg3 hb3)
  all_goals
    go_wp2
    go_ret
    exact unhide HR
theorem insert_any (base n i AD : Nat) (sv x : Value) (vs : List Value) (w : World) (hown : w.ownsRow base 34 1 sv n vs) (hi : i ≤ n) (hn : n ≤ 1000) (hbase : base ≤ w.heap.size) (hA : w.heap[AD]? = some (.cells #[x] 34 (0, 0))) (hAg : sv.ownBlock ≠ some AD) (h1 : ∀ v ∈ vs, v.oneCell' = true) (hx1 : x.oneCell' = true) :
    Calls Tryz.prog 103 #[sv, .int .i64 i, .slice (some ⟨AD, 0, none⟩) 1 1] w fun e w' => InsR e base n w w' sv (vs.take i ++ x :: vs.drop i) := by
  have hvl := hown.1
  rw [Nat.mul_one] at hvl
  by_cases hin : i = n
  · subst hin
    have e : vs.take i ++ x :: vs.drop i = vs ++ [x] := by rw [List.take_of_length_le (by omega), List.drop_eq_nil_of_le (by omega)]
    rw [e]
    exact insert_end base i AD sv x vs w hown hn hbase hA hx1
  · rcases hown.2 with ⟨rfl, hz⟩ | ⟨g, cap, cur, rfl, hbg, hg, hnc, hcm, hcs, htake⟩
    · omega
    · rw [Nat.mul_one] at hcs htake
      have hAg' : AD ≠ g := fun e => hAg (by rw [e]; rfl)
      by_cases hroom : n + 1 ≤ cap
      · have e : cur = (vs ++ cur.toList.drop n).toArray := by rw [← htake, List.take_append_drop]
        refine insert_room base n i cap g AD x vs (cur.toList.drop n) w hvl hbg (by rw [← e]; exact hg) ?_ hcm (by omega) hroom hn hA hAg' h1 hx1
        rw [← htake, List.take_append_drop, Array.length_toList]
        exact hcs
      · exact insert_full base n i cap g AD x vs w hbase hvl (fun j v hv => by
          have hlt : j < n := by have := (List.getElem?_eq_some_iff.1 hv).1; omega
          rw [hown.cellAt j (by omega)]
          exact hv) (Array.getElem?_eq_some_iff.1 hg).1 hnc (by omega) (by omega) hn hA h1 hx1
def Bx2 (w : World) (b : Nat) (t : TypeId) (c0 c1 : Value) : Prop := w.rowIs b t 2 (fun j => [c0, c1].getD j undef)
theorem Bx2.new (w : World) (t : TypeId) (c0 c1 : Value) : Bx2 (w.alloc (.cells #[c0, c1] t)) w.heap.size t c0 c1 :=
  World.rowIs_alloc w #[c0, c1] t _ (fun i hi => by
    match i, hi with
    | 0, _ => rfl
    | 1, _ => rfl)
theorem Bx2.alloc {w : World} {b : Nat} {t : TypeId} {c0 c1 : Value} (h : Bx2 w b t c0 c1) (o : Obj) : Bx2 (w.alloc o) b t c0 c1 := World.rowIs.alloc h o
theorem Bx2.below {w w' : World} {b m : Nat} {t : TypeId} {c0 c1 : Value} (h : Bx2 w b t c0 c1) (hb : Below m w w') (hm : b < m) : Bx2 w' b t c0 c1 := World.rowIs.of_block h (hb.block b hm)
theorem Bx2.other {w : World} {b b' o : Nat} {t : TypeId} {c0 c1 u : Value} (h : Bx2 w b t c0 c1) (hb : b ≠ b') : Bx2 (w.setCell ⟨b', o, none⟩ u) b t c0 c1 := World.rowIs.setOther h hb u
theorem Bx2.put0 {w : World} {b : Nat} {t : TypeId} {c0 c1 u : Value} (h : Bx2 w b t c0 c1) : Bx2 (w.setCell ⟨b, 0, none⟩ u) b t u c1 := (World.rowIs.set h 0 u).congr (fun i hi => by
    match i, hi with
    | 0, _ => rfl
    | 1, _ => rfl)
theorem Bx2.put1 {w : World} {b : Nat} {t : TypeId} {c0 c1 u : Value} (h : Bx2 w b t c0 c1) : Bx2 (w.setCell ⟨b, 1, none⟩ u) b t c0 u := (World.rowIs.set h 1 u).congr (fun i hi => by
    match i, hi with
    | 0, _ => rfl
    | 1, _ => rfl)
theorem Bx2.facts4 {w : World} {b : Nat} {t : TypeId} {c0 c1 : Value} (h : Bx2 w b t c0 c1) :
    w.cell? ⟨b, 0, none⟩ = some c0 ∧ w.cell? ⟨b, 1, none⟩ = some c1 ∧ w.frozen? ⟨b, 0, none⟩ = false ∧ w.frozen? ⟨b, 1, none⟩ = false :=
  ⟨World.rowIs.cell h (i := 0) (by omega), World.rowIs.cell h (i := 1) (by omega), World.rowIs.frozen h 0, World.rowIs.frozen h 1⟩
theorem Bx2.blk {w w' : World} {b : Nat} {t : TypeId} {c0 c1 : Value} (h : Bx2 w b t c0 c1) (e : w'.heap[b]? = w.heap[b]?) : Bx2 w' b t c0 c1 := World.rowIs.of_block h e
structure Fr (B : Nat) (row : Option Nat) (w w' : World) : Prop where
  os : w'.os = w.os
  tape : w'.tape = w.tape
  output : w'.output = w.output
  size : w.heap.size ≤ w'.heap.size
  block : ∀ k, k < w.heap.size → k ≠ B → row ≠ some k → w'.heap[k]? = w.heap[k]?
theorem Fr.refl (B : Nat) (row : Option Nat) (w : World) : Fr B row w w := ⟨rfl, rfl, rfl, Nat.le_refl _, fun _ _ _ _ => rfl⟩
def OwnN (w : World) (v v' : Value) : Prop := v'.ownBlock = v.ownBlock ∨ v'.ownBlock = none ∨ ∃ k, w.heap.size ≤ k ∧ v'.ownBlock = some k
theorem Fr.trans {B : Nat} {v v' : Value} {a b c : World} (h : Fr B v.ownBlock a b) (ho : OwnN a v v') (k : Fr B v'.ownBlock b c) : Fr B v.ownBlock a c := ⟨k.os.trans h.os, k.tape.trans h.tape, k.output.trans h.output, Nat.le_trans h.size k.size, fun i h1 h2 h3 => (k.block i (Nat.lt_of_lt_of_le h1 h.size) h2 (by
  rcases ho with e | e | ⟨j, hj, e⟩
  · rw [e]; exact h3
  · rw [e]; exact fun q => by cases q
  · rw [e]; exact fun q => by have := Option.some.inj q; omega)).trans (h.block i h1 h2 h3)⟩
theorem OwnN.trans {a b : World} {v v' v'' : Value} (h : OwnN a v v') (hs : a.heap.size ≤ b.heap.size) (k : OwnN b v' v'') : OwnN a v v'' := by
  rcases k with e | e | ⟨j, hj, e⟩
  · rcases h with e2 | e2 | ⟨j, hj, e2⟩
    · exact Or.inl (e.trans e2)
    · exact Or.inr (Or.inl (e.trans e2))
    · exact Or.inr (Or.inr ⟨j, hj, e.trans e2⟩)
  · exact Or.inr (Or.inl e)
  · exact Or.inr (Or.inr ⟨j, by omega, e⟩)
structure SkB (B : Nat) (w : World) (lv : Value) (L : List (List Int)) (ps : List (Cl Int)) (c : Bool) : Prop where
  box : Bx2 w B 86 lv (.bool c)
  row : LL mI 0 3 34 (B + 1) w lv ps
  add : AddS L (ps.map Cl.xs) c
theorem mem_ins {S : List (List Int)} {x : List Int} (i : Nat) : ∀ z, z ∈ S.take i ++ x :: S.drop i ↔ z ∈ S ∨ z = x := fun z => by
  rw [List.mem_append, List.mem_cons]
  constructor
  · rintro (h | h | h)
    · exact Or.inl (List.mem_of_mem_take h)
    · exact Or.inr h
    · exact Or.inl (List.mem_of_mem_drop h)
  · rintro (h | h)
    · rw [← List.take_append_drop i S, List.mem_append] at h
      exact h.elim Or.inl (fun h => Or.inr (Or.inr h))
    · exact Or.inr (Or.inl h)
theorem AddS.asc {L S : List (List Int)} (h : AddS L S false) : LAsc S ∧ S.length ≤ 50 ∧ ∀ x ∈ S, x.length ≤ 60 := ⟨h.cut.lasc, h.cut.small.1, h.cut.small.2⟩
theorem gap_row {base N : Nat} {w : World} (h1 : w.heap[N]? = some (.cells #[.int .i64 256] 3 (0, 0))) (h2 : w.heap[N + 1]? = some (.cells #[.slice (some ⟨N, 0, none⟩) 1 1] 34 (0, 0))) (hb : base ≤ N) : LL mI 0 3 34 base w (.slice (some ⟨N + 1, 0, none⟩) 1 1) [⟨.slice (some ⟨N, 0, none⟩) 1 1, [256], N⟩] := by
  refine ⟨⟨rfl, Or.inr ⟨N + 1, 1, _, rfl, by omega, h2, Nat.le_refl _, by unfold maxLen; omega, rfl, rfl⟩⟩, fun p hp => ?_, fun p hp _ => ?_, List.pairwise_singleton _ _⟩
  · rw [List.mem_singleton] at hp
    subst hp
    refine ⟨_, 1, rfl, ⟨Nat.le_refl _, by unfold maxLen; omega⟩, fun _ => ⟨0, rfl, ⟨_, h1⟩, fun i hi => ?_⟩⟩
    have hi' : i < 1 := hi
    obtain rfl : i = 0 := by omega
    simp [World.cell?, h1]
    rfl
  · rw [List.mem_singleton] at hp
    subst hp
    exact hb
theorem ApartC.ins {ps : List (Cl Int)} {p : Cl Int} (h : ApartC ps) (hap : ∀ q ∈ ps, 0 < q.xs.length → 0 < p.xs.length → q.b ≠ p.b) (k : Nat) : ApartC (ps.take k ++ p :: ps.drop k) := by
  have h' : ApartC (ps.take k ++ ps.drop k) := by rw [List.take_append_drop]; exact h
  obtain ⟨p1, p2, p3⟩ := List.pairwise_append.1 h'
  refine List.pairwise_append.2 ⟨p1, List.pairwise_cons.2 ⟨fun q hq h0 h1 e => hap q (List.mem_of_mem_drop hq) h1 h0 e.symm, p2⟩, fun a ha b hb => ?_⟩
  rcases List.mem_cons.1 hb with rfl | hb
  · exact hap a (List.mem_of_mem_take ha)
  · exact p3 a ha b hb
theorem place_ins {S : List (List Int)} {x : List Int} {k : Nat} (h : Place S x k) (ha : LAsc S) (hx : x ∉ S) : LAsc (S.take k ++ x :: S.drop k) := by
  refine lasc_ins ha h.le h.lo (fun hk => ?_)
  have h1 := h.hi k (Nat.le_refl _) hk
  have h2 : ¬ lexc (S[k]?.getD []) x = 0 := fun e => hx ((h.mem ha).2 ⟨hk, e⟩)
  have h3 := lexc_swap (S[k]?.getD []) x
  omega
def AddQ (B : Nat) (w w' : World) (lv : Value) (L : List (List Int)) (ps : List (Cl Int)) (p : Cl Int) (e : Ending) : Prop :=
  e = .returned (.tuple #[]) ∧ ∃ lv' ps' c', SkB B w' lv' (L ++ [p.xs]) ps' c' ∧ (∀ q ∈ ps', q ∈ ps ∨ q = p ∨ w.heap.size ≤ q.b) ∧ Fr B lv.ownBlock w w' ∧ OwnN w lv lv'
set_option maxHeartbeats 8000000 in
set_option maxRecDepth 100000 in
theorem add_any (B : Nat) (lv : Value) (L : List (List Int)) (ps : List (Cl Int)) (c : Bool) (p : Cl Int) (w : World) (h : SkB B w lv L ps c) (hp : p.ok mI 0 3 w) (hlo : 0 < p.xs.length → B + 1 ≤ p.b) (hap : ∀ q ∈ ps, 0 < q.xs.length → 0 < p.xs.length → q.b ≠ p.b) :
    Calls Tryz.prog 78 #[.pointer (some ⟨B, 0, none⟩), p.v] w fun e w' => AddQ B w w' lv L ps p e := by
  have HB := hide h.box
  have HR := hide h.row
  have HAD := hide h.add
  have HP := hide hp
  have hBz : B < w.heap.size := World.rowIs.lt h.box
  obtain ⟨f0, f1, f2, f3⟩ := h.box.facts4
  obtain ⟨la, lc, rfl⟩ := own_is h.row.own
  have hadd := h.add
  clear h
  cases c with
  | true =>
    have hR : AddQ B w w (.slice la ps.length lc) L ps p (.returned (.tuple #[])) := ⟨rfl, _, ps, true, ⟨unhide HB, unhide HR, hadd.more _⟩, fun q hq => Or.inl hq, Fr.refl _ _ _, Or.inl rfl⟩
    have HRR := hide hR
    clear hR hadd
    go_enter Tryz.func78, Tryz.ntmps78
    go_wp2
    first | (refine bodyPost_ret (results_none rfl _ _ _) rfl ?_) | (refine bodyPost_end (results_none rfl _ _ _) rfl ?_)
    exact unhide HRR
  | false =>
    obtain ⟨hasc, hs50, hs60⟩ := hadd.asc
    rw [List.length_map] at hs50
    have hpv : ∃ pa pc, p.v = .slice pa p.xs.length pc := by obtain ⟨a, cap, e, -⟩ := hp; exact ⟨a, cap, e⟩
    obtain ⟨pa, pc, hpv⟩ := hpv
    have hpat := hp.at
    rw [hpv] at hpat ⊢
    have HPV := hide hpv
    have HPA := hide hpat
    have HSS := hide ((LL.foot (by decide) (unhide HR) (by unfold maxLen; omega)).all (Nat.le_refl _))
    have HASC := hide hasc
    clear hp hpat hasc hs60 hadd hpv
    go_enter Tryz.func78, Tryz.ntmps78
    go_wp2_with fail
    refine (bsf_any _ _ (ps.map Cl.xs) p.xs w (unhide HSS) (unhide HPA) (unhide HASC) (by rw [List.length_map]; omega)).mono ?_
    rintro e w1 ⟨⟨k, b, rfl, hpl, hb⟩, hw1⟩
    rw [hw1]
    clear hw1 w1
    have HPL := hide hpl
    have HBM := hide hb
    have hkl : k ≤ ps.length := by have := hpl.le; rwa [List.length_map] at this
    clear hpl hb
    cases b with
    | true =>
      have hR : AddQ B w w (.slice la ps.length lc) L ps p (.returned (.tuple #[])) := ⟨rfl, _, ps, false, ⟨unhide HB, unhide HR, (unhide HAD).known ((unhide HBM).1 rfl)⟩, fun q hq => Or.inl hq, Fr.refl _ _ _, Or.inl rfl⟩
      have HRR := hide hR
      clear hR
      go_wp2
      first | (refine bodyPost_ret (results_none rfl _ _ _) rfl ?_) | (refine bodyPost_end (results_none rfl _ _ _) rfl ?_)
      exact unhide HRR
    | false =>
      have hnx : p.xs ∉ ps.map Cl.xs := fun h => by cases (unhide HBM).2 h
      have HNX := hide hnx
      clear hnx
      by_cases hov : 60 < p.xs.length ∨ ps.length = 50
      · have HAD2 := hide ((unhide HAD).over (unhide HNX) (by rw [List.length_map]; exact hov))
        have HRR : Hid (AddQ B w ((((w.setCell ⟨B, 0, none⟩ (.slice (some ⟨w.heap.size + 1, 0, none⟩) 1 1)).setCell ⟨B, 1, none⟩ (.bool true)).alloc (.cells #[.int .i64 256] 3)).alloc (.cells #[.slice (some ⟨w.heap.size, 0, none⟩) 1 1] 34)) (.slice la ps.length lc) L ps p (.returned (.tuple #[]))) := by
          have hz2 : ((w.setCell ⟨B, 0, none⟩ (.slice (some ⟨w.heap.size + 1, 0, none⟩) 1 1)).setCell ⟨B, 1, none⟩ (.bool true)).heap.size = w.heap.size := by rw [sz_put, sz_put]
          have hbx : Bx2 ((w.setCell ⟨B, 0, none⟩ (.slice (some ⟨w.heap.size + 1, 0, none⟩) 1 1)).setCell ⟨B, 1, none⟩ (.bool true)) B 86 (.slice (some ⟨w.heap.size + 1, 0, none⟩) 1 1) (.bool true) := ((unhide HB).put0).put1
          have hne : ∀ k, k ≠ B → ((w.setCell ⟨B, 0, none⟩ (.slice (some ⟨w.heap.size + 1, 0, none⟩) 1 1)).setCell ⟨B, 1, none⟩ (.bool true)).heap[k]? = w.heap[k]? := fun k hk => by rw [Below.heap_setCell _ _ _ _ (by exact hk), Below.heap_setCell _ _ _ _ (by exact hk)]
          have hos : ((w.setCell ⟨B, 0, none⟩ (.slice (some ⟨w.heap.size + 1, 0, none⟩) 1 1)).setCell ⟨B, 1, none⟩ (.bool true)).os = w.os ∧ ((w.setCell ⟨B, 0, none⟩ (.slice (some ⟨w.heap.size + 1, 0, none⟩) 1 1)).setCell ⟨B, 1, none⟩ (.bool true)).tape = w.tape ∧ ((w.setCell ⟨B, 0, none⟩ (.slice (some ⟨w.heap.size + 1, 0, none⟩) 1 1)).setCell ⟨B, 1, none⟩ (.bool true)).output = w.output := ⟨rfl, rfl, rfl⟩
          generalize (w.setCell ⟨B, 0, none⟩ (.slice (some ⟨w.heap.size + 1, 0, none⟩) 1 1)).setCell ⟨B, 1, none⟩ (.bool true) = w3 at *
          have hb3 := below2 w3 (.cells #[.int .i64 256] 3) (.cells #[.slice (some ⟨w.heap.size, 0, none⟩) 1 1] 34)
          have hl1 : ((w3.alloc (.cells #[.int .i64 256] 3)).alloc (.cells #[.slice (some ⟨w.heap.size, 0, none⟩) 1 1] 34)).heap[w.heap.size]? = some (.cells #[.int .i64 256] 3 (0, 0)) := by
            show ((w3.heap.push _).push _)[w.heap.size]? = _
            rw [← hz2, Array.getElem?_push_lt (by simp)]
            simp
          have hl2 : ((w3.alloc (.cells #[.int .i64 256] 3)).alloc (.cells #[.slice (some ⟨w.heap.size, 0, none⟩) 1 1] 34)).heap[w.heap.size + 1]? = some (.cells #[.slice (some ⟨w.heap.size, 0, none⟩) 1 1] 34 (0, 0)) := by
            show ((w3.heap.push _).push _)[w.heap.size + 1]? = _
            rw [Array.getElem?_push, if_pos (by simp [hz2])]
          exact ⟨rfl, .slice (some ⟨w.heap.size + 1, 0, none⟩) 1 1, [⟨.slice (some ⟨w.heap.size, 0, none⟩) 1 1, [256], w.heap.size⟩], true, ⟨(hbx.alloc _).alloc _, gap_row hl1 hl2 (by omega), unhide HAD2⟩, fun q hq => Or.inr (Or.inr (by rw [List.mem_singleton] at hq; rw [hq]; exact Nat.le_refl _)), ⟨hb3.os.trans hos.1, hb3.tape.trans hos.2.1, hb3.output.trans hos.2.2, by have := hb3.size; omega, fun k k1 k2 _ => (hb3.block k (by omega)).trans (hne k k2)⟩, Or.inr (Or.inr ⟨w.heap.size + 1, by omega, rfl⟩)⟩
        rcases hov with hov | hov
        · have hov' : (60 : Int) < (p.xs.length : Int) := by omega
          go_wp2
          first | (refine bodyPost_ret (results_none rfl _ _ _) rfl ?_) | (refine bodyPost_end (results_none rfl _ _ _) rfl ?_)
          exact unhide HRR
        · have hov' : ((ps.length : Int) == 50) = true := by rw [hov]; rfl
          by_cases h60 : 60 < p.xs.length
          · have h60' : (60 : Int) < (p.xs.length : Int) := by omega
            clear hov
            go_wp2
            first | (refine bodyPost_ret (results_none rfl _ _ _) rfl ?_) | (refine bodyPost_end (results_none rfl _ _ _) rfl ?_)
            exact unhide HRR
          · have h60' : ¬ (60 : Int) < (p.xs.length : Int) := by omega
            clear hov
            go_wp2
            first | (refine bodyPost_ret (results_none rfl _ _ _) rfl ?_) | (refine bodyPost_end (results_none rfl _ _ _) rfl ?_)
            exact unhide HRR
      · have h60 : ¬ (60 : Int) < (p.xs.length : Int) := by omega
        have h50 : ((ps.length : Int) == 50) = false := by rw [beq_eq_false_iff_ne]; omega
        have h50' : ps.length < 50 := by omega
        have hA3 := below1 w (.cells #[.slice pa p.xs.length pc] 34)
        have hzA : (w.alloc (.cells #[.slice pa p.xs.length pc] 34)).heap.size = w.heap.size + 1 := sz_alloc _ _
        have hlit : (w.alloc (.cells #[.slice pa p.xs.length pc] 34)).heap[w.heap.size]? = some (.cells #[.slice pa p.xs.length pc] 34 (0, 0)) := by
          show (w.heap.push _)[w.heap.size]? = _
          simp
        have HI := hide (insert_any (B + 1) ps.length k w.heap.size (.slice la ps.length lc) (.slice pa p.xs.length pc) (ps.map Cl.v) _ ((unhide HR).own.alloc (.cells #[.slice pa p.xs.length pc] 34)) hkl (by omega) (by rw [hzA]; omega) hlit (fun e => by have := ((unhide HR).own.lt _ e).2; omega) (fun v hv => by obtain ⟨q, hq, rfl⟩ := List.mem_map.1 hv; exact ((unhide HR).ok q hq).one) rfl)
        have HB3 := hide ((unhide HB).alloc (.cells #[.slice pa p.xs.length pc] 34))
        obtain ⟨x0, x1, x2, x3⟩ := (unhide HB3).facts4
        clear hlit
        go_wp2_with fail
        generalize w.alloc (.cells #[.slice pa p.xs.length pc] 34) = w3 at *
        refine (unhide HI).mono ?_
        rintro e w4 ⟨v4, rfl, ho4, hg4, hb4⟩
        have hz4 := hg4.size
        have hBx4 : Bx2 w4 B 86 (.slice la ps.length lc) (.bool false) := (unhide HB3).blk (hg4.block B (by omega) (fun e => by have := ((unhide HR).own.lt _ e.symm).1; omega))
        have HB4 := hide hBx4
        obtain ⟨y0, y1, y2, y3⟩ := hBx4.facts4
        have hR : ∀ v5 : Value, v5 = v4 → AddQ B w (w4.setCell ⟨B, 0, none⟩ v5) (.slice la ps.length lc) L ps p (.returned (.tuple #[])) := fun v5 e5 => by
          subst e5
          have hsame : ∀ q : Cl Int, q.ok mI 0 3 w → (0 < q.xs.length → B + 1 ≤ q.b) → q.ok mI 0 3 (w4.setCell ⟨B, 0, none⟩ v5) := fun q hq hql => hq.same (fun h0 => by
            have h1 := hq.lt h0
            have h2 := hql h0
            rw [Below.heap_setCell _ _ _ _ (by show q.b ≠ B; omega), hg4.block q.b (by omega) ((unhide HR).not_row (by decide) hq rfl h0), hA3.block q.b h1])
          have hown5 : (w4.setCell ⟨B, 0, none⟩ v5).ownsRow (B + 1) 34 1 v5 (ps.length + 1) ((ps.map Cl.v).take k ++ .slice pa p.xs.length pc :: (ps.map Cl.v).drop k) := by
            refine ⟨ho4.1, ?_⟩
            rcases ho4.2 with q | ⟨g, cap, cur, e1, e2, e3, e4⟩
            · exact Or.inl q
            · exact Or.inr ⟨g, cap, cur, e1, e2, (Below.heap_setCell _ _ _ _ (by show g ≠ B; omega)).trans e3, e4⟩
          have hmv : (ps.take k ++ p :: ps.drop k).map Cl.v = (ps.map Cl.v).take k ++ .slice pa p.xs.length pc :: (ps.map Cl.v).drop k := by rw [List.map_append, List.map_cons, List.map_take, List.map_drop, unhide HPV]
          have hmx : (ps.take k ++ p :: ps.drop k).map Cl.xs = (ps.map Cl.xs).take k ++ p.xs :: (ps.map Cl.xs).drop k := by rw [List.map_append, List.map_cons, List.map_take, List.map_drop]
          have hlen : (ps.take k ++ p :: ps.drop k).length = ps.length + 1 := by rw [List.length_append, List.length_cons, List.length_take, List.length_drop]; omega
          have hmem : ∀ q, q ∈ ps.take k ++ p :: ps.drop k → q ∈ ps ∨ q = p := fun q hq => by
            rcases List.mem_append.1 hq with hq | hq
            · exact Or.inl (List.mem_of_mem_take hq)
            · rcases List.mem_cons.1 hq with hq | hq
              · exact Or.inr hq
              · exact Or.inl (List.mem_of_mem_drop hq)
          refine ⟨rfl, v5, ps.take k ++ p :: ps.drop k, false, ⟨(unhide HB4).put0, ⟨by rw [hlen, hmv]; exact hown5, fun q hq => ?_, fun q hq h0 => ?_, ApartC.ins (unhide HR).apart hap k⟩, ?_⟩, fun q hq => (hmem q hq).imp id Or.inl, ⟨hg4.os.trans hA3.os, hg4.tape.trans hA3.tape, hg4.output.trans hA3.output, by rw [sz_put]; omega, fun j j1 j2 j3 => ?_⟩, ?_⟩
          · rcases hmem q hq with hq | hq
            · exact hsame q ((unhide HR).ok q hq) ((unhide HR).lo q hq)
            · rw [hq]; exact hsame p (unhide HP) hlo
          · rcases hmem q hq with hq | hq
            · exact (unhide HR).lo q hq h0
            · rw [hq] at h0 ⊢; exact hlo h0
          · rw [hmx]
            exact (unhide HAD).ins (by omega) (by rw [List.length_map]; exact h50') (place_ins (unhide HPL) (unhide HASC) (unhide HNX)) (by rw [← hmx, List.length_map, hlen, List.length_map]) (mem_ins k)
          · rw [Below.heap_setCell _ _ _ _ (by exact j2), hg4.block j (by omega) (fun e => j3 e.symm), hA3.block j j1]
          · rcases hb4 with e | ⟨j, hj, e⟩
            · exact Or.inl e
            · exact Or.inr (Or.inr ⟨j, by omega, e⟩)
        obtain ⟨g4, c4, rfl⟩ := ownsRow_succ ho4
        have HRR := hide (hR _ rfl)
        clear hR ho4 hg4 hb4 hBx4
        go_wp2
        first | (refine bodyPost_ret (results_none rfl _ _ _) rfl ?_) | (refine bodyPost_end (results_none rfl _ _ _) rfl ?_)
        exact unhide HRR
structure Side (B : Nat) (lv : Value) (w : World) (v : Value) (qs : List (Cl Int)) : Prop where
  ll : LL mI 0 3 34 (B + 1) w v qs
  row : ∀ k, v.ownBlock = some k → lv.ownBlock ≠ some k
theorem Side.fr {B : Nat} {lv lv' v : Value} {w w' : World} {ps qs : List (Cl Int)} (h : Side B lv w v qs) (hl : LL mI 0 3 34 (B + 1) w lv ps) (hf : Fr B lv.ownBlock w w') (ho : OwnN w lv lv') : Side B lv' w' v qs := by
  have hb : ∀ k, v.ownBlock = some k → w'.heap[k]? = w.heap[k]? := fun k hk => hf.block k (h.ll.own.lt k hk).2 (by have := (h.ll.own.lt k hk).1; omega) (h.row k hk)
  refine ⟨⟨⟨h.ll.own.1, ?_⟩, fun q hq => (h.ll.ok q hq).same (fun h0 => hf.block _ ((h.ll.ok q hq).lt h0) (by have := h.ll.lo q hq h0; omega) (fun e => hl.not_row (by decide) (h.ll.ok q hq) rfl h0 e.symm)), h.ll.lo, h.ll.apart⟩, fun k hk e => ?_⟩
  · rcases h.ll.own.2 with q | ⟨g, cap, cur, e1, e2, e3, e4⟩
    · exact Or.inl q
    · exact Or.inr ⟨g, cap, cur, e1, e2, (hb g (by rw [e1]; rfl)).trans e3, e4⟩
  · rcases ho with e2 | e2 | ⟨j, hj, e2⟩
    · rw [e2] at e; exact h.row k hk e
    · rw [e2] at e; cases e
    · rw [e2] at e
      have := (h.ll.own.lt k hk).2
      have := Option.some.inj e
      omega
def AddsR (B : Nat) (w w' : World) (lv : Value) (L M : List (List Int)) (ps qs : List (Cl Int)) : Prop :=
  ∃ lv' ps' c', SkB B w' lv' (L ++ M) ps' c' ∧ (∀ q ∈ ps', q ∈ ps ∨ q ∈ qs ∨ (0 < q.xs.length → w.heap.size ≤ q.b)) ∧ Fr B lv.ownBlock w w' ∧ OwnN w lv lv'
set_option maxHeartbeats 8000000 in
set_option maxRecDepth 100000 in
theorem addAll_any (B : Nat) (lv v : Value) (L : List (List Int)) (ps qs : List (Cl Int)) (c : Bool) (w : World) (h : SkB B w lv L ps c) (hv : Side B lv w v qs) (hql : qs.length ≤ 1048576) (hap : ∀ p ∈ ps, ∀ q ∈ qs, 0 < p.xs.length → 0 < q.xs.length → p.b ≠ q.b) :
    Calls Tryz.prog 79 #[.pointer (some ⟨B, 0, none⟩), v] w fun e w' => e = .returned (.tuple #[]) ∧ AddsR B w w' lv L (qs.map Cl.xs) ps qs := by
  have HK := hide h
  have HV := hide hv
  have HAP := hide hap
  obtain ⟨va, vc, rfl⟩ := own_is hv.ll.own
  clear h hv hap
  go_enter Tryz.func79, Tryz.ntmps79
  go_wp2_with fail
  go_loopw [8] (fun iv wr => ∃ k : Nat, k ≤ qs.length ∧ iv = .int .i64 (k : Nat) ∧ AddsR B w wr lv L ((qs.take k).map Cl.xs) ps (qs.take k)) (fun iv _ => qs.length - (intOf iv).toNat)
  case atStart => exact ⟨0, Nat.zero_le _, rfl, lv, ps, c, by rw [List.take_zero, List.map_nil, List.append_nil]; exact unhide HK, fun q hq => Or.inl hq, Fr.refl _ _ _, Or.inl rfl⟩
  case round =>
    obtain ⟨k, hk, rfl, lv', ps', c', hsk, hsub, hfr, hon⟩ := hrel
    have HSK := hide hsk
    have HSUB := hide hsub
    have HFR := hide hfr
    have HON := hide hon
    have hVr := (unhide HV).fr (unhide HK).row hfr hon
    have HVR := hide hVr
    clear hsk hsub hon
    by_cases hlt : k < qs.length
    · have hlt' : (k : Int) < (qs.length : Int) := by omega
      obtain ⟨q, hq⟩ : ∃ q, qs[k]? = some q := ⟨qs[k], by simp [hlt]⟩
      have hqm : q ∈ qs := List.mem_of_getElem? hq
      rcases hVr.ll.own.2 with ⟨e9, hz9⟩ | ⟨g, cap, cur, e9, -⟩
      · omega
      · simp only [Value.slice.injEq] at e9
        obtain ⟨rfl, -, rfl⟩ := e9
        have hcell : wr.cell? ⟨g, k, none⟩ = some q.v := by
          rw [hVr.ll.own.cellAt k (by omega), List.getElem?_map, hq]
          rfl
        have HOK := hide (hVr.ll.ok q hqm)
        have hlo := hVr.ll.lo q hqm
        have hqb : 0 < q.xs.length → q.b < w.heap.size := fun h0 => ((unhide HV).ll.ok q hqm).lt h0
        have hsn : qs.take (k + 1) = qs.take k ++ [q] := by rw [List.take_add_one, hq]; rfl
        have HSN := hide hsn
        have HAPK : Hid (∀ p ∈ ps', 0 < p.xs.length → 0 < q.xs.length → p.b ≠ q.b) := fun p hp h0 h1 e => by
          rcases unhide HSUB p hp with hp | hp | hp
          · exact unhide HAP p hp q hqm h0 h1 e
          · obtain ⟨t, ht, et⟩ := List.mem_iff_getElem.1 hp
            rw [List.length_take] at ht
            have hpair := List.pairwise_iff_getElem.1 (unhide HV).ll.apart t k (by omega) hlt (by omega)
            rw [List.getElem_take] at et
            have eq : qs[k] = q := (List.getElem?_eq_some_iff.1 hq).2
            exact hpair (by rw [et]; exact h0) (by rw [eq]; exact h1) (by rw [et, eq]; exact e)
          · have := hqb h1
            have := hp h0
            omega
        obtain ⟨pa, pc, hpv⟩ : ∃ pa pc, q.v = .slice pa q.xs.length pc := by obtain ⟨a, cp, e, -⟩ := hVr.ll.ok q hqm; exact ⟨a, cp, e⟩
        have HPV := hide hpv
        rw [hpv] at hcell
        have HLO := hide hlo
        clear hVr hq hsn hpv hlo hqb
        go_wp2_with fail
        rw [← unhide HPV]
        refine (add_any B lv' (L ++ (qs.take k).map Cl.xs) ps' c' q wr (unhide HSK) (unhide HOK) (unhide HLO) (unhide HAPK)).mono ?_
        rintro e w1 ⟨rfl, lv2, ps2, c2, hs2, hsub2, hfr2, hon2⟩
        have HS2 := hide hs2
        have hR : AddsR B w w1 lv L ((qs.take (k + 1)).map Cl.xs) ps (qs.take (k + 1)) := by
          rw [unhide HSN]
          refine ⟨lv2, ps2, c2, by rw [List.map_append, ← List.append_assoc]; exact hs2, fun p hp => ?_, Fr.trans hfr (unhide HON) hfr2, OwnN.trans (unhide HON) hfr.size hon2⟩
          rcases hsub2 p hp with hp | hp | hp
          · rcases unhide HSUB p hp with hp | hp | hp
            · exact Or.inl hp
            · exact Or.inr (Or.inl (List.mem_append_left _ hp))
            · exact Or.inr (Or.inr hp)
          · exact Or.inr (Or.inl (List.mem_append_right _ (by rw [hp]; exact List.mem_singleton_self _)))
          · exact Or.inr (Or.inr (fun _ => by have := hfr.size; omega))
        have HRR := hide hR
        clear hR hs2 hsub2 hfr2 hon2 hfr
        go_wp2
        exact ⟨⟨k + 1, by omega, by go_num, unhide HRR⟩, by simp [intOf]; omega⟩
    · obtain rfl : k = qs.length := by omega
      have hlt' : ¬ (qs.length : Int) < (qs.length : Int) := by omega
      have hR : AddsR B w wr lv L (qs.map Cl.xs) ps qs := by
        have h1 : qs.take qs.length = qs := List.take_length
        rw [h1] at HSK HSUB
        exact ⟨lv', ps', c', unhide HSK, unhide HSUB, hfr, unhide HON⟩
      have HRR := hide hR
      clear hR hfr hVr
      go_wp2
      first | (refine bodyPost_ret (results_none rfl _ _ _) rfl ?_) | (refine bodyPost_end (results_none rfl _ _ _) rfl ?_)
      exact ⟨rfl, unhide HRR⟩
theorem SkB.keep {B m : Nat} {w w' : World} {lv : Value} {L : List (List Int)} {ps : List (Cl Int)} {c : Bool} (h : SkB B w lv L ps c) (hb : Below m w w') (hm : w.heap.size ≤ m) : SkB B w' lv L ps c := ⟨h.box.below hb (by have := World.rowIs.lt h.box; omega), h.row.keep hb hm, h.add⟩
theorem Side.keep {B m : Nat} {lv v : Value} {w w' : World} {qs : List (Cl Int)} (h : Side B lv w v qs) (hb : Below m w w') (hm : w.heap.size ≤ m) : Side B lv w' v qs := ⟨h.ll.keep hb hm, h.row⟩
theorem Below.fr {m B : Nat} {row : Option Nat} {w w' : World} (h : Below m w w') (hm : w.heap.size ≤ m) : Fr B row w w' := ⟨h.os, h.tape, h.output, h.size, fun k k1 _ _ => h.block k (by omega)⟩
theorem prd_step (A Bs : List (List Int)) (i : Nat) (a : List Int) (h : A[i]? = some a) : prd (A.take (i + 1)) Bs = prd (A.take i) Bs ++ Bs.map (jn2 a) := by
  unfold prd
  rw [List.take_add_one, h, List.flatMap_append]
  simp
theorem prd_sub {A Bs : List (List Int)} {i : Nat} {z : List Int} (h : z ∈ prd (A.take i) Bs) : z ∈ prd A Bs := by
  obtain ⟨a, ha, b, hb, e⟩ := mem_prd.1 h
  exact mem_prd.2 ⟨a, List.mem_of_mem_take ha, b, hb, e⟩
set_option maxHeartbeats 8000000 in
set_option maxRecDepth 100000 in
theorem addJoined_any (B : Nat) (lv v1 v2 : Value) (L : List (List Int)) (ps qs1 qs2 : List (Cl Int)) (c : Bool) (w : World) (h : SkB B w lv L ps c) (h1 : Side B lv w v1 qs1) (h2 : Side B lv w v2 qs2) (hl1 : qs1.length ≤ 1048576) (hl2 : qs2.length ≤ 1048576) (hx1 : ∀ q ∈ qs1, q.xs.length ≤ 1000) (hx2 : ∀ q ∈ qs2, q.xs.length ≤ 1000) :
    Calls Tryz.prog 81 #[.pointer (some ⟨B, 0, none⟩), v1, v2] w fun e w' => e = .returned (.tuple #[]) ∧ AddsR B w w' lv L (prd (qs1.map Cl.xs) (qs2.map Cl.xs)) ps [] := by
  have HK := hide h
  have H1 := hide h1
  have H2 := hide h2
  have HX1 := hide hx1
  have HX2 := hide hx2
  obtain ⟨a1, c1, rfl⟩ := own_is h1.ll.own
  obtain ⟨a2, c2, rfl⟩ := own_is h2.ll.own
  have hBz : B < w.heap.size := World.rowIs.lt h.box
  clear h h1 h2 hx1 hx2
  go_enter Tryz.func81, Tryz.ntmps81
  go_wp2_with fail
  go_loopw [12] (fun iv wr => ∃ i : Nat, i ≤ qs1.length ∧ iv = .int .i64 (i : Nat) ∧ AddsR B w wr lv L (prd ((qs1.map Cl.xs).take i) (qs2.map Cl.xs)) ps []) (fun iv _ => qs1.length - (intOf iv).toNat)
  case atStart => exact ⟨0, Nat.zero_le _, rfl, lv, ps, c, by rw [List.take_zero]; show SkB B w lv (L ++ []) ps c; rw [List.append_nil]; exact unhide HK, fun q hq => Or.inl hq, Fr.refl _ _ _, Or.inl rfl⟩
  case round =>
    rename World => V
    obtain ⟨i, hi, rfl, hadds⟩ := hrel
    have HADD := hide hadds
    by_cases hlt : i < qs1.length
    · have hlt' : (i : Int) < (qs1.length : Int) := by omega
      obtain ⟨p, hp⟩ : ∃ p, qs1[i]? = some p := ⟨qs1[i], by simp [hlt]⟩
      have hpm : p ∈ qs1 := List.mem_of_getElem? hp
      obtain ⟨lv', ps', c', hsk, hsub, hfr, hon⟩ := hadds
      have hV1 := (unhide H1).fr (unhide HK).row hfr hon
      rcases hV1.ll.own.2 with ⟨e9, hz9⟩ | ⟨g1, cap1, cur1, e9, -⟩
      · omega
      · simp only [Value.slice.injEq] at e9
        obtain ⟨rfl, -, rfl⟩ := e9
        have hcell : V.cell? ⟨g1, i, none⟩ = some p.v := by
          rw [hV1.ll.own.cellAt i (by omega), List.getElem?_map, hp]
          rfl
        obtain ⟨pa, pc, hpv⟩ : ∃ pa pc, p.v = .slice pa p.xs.length pc := by obtain ⟨a, cp, e, -⟩ := hV1.ll.ok p hpm; exact ⟨a, cp, e⟩
        rw [hpv] at hcell
        have HPV := hide hpv
        have HPM := hide hpm
        have HPX : Hid ((qs1.map Cl.xs)[i]? = some p.xs) := by show (qs1.map Cl.xs)[i]? = some p.xs; rw [List.getElem?_map, hp]; rfl
        clear hV1 hsk hsub hfr hon hpv hp hpm
        go_wp2_with fail
        go_loopw [18] (fun jv wr => ∃ j : Nat, j ≤ qs2.length ∧ jv = .int .i64 (j : Nat) ∧ AddsR B w wr lv L (prd ((qs1.map Cl.xs).take i) (qs2.map Cl.xs) ++ ((qs2.map Cl.xs).take j).map (jn2 p.xs)) ps []) (fun jv _ => qs2.length - (intOf jv).toNat)
        case atStart => exact ⟨0, Nat.zero_le _, rfl, by rw [List.take_zero, List.map_nil, List.append_nil]; exact unhide HADD⟩
        case round =>
          obtain ⟨j, hj, rfl, hadj⟩ := hrel
          have HADJ := hide hadj
          by_cases hltj : j < qs2.length
          · have hltj' : (j : Int) < (qs2.length : Int) := by omega
            obtain ⟨q, hq⟩ : ∃ q, qs2[j]? = some q := ⟨qs2[j], by simp [hltj]⟩
            have hqm : q ∈ qs2 := List.mem_of_getElem? hq
            obtain ⟨lv2, ps2, cc, hsk, hsub, hfr, hon⟩ := hadj
            have hW1 := (unhide H1).fr (unhide HK).row hfr hon
            have hW2 := (unhide H2).fr (unhide HK).row hfr hon
            rcases hW2.ll.own.2 with ⟨e9, hz9⟩ | ⟨g2, cap2, cur2, e9, -⟩
            · omega
            · simp only [Value.slice.injEq] at e9
              obtain ⟨rfl, -, rfl⟩ := e9
              have hcell2 : wr.cell? ⟨g2, j, none⟩ = some q.v := by
                rw [hW2.ll.own.cellAt j (by omega), List.getElem?_map, hq]
                rfl
              obtain ⟨qa, qc, hqv⟩ : ∃ qa qc, q.v = .slice qa q.xs.length qc := by obtain ⟨a, cp, e, -⟩ := hW2.ll.ok q hqm; exact ⟨a, cp, e⟩
              rw [hqv] at hcell2
              obtain ⟨f0, f1, f2, f3⟩ := hsk.box.facts4
              have hQX : (qs2.map Cl.xs)[j]? = some q.xs := by rw [List.getElem?_map, hq]; rfl
              have hszr := hfr.size
              cases cc with
              | true =>
                have hR : AddsR B w wr lv L (prd (qs1.map Cl.xs) (qs2.map Cl.xs)) ps [] := by
                  refine ⟨lv2, ps2, true, ⟨hsk.box, hsk.row, (hsk.add.more (prd (qs1.map Cl.xs) (qs2.map Cl.xs))).same (fun z => ?_)⟩, hsub, hfr, hon⟩
                  constructor
                  · intro hz
                    rcases List.mem_append.1 hz with hz | hz
                    · rcases List.mem_append.1 hz with hz | hz
                      · exact List.mem_append_left _ hz
                      · rcases List.mem_append.1 hz with hz | hz
                        · exact List.mem_append_right _ (prd_sub hz)
                        · obtain ⟨b, hb, rfl⟩ := List.mem_map.1 hz
                          exact List.mem_append_right _ (mem_prd.2 ⟨p.xs, List.mem_of_getElem? (unhide HPX), b, List.mem_of_mem_take hb, rfl⟩)
                    · exact List.mem_append_right _ hz
                  · intro hz
                    rcases List.mem_append.1 hz with hz | hz
                    · exact List.mem_append_left _ (List.mem_append_left _ hz)
                    · exact List.mem_append_right _ hz
                have HRR := hide hR
                clear hR hsk hsub hfr hon hW1 hW2 hqv hq
                go_wp2
                first | (refine bodyPost_ret (results_none rfl _ _ _) rfl ?_) | (refine bodyPost_end (results_none rfl _ _ _) rfl ?_)
                exact ⟨rfl, unhide HRR⟩
              | false =>
                have HSK := hide hsk
                have HSUB := hide hsub
                have HFR := hide hfr
                have HON := hide hon
                have hpo := hW1.ll.ok p (unhide HPM)
                have hqo := hW2.ll.ok q hqm
                have HJ := hide (joinSk_any p.v q.v p.xs q.xs wr hpo.at hpo.cap hqo.at hqo.cap (by have := unhide HX1 p (unhide HPM); have := unhide HX2 q hqm; omega))
                rw [unhide HPV, hqv] at HJ
                have HQX := hide hQX
                clear hsk hsub hfr hon hW1 hW2 hqv hq hpo hqo hQX
                go_wp2_with fail
                refine (unhide HJ).mono ?_
                rintro e w4 ⟨v4, rfl, hown4, hb4⟩
                have hz4 := hb4.size
                obtain ⟨pb, hok4, hlo4⟩ := own_cl hown4
                obtain ⟨va4, vc4, rfl⟩ := own_is hown4
                have HOK4 := hide hok4
                have HSK4 := hide ((unhide HSK).keep hb4 (Nat.le_refl _))
                have HAP4 : Hid (∀ t ∈ ps2, 0 < t.xs.length → 0 < (jn2 p.xs q.xs).length → t.b ≠ pb) := fun t ht h0 h5 e => by
                  have := ((unhide HSK).row.ok t ht).lt h0
                  have := hlo4 h5
                  omega
                have HLO4 : Hid (0 < (jn2 p.xs q.xs).length → B + 1 ≤ pb) := fun h5 => by have := hlo4 h5; omega
                have HLW : Hid (0 < (jn2 p.xs q.xs).length → w.heap.size ≤ pb) := fun h5 => by have := hlo4 h5; omega
                have HB4 := hide hb4
                clear hown4 hok4 hlo4 hb4
                generalize hJL : (jn2 p.xs q.xs).length = JL at *
                have HJL := hide hJL
                clear hJL
                go_wp2_with fail
                refine (add_any B lv2 _ ps2 false ⟨.slice va4 JL vc4, jn2 p.xs q.xs, pb⟩ w4 (unhide HSK4) (unhide HOK4) (by rw [unhide HJL]; exact unhide HLO4) (by rw [unhide HJL]; exact unhide HAP4)).mono ?_
                rintro e w5 ⟨rfl, lv3, ps3, c3, hs3, hsub3, hfr3, hon3⟩
                have hfr2 : Fr B lv.ownBlock w w4 := Fr.trans (unhide HFR) (unhide HON) (Below.fr (unhide HB4) (Nat.le_refl _))
                have hR : AddsR B w w5 lv L (prd ((qs1.map Cl.xs).take i) (qs2.map Cl.xs) ++ ((qs2.map Cl.xs).take (j + 1)).map (jn2 p.xs)) ps [] := by
                  refine ⟨lv3, ps3, c3, ?_, fun t ht => ?_, Fr.trans hfr2 (unhide HON) hfr3, OwnN.trans (unhide HON) (Nat.le_trans hszr hz4) hon3⟩
                  · have e9 : L ++ (prd ((qs1.map Cl.xs).take i) (qs2.map Cl.xs) ++ ((qs2.map Cl.xs).take (j + 1)).map (jn2 p.xs)) = L ++ (prd ((qs1.map Cl.xs).take i) (qs2.map Cl.xs) ++ ((qs2.map Cl.xs).take j).map (jn2 p.xs)) ++ [jn2 p.xs q.xs] := by
                      rw [List.take_add_one, unhide HQX]
                      simp
                    rw [e9]
                    exact hs3
                  · rcases hsub3 t ht with ht | ht | ht
                    · exact unhide HSUB t ht
                    · exact Or.inr (Or.inr (fun h0 => by rw [ht] at h0 ⊢; exact unhide HLW (by rw [← unhide HJL]; exact h0)))
                    · exact Or.inr (Or.inr (fun _ => by omega))
                have HRR := hide hR
                clear hR hs3 hsub3 hfr3 hon3 hfr2
                go_wp2
                exact ⟨⟨j + 1, by omega, by go_num, unhide HRR⟩, by simp [intOf]; omega⟩
          · obtain rfl : j = qs2.length := by omega
            have hltj' : ¬ (qs2.length : Int) < (qs2.length : Int) := by omega
            have hR : AddsR B w wr lv L (prd ((qs1.map Cl.xs).take (i + 1)) (qs2.map Cl.xs)) ps [] := by
              rw [prd_step _ _ _ _ (unhide HPX)]
              have h9 := unhide HADJ
              have e9 : (qs2.map Cl.xs).take qs2.length = qs2.map Cl.xs := List.take_of_length_le (by rw [List.length_map]; exact Nat.le_refl _)
              rw [e9] at h9
              exact h9
            have HRR := hide hR
            clear hR hadj
            go_wp2
            exact ⟨⟨i + 1, by omega, by go_num, unhide HRR⟩, by simp [intOf]; omega⟩
    · obtain rfl : i = qs1.length := by omega
      have hlt' : ¬ (qs1.length : Int) < (qs1.length : Int) := by omega
      have hR : AddsR B w V lv L (prd (qs1.map Cl.xs) (qs2.map Cl.xs)) ps [] := by
        have h9 := unhide HADD
        rw [List.take_of_length_le (by rw [List.length_map]; exact Nat.le_refl _)] at h9
        exact h9
      have HRR := hide hR
      clear hR hadds
      go_wp2
      first | (refine bodyPost_ret (results_none rfl _ _ _) rfl ?_) | (refine bodyPost_end (results_none rfl _ _ _) rfl ?_)
      exact ⟨rfl, unhide HRR⟩
end Go.Proofs.YtinhliecfjlocaaGreat
