import Derived.Test.YtinhliecfjlocaaGreatPk6
import Derived.Test.YtinhliecfjlocaaGreatPk10
import Derived.Test.YtinhliecfjlocaaGreatPk9
import Derived.Test.YtinhliecfjlocaaGreatPk7
import Derived.Test.YtinhliecfjlocaaGreatPk8
import Derived.BigQuiet
import Derived.Laws.Bits64b
import Derived.BigRegion
import Derived.ArgAppend
import Derived.WalkMore
import Derived.Deep.LoopGhost
import Derived.Maps.OwnSet
import Derived.Maps.RangeWalk
namespace Go.Proofs.YtinhliecfjlocaaGreat
open Go.RowKit
def NodeRet (e : Ending) (xs : List El) : Prop :=
  (∃ u, e = .returned (.tuple #[u, .bool true]) ∧ ValidT xs) ∨ (e = .returned (.tuple #[.nilIface, .bool false]) ∧ ¬ ValidT xs)
theorem NodeRet.no {xs : List El} (h : ¬ ValidT xs) : NodeRet (.returned (.tuple #[.nilIface, .bool false])) xs := Or.inr ⟨rfl, h⟩
theorem short_bad {xs : List El} {st : List (List El × Int)} {k : Nat} (hk : k < xs.length) (hst : flats st = xs.take k) (hw : ∀ s ∈ st, SegM s.1 s.2) (ok : ElOk (xs[k]?.getD dE)) (hlt : (st.length : Int) < cnt (xs[k]?.getD dE).kind) : ¬ ValidT xs := by
  intro hv
  have sh := hv.2.2.1
  have htk := take_next hk
  have h1 : wsum (xs.take (k + 1)) + wsum (xs.drop (k + 1)) = 1 := by rw [← wsum_append, List.take_append_drop]; exact sh.1
  have h2 := sh.2 (k + 1) (by omega) (by omega)
  have h3 := wsum_flats (fun s hs => (hw s hs).ws)
  rw [hst] at h3
  rw [htk, wsum_append, h3] at h1
  simp only [wsum] at h1
  generalize xs[k]?.getD dE = x at *
  rcases ok with ⟨q1, -⟩ | ⟨q1 | q1 | q1, -⟩ | ⟨q1, -⟩ <;> simp [cnt, wt, q1] at hlt h1 <;> omega
theorem own_slice {base n : Nat} {w : World} {v : Value} {vals : List Value} (hown : w.ownsRow base 82 1 v n vals) : ∃ ao c, v = .slice ao n c := by
  rcases hown.2 with ⟨rfl, hn⟩ | ⟨g, cap, cur, rfl, hbg, hg, hnc, hcm, hcs, htake⟩
  · exact ⟨none, 0, by rw [hn]⟩
  · exact ⟨_, _, rfl⟩
def Rch (xss : List (List Int)) (ks : List Int) (pss qss : List (List Int)) : Prop :=
  xss.length ≤ 1000 ∧ ks.length ≤ 20000 ∧ (∀ i : Nat, i < pss.length → (pss[i]?.getD []).length ≤ 1000) ∧ qss.length ≤ 1000 ∧ ∀ i : Nat, i < qss.length → (qss[i]?.getD []).length ≤ 1000
def Lst (base : Int) (ks : List Int) (pss : List (List Int)) (t : Int) (i : Nat) : Prop :=
  ∃ j : Nat, j < ks.length ∧ j < pss.length ∧ ks[j]?.getD 0 = t ∧ wrap64 (base + i) ∈ pss[j]?.getD []
def Cnd (base : Int) (ks : List Int) (pss qss : List (List Int)) (i : Nat) : Prop :=
  ∃ c : Nat, c < qss.length ∧ ∀ t ∈ qss[c]?.getD [], Lst base ks pss t i
def lstB (base : Int) (ks : List Int) (pss : List (List Int)) (t : Int) (i : Nat) : Bool := (List.range ks.length).any fun j => decide (j < pss.length) && decide (ks[j]?.getD 0 = t) && (pss[j]?.getD []).contains (wrap64 (base + i))
theorem lstB_iff (base : Int) (ks : List Int) (pss : List (List Int)) (t : Int) (i : Nat) : lstB base ks pss t i = true ↔ Lst base ks pss t i := by
  unfold lstB Lst
  rw [List.any_eq_true]
  constructor
  · rintro ⟨j, h1, h2⟩
    rw [Bool.and_eq_true, Bool.and_eq_true, decide_eq_true_eq, decide_eq_true_eq, List.contains_iff_mem] at h2
    exact ⟨j, List.mem_range.1 h1, h2.1.1, h2.1.2, h2.2⟩
  · rintro ⟨j, h1, h2, h3, h4⟩
    exact ⟨j, List.mem_range.2 h1, by rw [Bool.and_eq_true, Bool.and_eq_true, decide_eq_true_eq, decide_eq_true_eq, List.contains_iff_mem]; exact ⟨⟨h2, h3⟩, h4⟩⟩
def mkB (base : Int) (ks : List Int) (pss : List (List Int)) (ts : List Int) (i : Nat) : Bool := ts.all fun t => lstB base ks pss t i
theorem mkB_iff (base : Int) (ks : List Int) (pss : List (List Int)) (ts : List Int) (i : Nat) : mkB base ks pss ts i = true ↔ ∀ t ∈ ts, Lst base ks pss t i := by
  unfold mkB
  rw [List.all_eq_true]
  exact ⟨fun h t ht => (lstB_iff _ _ _ _ _).1 (h t ht), fun h t ht => (lstB_iff _ _ _ _ _).2 (h t ht)⟩
def smB (base : Int) (ks : List Int) (pss qss : List (List Int)) (c i : Nat) : Bool := (List.range c).any fun c' => mkB base ks pss (qss[c']?.getD []) i
theorem smB_iff (base : Int) (ks : List Int) (pss qss : List (List Int)) (c i : Nat) : smB base ks pss qss c i = true ↔ ∃ c', c' < c ∧ ∀ t ∈ qss[c']?.getD [], Lst base ks pss t i := by
  unfold smB
  rw [List.any_eq_true]
  constructor
  · rintro ⟨c', h1, h2⟩
    exact ⟨c', List.mem_range.1 h1, (mkB_iff _ _ _ _ _).1 h2⟩
  · rintro ⟨c', h1, h2⟩
    exact ⟨c', List.mem_range.2 h1, (mkB_iff _ _ _ _ _).2 h2⟩
def cndL (base : Int) (n : Nat) (p : Nat → Bool) : List Int := ((List.range n).filter p).map (fun i : Nat => wrap64 (base + i))
theorem cndL_yes {base : Int} {n : Nat} {p : Nat → Bool} (h : p n = true) : cndL base (n + 1) p = cndL base n p ++ [wrap64 (base + n)] := by
  unfold cndL
  rw [List.range_succ, List.filter_append, List.map_append]
  congr 1
  rw [List.filter_cons_of_pos h]
  rfl
theorem cndL_no {base : Int} {n : Nat} {p : Nat → Bool} (h : ¬ p n = true) : cndL base (n + 1) p = cndL base n p := by
  unfold cndL
  rw [List.range_succ, List.filter_append, List.map_append]
  rw [List.filter_cons_of_neg h]
  simp
theorem cndL_len (base : Int) (n : Nat) (p : Nat → Bool) : (cndL base n p).length ≤ n := by
  unfold cndL
  rw [List.length_map]
  exact Nat.le_trans (List.length_filter_le _ _) (by simp)
theorem pushd_al (w : World) (o : Obj) : Pushd w (w.alloc o) o := ⟨rfl, rfl, rfl, rfl⟩
theorem ss_at {w : World} {v : Value} {xss : List (List Int)} (h : SsAt mI 0 w.heap.size w v xss) : ∃ a cap, v = .slice a xss.length cap ∧ xss.length ≤ 9223372036854775807 ∧ ∀ i : Nat, i < xss.length → ∃ b off sa sc, a = some ⟨b, off, none⟩ ∧ b < w.heap.size ∧ w.cell? ⟨b, off + i, none⟩ = some (.slice sa (xss[i]?.getD []).length sc) ∧ SlAt mI 0 0 w.heap.size w (.slice sa (xss[i]?.getD []).length sc) (xss[i]?.getD []) ∧ CapOk (.slice sa (xss[i]?.getD []).length sc) := by
  obtain ⟨a, cap, rfl, hl, hc⟩ := h
  refine ⟨a, cap, rfl, by unfold maxLen at hl; omega, fun i hi => ?_⟩
  obtain ⟨b, off, rfl, hb, hcell⟩ := hc (by omega)
  obtain ⟨s, h1, h2, h3⟩ := hcell i hi
  obtain ⟨sa, sc, rfl, -, -⟩ := id h2
  exact ⟨b, off, sa, sc, rfl, hb, h1, h2, h3⟩
theorem grown_bel {base e sz n : Nat} {w w' : World} {v : Value} {xs : List Value} (h : w.ownsRow base e sz v n xs) (hb : base ≤ w.heap.size) (r : w.grownBy w' v.ownBlock) : Below base w w' :=
  ⟨r.os, r.tape, r.output, r.size, fun k hk => r.block k (by omega) (fun e9 => by have := (h.lt k e9.symm).1; omega)⟩
theorem app_i1 {w : World} {ops : Array Oper} {rest : List Oper} {o : Oper} {a : Act} {Q : Exit → Act → World → Prop} (hgd : o.guard = none) (s x : Operand)
    (ho : o.op = .call { callee := .builtin .append, args := #[s, x], argTypes := #[34, 34] }) (base : Nat) (v : Value) (hs : a.eval s = v) (y : Int) (hx : a.eval x = .slice (some ⟨w.heap.size, 0, none⟩) 1 1) (xs : List Int)
    (h1 : w.ownsRow base 3 1 v xs.length (xs.map mI)) (hb : base ≤ w.heap.size) (hl : xs.length ≤ 1000000)
    (h : ∀ v' w', w'.ownsRow base 3 1 v' (xs ++ [y]).length ((xs ++ [y]).map mI) → Below base w w' → wpList Tryz.prog ops Q rest (a.put o.dst v') w') : wpList Tryz.prog ops Q (o :: rest) a (w.alloc (.cells #[.int .i64 y] 3)) := by
  obtain ⟨i0, hi, hz0, hz1, hz2⟩ := info_parts Tryz.zinInt
  refine wpList_append_own_at _ hgd s x 34 ho base 3 i0 (.int .i64 0) 1 8 Tryz.underlying34 hi hz0 hz1 hz2 rfl (by decide) v xs.length (xs.map mI) hs (h1.alloc _) ⟨w.heap.size, 0, none⟩ 1 1 [.int .i64 y] hx rfl (cell_1 ((pushd_al w _).news 0 _ rfl)) (fun u hu => by rw [List.mem_singleton] at hu; subst hu; rfl) (by unfold maxLen; omega) (by omega) (by rw [sz_alloc]; omega) ?_
  intro v' w' r1 r2 _ r3
  refine h v' w' ?_ ((below1 w _).mono hb |>.trans (grown_bel (h1.alloc _) (by rw [sz_alloc]; omega) r2))
  rw [List.length_append, List.map_append]
  exact r1
def rchB (xss : List (List Int)) (ks : List Int) (pss qss : List (List Int)) : Bool :=
  decide (xss.length ≤ 1000) && decide (ks.length ≤ 20000) && pss.all (fun p => decide (p.length ≤ 1000)) && decide (qss.length ≤ 1000) && qss.all (fun p => decide (p.length ≤ 1000))
theorem all_at {pss : List (List Int)} : pss.all (fun p => decide (p.length ≤ 1000)) = true ↔ ∀ i : Nat, i < pss.length → (pss[i]?.getD []).length ≤ 1000 := by
  rw [List.all_eq_true]
  constructor
  · intro h i hi
    rw [List.getElem?_eq_getElem hi]
    exact of_decide_eq_true (h _ (List.getElem_mem hi))
  · intro h p hp
    obtain ⟨i, hi, e⟩ := List.getElem_of_mem hp
    have := h i hi
    rw [List.getElem?_eq_getElem hi, Option.getD_some, e] at this
    exact decide_eq_true this
theorem rchB_iff (xss : List (List Int)) (ks : List Int) (pss qss : List (List Int)) : rchB xss ks pss qss = true ↔ Rch xss ks pss qss := by
  unfold rchB Rch
  rw [Bool.and_eq_true, Bool.and_eq_true, Bool.and_eq_true, Bool.and_eq_true, decide_eq_true_eq, decide_eq_true_eq, decide_eq_true_eq, all_at, all_at]
  exact ⟨fun ⟨⟨⟨⟨a, b⟩, c⟩, d⟩, e⟩ => ⟨a, b, c, d, e⟩, fun ⟨a, b, c, d, e⟩ => ⟨⟨⟨⟨a, b⟩, c⟩, d⟩, e⟩⟩
def cndA (base : Int) (xss : List (List Int)) (ks : List Int) (pss qss : List (List Int)) : List Int := if rchB xss ks pss qss = true then cndL base xss.length (smB base ks pss qss qss.length) else []
theorem cndA_yes {base : Int} {xss : List (List Int)} {ks : List Int} {pss qss : List (List Int)} (h : Rch xss ks pss qss) : cndA base xss ks pss qss = cndL base xss.length (smB base ks pss qss qss.length) := if_pos ((rchB_iff _ _ _ _).2 h)
theorem cndA_no {base : Int} {xss : List (List Int)} {ks : List Int} {pss qss : List (List Int)} (h : ¬ Rch xss ks pss qss) : cndA base xss ks pss qss = [] := if_neg (fun q => h ((rchB_iff _ _ _ _).1 q))
theorem smB_zero (base : Int) (ks : List Int) (pss qss : List (List Int)) (i : Nat) : smB base ks pss qss 0 i = false := by
  cases h : smB base ks pss qss 0 i with
  | false => rfl
  | true => rw [smB_iff] at h; obtain ⟨c, hc, -⟩ := h; omega
theorem smB_succ (base : Int) (ks : List Int) (pss qss : List (List Int)) (c i : Nat) : smB base ks pss qss (c + 1) i = (smB base ks pss qss c i || mkB base ks pss (qss[c]?.getD []) i) := by
  rw [Bool.eq_iff_iff, Bool.or_eq_true, smB_iff, smB_iff, mkB_iff]
  constructor
  · rintro ⟨c', h1, h2⟩
    by_cases e : c' = c
    · subst e; exact .inr h2
    · exact .inl ⟨c', by omega, h2⟩
  · rintro (⟨c', h1, h2⟩ | h)
    · exact ⟨c', by omega, h2⟩
    · exact ⟨c, by omega, h⟩
theorem takeC_snoc {ts : List Int} {k : Nat} (h : k < ts.length) : ts.take (k + 1) = ts.take k ++ [ts[k]?.getD 0] := by
  rw [List.take_add_one, List.getElem?_eq_getElem h]; rfl
def ShrtS (pss : List (List Int)) (m : Nat) : Prop := ∀ i : Nat, i < pss.length → (pss[i]?.getD []).length ≤ m
set_option maxHeartbeats 1000000 in
theorem longer1_any (sa : Option Addr) (z sc lb m : Nat) (w : World) (hl : w.cell? ⟨lb, 0, none⟩ = some (.int .i64 (m : Nat))) :
    Calls Tryz.prog 93 #[.slice sa z sc, .pointer (some ⟨lb, 0, none⟩)] w fun e w' => e = .returned (.bool (decide (m < z))) ∧ w' = w := by
  by_cases h : m < z
  · have h' : (m : Int) < (z : Int) := by omega
    have hd : decide (m < z) = true := decide_eq_true h
    rw [hd]
    clear hd
    go_enter Tryz.func93, Tryz.ntmps93
    go_wp2
    go_ret
    exact ⟨rfl, rfl⟩
  · have h' : ¬ (m : Int) < (z : Int) := by omega
    have hd : decide (m < z) = false := decide_eq_false h
    rw [hd]
    clear hd
    go_enter Tryz.func93, Tryz.ntmps93
    go_wp2
    go_ret
    exact ⟨rfl, rfl⟩
def IxL (e : Ending) (pss : List (List Int)) (m : Nat) : Prop := (ShrtS pss m ∧ e = .returned (.int .i64 (-1))) ∨ (¬ ShrtS pss m ∧ ∃ i : Nat, e = .returned (.int .i64 i))
set_option maxHeartbeats 4000000 in
set_option maxRecDepth 100000 in
theorem indexLong_any (v : Value) (pss : List (List Int)) (lb m : Nat) (w : World) (hv : SsAt mI 0 w.heap.size w v pss) (hl : w.cell? ⟨lb, 0, none⟩ = some (.int .i64 (m : Nat))) :
    Calls Tryz.prog 129 #[v, .func (.func 93) #[] #[.pointer (some ⟨lb, 0, none⟩)]] w fun e w' => IxL e pss m ∧ w' = w := by
  obtain ⟨a, cap, rfl, hpl, hps⟩ := ss_at hv
  have HPS := hide hps
  have HL := hide hl
  clear hv hps hl
  go_enter Tryz.func129, Tryz.ntmps129
  go_wp2_with fail
  go_loop [8] (fun iv => ∃ k : Nat, k ≤ pss.length ∧ iv = .int .i64 (k : Nat) ∧ ∀ i : Nat, i < k → (pss[i]?.getD []).length ≤ m) (fun iv => pss.length - (intOf iv).toNat)
  case atStart => exact ⟨0, Nat.zero_le _, rfl, fun i hi => absurd hi (Nat.not_lt_zero _)⟩
  case round =>
    obtain ⟨k, hk, rfl, hp⟩ := hrel
    have Hp := hide hp
    clear hp
    by_cases hlt : k < pss.length
    · have hlt' : (k : Int) < (pss.length : Int) := by omega
      obtain ⟨b, off, sa, sc, rfl, hb, hcell, -, -⟩ := unhide HPS k hlt
      obtain ⟨z, hz⟩ : ∃ z, z = (pss[k]?.getD []).length := ⟨_, rfl⟩
      rw [← hz] at hcell
      have HCL := hide (longer1_any sa z sc lb m w (unhide HL))
      have HZ := hide hz
      clear hz
      go_wp2_with fail
      refine (unhide HCL).mono ?_
      rintro e w2 ⟨rfl, rfl⟩
      by_cases hg : m < z
      · have HX : Hid (¬ ShrtS pss m) := fun h => by have := h k hlt; rw [← unhide HZ] at this; omega
        rw [decide_eq_true hg]
        clear hg
        go_wp2
        go_ret
        exact ⟨.inr ⟨unhide HX, k, rfl⟩, rfl⟩
      · have HX : Hid (∀ i : Nat, i < k + 1 → (pss[i]?.getD []).length ≤ m) := fun i hi => by
          by_cases e : i = k
          · subst e; rw [← unhide HZ]; omega
          · exact unhide Hp i (by omega)
        rw [decide_eq_false hg]
        clear hg
        go_wp2
        go_round
        case rel => exact ⟨k + 1, by omega, by go_num, unhide HX⟩
        case measure => simp [intOf]; omega
    · obtain rfl : k = pss.length := by omega
      go_wp2
      go_ret
      exact ⟨.inl ⟨unhide Hp, rfl⟩, rfl⟩
set_option maxHeartbeats 2000000 in
set_option maxRecDepth 100000 in
theorem containsLong_any (v : Value) (pss : List (List Int)) (lb m : Nat) (w : World) (hv : SsAt mI 0 w.heap.size w v pss) (hl : w.cell? ⟨lb, 0, none⟩ = some (.int .i64 (m : Nat))) :
    Calls Tryz.prog 92 #[v, .func (.func 93) #[] #[.pointer (some ⟨lb, 0, none⟩)]] w fun e w' => RetB e (¬ ShrtS pss m) ∧ w' = w := by
  have HI := hide (indexLong_any v pss lb m w hv hl)
  obtain ⟨a, cap, rfl, -, -⟩ := hv
  clear hl
  go_enter Tryz.func92, Tryz.ntmps92
  go_wp2_with fail
  refine (unhide HI).mono ?_
  rintro e w2 ⟨⟨h, rfl⟩ | ⟨h, i, rfl⟩, rfl⟩
  · have HX : Hid (RetB (.returned (.bool false)) (¬ ShrtS pss m)) := RetB.no (fun q => q h)
    clear h HI
    go_wp2
    go_ret
    exact ⟨unhide HX, rfl⟩
  · have HX : Hid (RetB (.returned (.bool true)) (¬ ShrtS pss m)) := RetB.yes h
    have hi : (0 : Int) ≤ (i : Int) := by omega
    clear h HI
    go_wp2
    go_ret
    exact ⟨unhide HX, rfl⟩
set_option maxHeartbeats 2000000 in
set_option maxRecDepth 100000 in
theorem noneLonger_any (v : Value) (pss : List (List Int)) (m : Nat) (w : World) (hv : SsAt mI 0 w.heap.size w v pss) :
    Calls Tryz.prog 57 #[v, .int .i64 (m : Nat)] w fun e w' => RetB e (ShrtS pss m) ∧ Below w.heap.size w w' := by
  obtain ⟨W1, hW1⟩ : ∃ W1, W1 = w.alloc (.cells #[.int .i64 (m : Nat)] 3) := ⟨_, rfl⟩
  have hB1 : Below w.heap.size w W1 := by rw [hW1]; exact below1 w _
  have hl : W1.cell? ⟨w.heap.size, 0, none⟩ = some (.int .i64 (m : Nat)) := by rw [hW1]; exact (pushd_al w _).news 0 _ rfl
  have HC := hide (containsLong_any v pss w.heap.size m W1 (hv.below hB1 (Nat.le_refl _)) hl)
  obtain ⟨a, cap, rfl, -, -⟩ := hv
  have HW1 := hide hW1
  clear hW1 hl
  go_enter Tryz.func57, Tryz.ntmps57
  go_wp2_with fail
  rw [← unhide HW1]
  refine (unhide HC).mono ?_
  rintro e w2 ⟨hret, rfl⟩
  rcases hret.cases with ⟨rfl, h⟩ | ⟨rfl, h⟩
  · have HX : Hid (RetB (.returned (.bool false)) (ShrtS pss m)) := RetB.no h
    clear h HC hret
    go_wp2
    go_ret
    exact ⟨unhide HX, hB1⟩
  · have HX : Hid (RetB (.returned (.bool true)) (ShrtS pss m)) := RetB.yes (Classical.not_not.1 h)
    clear h HC hret
    go_wp2
    go_ret
    exact ⟨unhide HX, hB1⟩
set_option maxHeartbeats 4000000 in
set_option maxRecDepth 100000 in
theorem withinC_any (v u : Value) (base : Int) (xss pss qss : List (List Int)) (ks : List Int) (w : World) (hv : SegRd w v base xss ks pss) (hu : SsAt mI 0 w.heap.size w u qss) :
    Calls Tryz.prog 27 #[v, .agg #[u]] w fun e w' => RetB e (Rch xss ks pss qss) ∧ Below w.heap.size w w' := by
  obtain ⟨lv, kv, pv, rfl, h1, h2, h3⟩ := hv
  obtain ⟨la, lc, rfl, -, -⟩ := id h1
  obtain ⟨ka, kc, rfl, -, -⟩ := id h2
  obtain ⟨pa, pc, rfl, -, -⟩ := id h3
  obtain ⟨ua, uc, rfl, -, -⟩ := id hu
  obtain ⟨W2, hW2⟩ : ∃ W2, W2 = (w.alloc (.cells #[.int .i64 base, .slice la xss.length lc, .slice ka ks.length kc, .slice pa pss.length pc] 38)).alloc (.cells #[.slice ua qss.length uc] 31) := ⟨_, rfl⟩
  have hB2 : Below w.heap.size w W2 := by rw [hW2]; exact below2 w _ _
  have hz2 : W2.heap.size = w.heap.size + 2 := by rw [hW2, sz_alloc, sz_alloc]
  have hR2 : Row4 W2 w.heap.size 38 (.int .i64 base) (.slice la xss.length lc) (.slice ka ks.length kc) (.slice pa pss.length pc) := by rw [hW2]; exact (Row4.new w _ _ _ _ _).alloc _
  have hq : W2.cell? ⟨w.heap.size + 1, 0, none⟩ = some (.slice ua qss.length uc) := by
    have := (pushd_al (w.alloc (.cells #[.int .i64 base, .slice la xss.length lc, .slice ka ks.length kc, .slice pa pss.length pc] 38)) (.cells #[.slice ua qss.length uc] 31)).news 0 _ rfl
    rw [sz_alloc] at this
    rw [hW2]
    exact this
  have HNP := hide (noneLonger_any _ pss 1000 W2 (h3.below hB2 (Nat.le_refl _)))
  have HNQ : Hid (∀ V, Below W2.heap.size W2 V → Calls Tryz.prog 57 #[.slice ua qss.length uc, .int .i64 ((1000 : Nat) : Int)] V fun e w' => RetB e (ShrtS qss 1000) ∧ Below V.heap.size V w') := fun V hV => noneLonger_any _ qss 1000 V ((hu.below hB2 (Nat.le_refl _)).below hV (Nat.le_refl _))
  obtain ⟨k0, k1, k2, k3, -⟩ := hR2.facts
  have HW2 := hide hW2
  have HB2 := hide hB2
  have HQ := hide hq
  have hz2' : w.heap.size + 2 ≤ W2.heap.size := by omega
  clear h1 h2 h3 hu hW2 hB2 hR2 hz2
  go_enter Tryz.func27, Tryz.ntmps27
  by_cases e1 : xss.length ≤ 1000
  · by_cases e2 : ks.length ≤ 20000
    · have f1 : (xss.length : Int) ≤ 1000 := by omega
      have f2 : (ks.length : Int) ≤ 20000 := by omega
      go_wp2_with fail
      rw [← unhide HW2]
      refine (unhide HNP).mono ?_
      rintro e w3 ⟨hret, hb3⟩
      have hB3 : Below w.heap.size w w3 := (unhide HB2).trans (hb3.mono (unhide HB2).size)
      have hq3 : w3.cell? ⟨w.heap.size + 1, 0, none⟩ = some (.slice ua qss.length uc) := by rw [hb3.cell (p := ⟨w.heap.size + 1, 0, none⟩) (by show w.heap.size + 1 < _; omega)]; exact unhide HQ
      rcases hret.cases with ⟨rfl, hp⟩ | ⟨rfl, hp⟩
      · by_cases e3 : qss.length ≤ 1000
        · have f3 : (qss.length : Int) ≤ 1000 := by omega
          have HN2 := hide (unhide HNQ w3 hb3)
          have HP := hide hp
          clear hp hret hb3 HNP HNQ
          go_wp2_with fail
          refine (unhide HN2).mono ?_
          rintro e w4 ⟨hret, hb4⟩
          have hB4 : Below w.heap.size w w4 := hB3.trans (hb4.mono hB3.size)
          rcases hret.cases with ⟨rfl, hs⟩ | ⟨rfl, hs⟩
          · have HX : Hid (RetB (.returned (.bool true)) (Rch xss ks pss qss)) := RetB.yes ⟨e1, e2, unhide HP, e3, hs⟩
            clear hs hret hb4 HN2
            go_wp2
            go_ret
            exact ⟨unhide HX, hB4⟩
          · have HX : Hid (RetB (.returned (.bool false)) (Rch xss ks pss qss)) := RetB.no (fun h => hs h.2.2.2.2)
            clear hs hret hb4 HN2
            go_wp2
            go_ret
            exact ⟨unhide HX, hB4⟩
        · have f3 : ¬ (qss.length : Int) ≤ 1000 := by omega
          have HX : Hid (RetB (.returned (.bool false)) (Rch xss ks pss qss)) := RetB.no (fun h => e3 h.2.2.2.1)
          clear hp hret hb3 HNP HNQ
          go_wp2
          go_ret
          exact ⟨unhide HX, hB3⟩
      · have HX : Hid (RetB (.returned (.bool false)) (Rch xss ks pss qss)) := RetB.no (fun h => hp h.2.2.1)
        clear hp hret hb3 HNP HNQ
        go_wp2
        go_ret
        exact ⟨unhide HX, hB3⟩
    · have f1 : (xss.length : Int) ≤ 1000 := by omega
      have f2 : ¬ (ks.length : Int) ≤ 20000 := by omega
      have HX : Hid (RetB (.returned (.bool false)) (Rch xss ks pss qss)) := RetB.no (fun h => e2 h.2.1)
      go_wp2
      rw [← unhide HW2]
      go_ret
      exact ⟨unhide HX, unhide HB2⟩
  · have f1 : ¬ (xss.length : Int) ≤ 1000 := by omega
    have HX : Hid (RetB (.returned (.bool false)) (Rch xss ks pss qss)) := RetB.no (fun h => e1 h.1)
    go_wp2
    rw [← unhide HW2]
    go_ret
    exact ⟨unhide HX, unhide HB2⟩
def LnF (g : Nat → Nat) : Prop := ∀ j : Nat, g j < 18446744073709551616
def LnB (g : Nat → Nat) (b : Nat) : Bool := (g (b / 64)).testBit (b % 64)
def lnW (g : Nat → Nat) (j : Nat) : Value := .int .u64 (g j : Nat)
def lnP (g : Nat → Nat) (k : Nat) : Nat → Nat := fun j => if j = k / 64 then g (k / 64) ||| 2 ^ (k % 64) else g j
theorem ln_or (a i : Nat) (ha : a < 18446744073709551616) (hi : i < 64) : bits .or .u64 (a : Int) (IntKind.u64.wrap (2 ^ i)) = ((a ||| 2 ^ i : Nat) : Int) := by
  have h1 : (2 : Nat) ^ i < 2 ^ 64 := Nat.pow_lt_pow_right (by omega) hi
  have h2 : IntKind.u64.wrap ((2 : Int) ^ i) = ((2 ^ i : Nat) : Int) := by
    rw [IntKind.wrap_u64, Int.natCast_pow]
    have : ((2 ^ i : Nat) : Int) < 18446744073709551616 := by omega
    rw [Int.natCast_pow] at this
    have h0 : (0 : Int) ≤ (2 : Int) ^ i := Int.pow_nonneg (by omega)
    exact Int.emod_eq_of_lt h0 this
  rw [h2]
  exact bits_or_u64_nat a (2 ^ i) ha (by omega)
theorem lnF_put {g : Nat → Nat} (h : LnF g) (k : Nat) : LnF (lnP g k) := fun j => by
  unfold lnP
  split
  · have h1 : (2 : Nat) ^ (k % 64) < 2 ^ 64 := Nat.pow_lt_pow_right (by omega) (by omega)
    have h2 := h (k / 64)
    have : g (k / 64) ||| 2 ^ (k % 64) < 2 ^ 64 := Nat.or_lt_two_pow (by omega) h1
    omega
  · exact h j
theorem lnB_put (g : Nat → Nat) (k b : Nat) : LnB (lnP g k) b = (LnB g b || decide (b = k)) := by
  unfold LnB lnP
  by_cases e : b / 64 = k / 64
  · simp only [e, if_true, Nat.testBit_or, Nat.testBit_two_pow]
    congr 1
    by_cases e2 : k % 64 = b % 64
    · have : b = k := by omega
      simp [e2, this]
    · have : b ≠ k := fun h => e2 (by rw [h])
      simp [e2, this]
  · have : b ≠ k := fun h => e (by rw [h])
    simp [e, this]
theorem ln_shr (a i : Nat) (ha : a < 18446744073709551616) : (bits .and .u64 ((a : Int) / 2 ^ i) 1 == 1) = a.testBit i := by
  have h1 : (a : Int) / 2 ^ i = ((a / 2 ^ i : Nat) : Int) := by rw [Int.natCast_ediv, Int.natCast_pow]; rfl
  have h2 : a / 2 ^ i < 18446744073709551616 := Nat.lt_of_le_of_lt (Nat.div_le_self _ _) ha
  rw [h1, show (1 : Int) = ((1 : Nat) : Int) from rfl, bits_and_u64_nat _ _ h2 (by omega), Nat.and_one_is_mod, Nat.testBit_eq_decide_div_mod_eq]
  by_cases e : a / 2 ^ i % 2 = 1
  · simp [e]
  · have e0 : a / 2 ^ i % 2 = 0 := by omega
    simp [e0]
theorem ret_bl {a b : Bool} (h : a = b) : (Ending.returned (.bool a)) = .returned (.bool b) := by rw [h]
set_option maxHeartbeats 1000000 in
theorem lnPut_any (b i : Nat) (g : Nat → Nat) (w : World) (hg : LnF g) (hi : i < 1024) (hrow : w.rowIs b 62 16 (lnW g)) :
    Calls Tryz.prog 29 #[.pointer (some ⟨b, 0, none⟩), .int .i64 (i : Nat)] w fun e w' => e = .returned (.tuple #[]) ∧ w'.rowIs b 62 16 (lnW (lnP g i)) ∧ Obk b w w' := by
  have hq : i / 64 < 16 := by omega
  have c0 := hrow.cell hq
  have f0 := hrow.frozen (i / 64)
  unfold lnW at c0
  have hq' : ((i / 64 : Nat) : Int) < 16 := by omega
  have hq2 : (i : Int) / 64 < 16 := by omega
  have hq3 : 0 ≤ (i : Int) / 64 := by omega
  have hor := ln_or (g (i / 64)) (i % 64) (hg _) (by omega)
  have Hor := hide hor
  have HR := hide hrow
  clear hrow hor hg
  go_enter Tryz.func29, Tryz.ntmps29
  go_region
  go_wp2
  rw [unhide Hor]
  first | (refine bodyPost_ret (results_none rfl _ _ _) rfl ?_) | (refine bodyPost_end (results_none rfl _ _ _) rfl ?_)
  exact ⟨rfl, (((unhide HR).set (i / 64) _).congr (fun j _ => by unfold lnW lnP; by_cases e : j = i / 64 <;> simp [e])).drew, (obk_put _ _).drew⟩
set_option maxHeartbeats 1000000 in
theorem lnHas_any (b i : Nat) (g : Nat → Nat) (w : World) (hg : LnF g) (hi : i < 1024) (hrow : w.rowIs b 62 16 (lnW g)) :
    Calls Tryz.prog 32 #[.pointer (some ⟨b, 0, none⟩), .int .i64 (i : Nat)] w fun e w' => e = .returned (.bool (LnB g i)) ∧ w' = w := by
  have hbt : Hid ((bits .and .u64 ((g (i / 64) : Int) / 2 ^ (i % 64)) 1 == 1) = LnB g i) := ln_shr _ _ (hg _)
  have hq : i / 64 < 16 := by omega
  have c0 := hrow.cell hq
  unfold lnW at c0
  have hq2 : (i : Int) / 64 < 16 := by omega
  have hq3 : 0 ≤ (i : Int) / 64 := by omega
  clear hrow hg
  go_enter Tryz.func32, Tryz.ntmps32
  go_wp2
  go_ret
  exact ⟨ret_bl (unhide hbt), rfl⟩
def blkOf (g : Nat → Nat) (m : Nat) : List (Nat × Nat) := ((List.range m).filter (fun j => !(g j == 0))).map (fun j => (j, g j))
def flB (bs : List (Nat × Nat)) : List Value := bs.flatMap fun p => [.int .i64 (p.1 : Nat), .int .u64 (p.2 : Nat)]
theorem blkOf_yes {g : Nat → Nat} {m : Nat} (h : g m ≠ 0) : blkOf g (m + 1) = blkOf g m ++ [(m, g m)] := by
  unfold blkOf
  rw [List.range_succ, List.filter_append, List.map_append]
  congr 1
  rw [List.filter_cons_of_pos (by simpa using h)]
  rfl
theorem blkOf_no {g : Nat → Nat} {m : Nat} (h : g m = 0) : blkOf g (m + 1) = blkOf g m := by
  unfold blkOf
  rw [List.range_succ, List.filter_append, List.map_append]
  rw [List.filter_cons_of_neg (by simp [h])]
  simp
theorem blkOf_len (g : Nat → Nat) (m : Nat) : (blkOf g m).length ≤ m := by
  unfold blkOf
  rw [List.length_map]
  exact Nat.le_trans (List.length_filter_le _ _) (by simp)
theorem blkOf_mem {g : Nat → Nat} {m : Nat} {p : Nat × Nat} : p ∈ blkOf g m ↔ p.1 < m ∧ g p.1 ≠ 0 ∧ p.2 = g p.1 := by
  unfold blkOf
  rw [List.mem_map]
  constructor
  · rintro ⟨j, hj, rfl⟩
    rw [List.mem_filter, List.mem_range] at hj
    exact ⟨hj.1, by simpa using hj.2, rfl⟩
  · rintro ⟨h1, h2, h3⟩
    refine ⟨p.1, List.mem_filter.2 ⟨List.mem_range.2 h1, by simpa using h2⟩, ?_⟩
    rw [← h3]
theorem blkOf_asc (g : Nat → Nat) (m : Nat) : (blkOf g m).Pairwise (fun p q => p.1 < q.1) := by
  unfold blkOf
  rw [List.pairwise_map]
  exact List.Pairwise.filter _ List.pairwise_lt_range
theorem flB_at (bs : List (Nat × Nat)) {i : Nat} {p : Nat × Nat} (h : bs[i]? = some p) : (flB bs)[i * 2]? = some (.int .i64 (p.1 : Nat)) ∧ (flB bs)[i * 2 + 1]? = some (.int .u64 (p.2 : Nat)) := by
  induction bs generalizing i with
  | nil => simp at h
  | cons a bs ih =>
    cases i with
    | zero => simp at h; subst h; simp [flB]
    | succ i =>
      simp only [List.getElem?_cons_succ] at h
      obtain ⟨h1, h2⟩ := ih h
      have e1 : (i + 1) * 2 = i * 2 + 1 + 1 := by omega
      rw [e1]
      exact ⟨by simpa [flB] using h1, by simpa [flB] using h2⟩
theorem flB_snoc (bs : List (Nat × Nat)) (p : Nat × Nat) : flB (bs ++ [p]) = flB bs ++ [.int .i64 (p.1 : Nat), .int .u64 (p.2 : Nat)] := by simp [flB]
theorem Tryz.zinLb : (Tryz.prog.info? 68).map (fun i => (i.zero, i.size, i.bytes)) = some (some (.agg #[.int .i64 0, .int .u64 0]), 2, 16) := by kernel_rfl
theorem app_bl {w : World} {ops : Array Oper} {rest : List Oper} {o : Oper} {a : Act} {Q : Exit → Act → World → Prop} (hgd : o.guard = none) (s x : Operand)
    (ho : o.op = .call { callee := .builtin .append, args := #[s, x], argTypes := #[64, 64] }) (base : Nat) (v : Value) (hs : a.eval s = v) (n b : Nat) (hx : a.eval x = .slice (some ⟨w.heap.size, 0, none⟩) 1 1) (bs : List (Nat × Nat))
    (h1 : w.ownsRow base 68 2 v bs.length (flB bs)) (hb : base ≤ w.heap.size) (hl : bs.length ≤ 1000000)
    (h : ∀ v' w', w'.ownsRow base 68 2 v' (bs ++ [(n, b)]).length (flB (bs ++ [(n, b)])) → Below base w w' → wpList Tryz.prog ops Q rest (a.put o.dst v') w') : wpList Tryz.prog ops Q (o :: rest) a (w.alloc (.cells #[.int .i64 (n : Nat), .int .u64 (b : Nat)] 68)) := by
  obtain ⟨i0, hi, hz0, hz1, hz2⟩ := info_parts Tryz.zinLb
  refine wpList_append_own_at _ hgd s x 64 ho base 68 i0 (.agg #[.int .i64 0, .int .u64 0]) 2 16 Tryz.underlying64 hi hz0 hz1 hz2 rfl (by decide) v bs.length (flB bs) hs (h1.alloc _) ⟨w.heap.size, 0, none⟩ 1 1 [.int .i64 (n : Nat), .int .u64 (b : Nat)] hx rfl (fun j u hu => ?_) (fun u hu => ?_) (by unfold maxLen; omega) (by omega) (by rw [sz_alloc]; omega) ?_
  · exact (pushd_al w _).news j u hu
  · simp only [List.mem_cons, List.not_mem_nil, or_false] at hu
    rcases hu with rfl | rfl <;> rfl
  intro v' w' r1 r2 _ _
  refine h v' w' ?_ (((below1 w _).mono hb).trans (grown_bel (h1.alloc _) (by rw [sz_alloc]; omega) r2))
  rw [flB_snoc, List.length_append]
  exact r1
set_option maxHeartbeats 4000000 in
set_option maxRecDepth 100000 in
theorem blocks_any (b : Nat) (g : Nat → Nat) (w : World) (hrow : w.rowIs b 62 16 (lnW g)) :
    Calls Tryz.prog 31 #[.pointer (some ⟨b, 0, none⟩)] w fun e w' => ∃ v, e = .returned v ∧ w'.ownsRow w.heap.size 68 2 v (blkOf g 16).length (flB (blkOf g 16)) ∧ Below w.heap.size w w' := by
  obtain ⟨R, hR⟩ : ∃ R, R = blkOf g 16 := ⟨_, rfl⟩
  rw [← hR]
  have HR := hide hR
  have HROW := hide hrow
  have hbl := hrow.lt
  clear hrow hR
  go_enter Tryz.func31, Tryz.ntmps31
  go_wp2_with fail
  go_loopw [3, 7] (fun ov iv wr => ∃ (i : Nat) (bs : List (Nat × Nat)), i ≤ 16 ∧ iv = .int .i64 (i : Nat) ∧ bs = blkOf g i ∧ wr.ownsRow w.heap.size 68 2 ov bs.length (flB bs) ∧ Below w.heap.size w wr) (fun _ iv _ => 16 - (intOf iv).toNat)
  case atStart => exact ⟨0, [], by omega, rfl, rfl, World.ownsRow_nil _ _ _ _, Below.refl _ _⟩
  case round =>
    obtain ⟨i, bs, hi, rfl, hbs, hown, hb⟩ := hrel
    obtain ⟨w1, rfl⟩ : ∃ w1, w1 = wr := ⟨_, rfl⟩
    have hz := hb.size
    obtain ⟨oa, oc, e1⟩ := own_is hown
    subst e1
    have hbl2 : bs.length ≤ 16 := by rw [hbs]; exact Nat.le_trans (blkOf_len _ _) (by omega)
    by_cases hil : i < 16
    · have hil' : (i : Int) < 16 := by omega
      have c0 := ((unhide HROW).of_block (hb.block b hbl)).cell hil
      unfold lnW at c0
      obtain ⟨gi, hgi⟩ : ∃ gi, gi = g i := ⟨_, rfl⟩
      rw [← hgi] at c0
      have HOWN := hide hown
      have HB := hide hb
      by_cases hz0 : gi = 0
      · have HBS : Hid (bs = blkOf g (i + 1)) := by show bs = _; rw [blkOf_no (by rw [← hgi]; exact hz0)]; exact hbs
        have c1 : w1.cell? ⟨b, i, none⟩ = some (.int .u64 0) := by rw [c0, hz0]; rfl
        clear hown hb hbs hgi hz0 c0
        go_wp2_with fail
        go_quiet (fail)
        go_wp2
        go_roundw
        case rel => exact ⟨i + 1, bs, by omega, by go_num, unhide HBS, unhide HOWN, below_drewN (unhide HB) _⟩
        case measure => simp [intOf]; omega
      · have hz0' : ¬ (gi : Int) = 0 := by omega
        have HBS : Hid (bs ++ [(i, gi)] = blkOf g (i + 1)) := by show bs ++ _ = _; rw [blkOf_yes (by rw [← hgi]; exact hz0), ← hbs, hgi]
        clear hown hb hbs hgi
        go_wp2_with fail
        go_quiet (fail)
        obtain ⟨V, hV⟩ : ∃ V, V = w1.drewN nq := ⟨_, rfl⟩
        rw [← hV]
        have HO2 : Hid (V.ownsRow w.heap.size 68 2 (.slice oa bs.length oc) bs.length (flB bs)) := by rw [hV]; exact unhide HOWN
        have HB2 : Hid (Below w.heap.size w V) := by rw [hV]; exact below_drewN (unhide HB) _
        have hzV := (unhide HB2).size
        clear hV HOWN HB c0
        go_wp2_with (at_builtin; refine app_bl rfl _ _ rfl w.heap.size (.slice oa bs.length oc) rfl i gi rfl bs (unhide HO2) ?_ ?_ ?_)
        · omega
        · omega
        intro v2 w2 r1 r2
        obtain ⟨bs2, hbs2⟩ : ∃ bs2, bs2 = bs ++ [(i, gi)] := ⟨_, rfl⟩
        have r1 : w2.ownsRow w.heap.size 68 2 v2 bs2.length (flB bs2) := by rw [hbs2, List.length_append]; exact r1
        rw [← hbs2] at HBS
        obtain ⟨a2, c2, e2⟩ := own_is r1
        subst e2
        have HO3 := hide r1
        have HB3 := hide ((unhide HB2).trans r2)
        clear r1 r2 hbs2 HO2 HB2
        go_wp2
        go_roundw
        case rel => exact ⟨i + 1, bs2, by omega, by go_num, unhide HBS, unhide HO3, unhide HB3⟩
        case measure => simp [intOf]; omega
    · have hil' : ¬ (i : Int) < 16 := by omega
      have hbR : bs = R := by rw [hbs, unhide HR, show i = 16 by omega]
      have HBR := hide hbR
      have HOWN := hide hown
      have HB := hide hb
      clear hown hb hbs hbR
      go_wp2
      go_ret
      rw [← unhide HBR]
      exact ⟨_, rfl, unhide HOWN, unhide HB⟩
def mtc (h : Nat → Nat) (p : Nat × Nat) : List (Nat × Nat) := if p.2 &&& h p.1 = 0 then [] else [(p.1, p.2 &&& h p.1)]
theorem mtc_len (h : Nat → Nat) (p : Nat × Nat) : (mtc h p).length ≤ 1 := by unfold mtc; split <;> simp
theorem blk_meet (f h : Nat → Nat) (m : Nat) : (blkOf f m).flatMap (mtc h) = blkOf (fun j => f j &&& h j) m := by
  induction m with
  | zero => rfl
  | succ m ih =>
    by_cases e : f m = 0
    · rw [blkOf_no e, ih, blkOf_no (by simp [e])]
    · rw [blkOf_yes e, List.flatMap_append, ih]
      by_cases e2 : f m &&& h m = 0
      · rw [blkOf_no (by exact e2)]
        simp [mtc, e2]
      · rw [blkOf_yes (by exact e2)]
        simp [mtc, e2]
theorem flat_take {h : Nat → Nat} {bs : List (Nat × Nat)} {i : Nat} {p : Nat × Nat} (hp : bs[i]? = some p) : (bs.take (i + 1)).flatMap (mtc h) = (bs.take i).flatMap (mtc h) ++ mtc h p := by
  rw [List.take_add_one, hp, List.flatMap_append]
  simp
theorem flat_len (h : Nat → Nat) (bs : List (Nat × Nat)) : (bs.flatMap (mtc h)).length ≤ bs.length := by
  induction bs with
  | nil => simp
  | cons p bs ih => rw [List.flatMap_cons, List.length_append, List.length_cons]; have := mtc_len h p; omega
theorem mtc_none {h : Nat → Nat} {p : Nat × Nat} (e : h p.1 = 0) : mtc h p = [] := by unfold mtc; rw [if_pos (by rw [e]; simp)]
theorem flat_none {h : Nat → Nat} {bs : List (Nat × Nat)} (e : ∀ p ∈ bs, h p.1 = 0) : bs.flatMap (mtc h) = [] := by
  rw [List.flatMap_eq_nil_iff]
  exact fun p hp => mtc_none (e p hp)
theorem asc_of {os : List (Nat × Nat)} (h : os.Pairwise (fun p q => p.1 < q.1)) {i j : Nat} {p q : Nat × Nat} (hij : i < j) (hp : os[i]? = some p) (hq : os[j]? = some q) : p.1 < q.1 := by
  rw [List.pairwise_iff_getElem] at h
  obtain ⟨h1, rfl⟩ := List.getElem?_eq_some_iff.1 hp
  obtain ⟨h2, rfl⟩ := List.getElem?_eq_some_iff.1 hq
  exact h i j h1 h2 hij
theorem none_at {h : Nat → Nat} {os : List (Nat × Nat)} (hos : os = blkOf h 16) {n p : Nat} (hn : n < 16) (hlo : ∀ q x, q < p → os[q]? = some x → x.1 < n) (hhi : ∀ x, os[p]? = some x → n < x.1) : h n = 0 := by
  apply Classical.byContradiction
  intro e
  have hm : (n, h n) ∈ os := by rw [hos, blkOf_mem]; exact ⟨hn, e, rfl⟩
  obtain ⟨q, hq⟩ := List.getElem?_of_mem hm
  rcases Nat.lt_trichotomy q p with k | k | k
  · have := hlo q _ k hq; omega
  · subst k; have := hhi _ hq; simp at this
  · obtain ⟨x, hx⟩ : ∃ x, os[p]? = some x := ⟨_, List.getElem?_eq_getElem (by have := (List.getElem?_eq_some_iff.1 hq).1; omega)⟩
    have h1 := hhi x hx
    have h2 := asc_of (by rw [hos]; exact blkOf_asc h 16) k hx hq
    simp at h2
    omega
structure MtS (w0 wr : World) (g M : Nat) (bs r : List (Nat × Nat)) (i : Nat) : Prop where
  row : ∃ F, wr.rowIs g 68 M F ∧ (∀ (k : Nat) (p : Nat × Nat), r[k]? = some p → F (k * 2) = .int .i64 (p.1 : Nat) ∧ F (k * 2 + 1) = .int .u64 (p.2 : Nat)) ∧ ∀ (k : Nat) (p : Nat × Nat), i ≤ k → bs[k]? = some p → F (k * 2) = .int .i64 (p.1 : Nat) ∧ F (k * 2 + 1) = .int .u64 (p.2 : Nat)
  fr : FrO (fun k => k = g ∨ w0.heap.size ≤ k) w0 wr
def OtV (b off p : Nat) (os : List (Nat × Nat)) (ov : Value) : Prop := ∃ a c, ov = .slice a (os.length - p) c ∧ os.length - p ≤ c ∧ (p < os.length → a = some ⟨b, off + p * 2, none⟩)
def Lb2 (w : World) (o n b : Nat) : Prop := w.rowIs o 68 2 (fun j => [Value.int .i64 (n : Nat), .int .u64 (b : Nat)].getD j undef)
theorem Lb2.new (w : World) (n b : Nat) : Lb2 (w.alloc (.cells #[.int .i64 (n : Nat), .int .u64 (b : Nat)] 68)) w.heap.size n b :=
  World.rowIs_alloc w #[.int .i64 (n : Nat), .int .u64 (b : Nat)] _ _ (fun i hi => by
    match i, hi with
    | 0, _ => rfl
    | 1, _ => rfl)
theorem Lb2.cells {w : World} {o n b : Nat} (h : Lb2 w o n b) : w.cell? ⟨o, 0, none⟩ = some (.int .i64 (n : Nat)) ∧ w.cell? ⟨o, 1, none⟩ = some (.int .u64 (b : Nat)) := ⟨World.rowIs.cell h (i := 0) (by omega), World.rowIs.cell h (i := 1) (by omega)⟩
theorem Lb2.put1 {w : World} {o n b c : Nat} (h : Lb2 w o n b) : Lb2 (w.setCell ⟨o, 1, none⟩ (.int .u64 (c : Nat))) o n c := (World.rowIs.set h 1 _).congr (fun i hi => by
    match i, hi with
    | 0, _ => rfl
    | 1, _ => rfl)
theorem MtS.on {w0 wr w' : World} {g M : Nat} {bs r : List (Nat × Nat)} {i : Nat} (h : MtS w0 wr g M bs r i) (hg : g < w0.heap.size) (hf : FrO (fun k => w0.heap.size ≤ k) wr w') : MtS w0 w' g M bs r i := by
  obtain ⟨F, h1, h2, h3⟩ := h.row
  exact ⟨⟨F, h1.of_block (hf.block g (by omega)), h2, h3⟩, h.fr.trans (hf.mono fun k hk => .inr hk)⟩
theorem MtS.less {w0 wr : World} {g M : Nat} {bs r : List (Nat × Nat)} {i j : Nat} (h : MtS w0 wr g M bs r i) (hij : i ≤ j) : MtS w0 wr g M bs r j := by
  obtain ⟨F, h1, h2, h3⟩ := h.row
  exact ⟨⟨F, h1, h2, fun k p hk => h3 k p (by omega)⟩, h.fr⟩
theorem MtS.push {w0 wr : World} {g M : Nat} {bs r : List (Nat × Nat)} {i n c : Nat} (h : MtS w0 wr g M bs r i) (hri : r.length ≤ i) : MtS w0 ((wr.setCell ⟨g, r.length * 2, none⟩ (.int .i64 (n : Nat))).setCell ⟨g, r.length * 2 + 1, none⟩ (.int .u64 (c : Nat))) g M bs (r ++ [(n, c)]) (i + 1) := by
  obtain ⟨F, h1, h2, h3⟩ := h.row
  refine ⟨⟨_, World.rowIs.set (World.rowIs.set h1 (r.length * 2) _) (r.length * 2 + 1) _, fun k p hp => ?_, fun k p hk hp => ?_⟩, ?_⟩
  · by_cases e : k < r.length
    · rw [List.getElem?_append_left e] at hp
      have := h2 k p hp
      simp only [show ¬ k * 2 = r.length * 2 + 1 by omega, show ¬ k * 2 = r.length * 2 by omega, show ¬ k * 2 + 1 = r.length * 2 + 1 by omega, show ¬ k * 2 + 1 = r.length * 2 by omega, if_false]
      exact this
    · have hk : k = r.length := by
        have := (List.getElem?_eq_some_iff.1 hp).1
        simp at this
        omega
      subst hk
      rw [List.getElem?_append_right (Nat.le_refl _)] at hp
      simp at hp
      subst hp
      simp only [show ¬ r.length * 2 = r.length * 2 + 1 by omega, if_false, if_true]
      exact ⟨trivial, trivial⟩
  · have := h3 k p (by omega) hp
    simp only [show ¬ k * 2 = r.length * 2 + 1 by omega, show ¬ k * 2 = r.length * 2 by omega, show ¬ k * 2 + 1 = r.length * 2 + 1 by omega, show ¬ k * 2 + 1 = r.length * 2 by omega, if_false]
    exact this
  · exact (h.fr.trans ((obk_put (w := wr) (b := g) (r.length * 2) (.int .i64 (n : Nat))).fro (.inl rfl))).trans ((obk_put (b := g) (r.length * 2 + 1) (.int .u64 (c : Nat))).fro (.inl rfl))
theorem app_in {w : World} {ops : Array Oper} {rest : List Oper} {o : Oper} {a : Act} {Q : Exit → Act → World → Prop} (hgd : o.guard = none) (s x : Operand)
    (ho : o.op = .call { callee := .builtin .append, args := #[s, x], argTypes := #[64, 64] }) (g n cap m c M : Nat) (F : Nat → Value) (hs : a.eval s = .slice (some ⟨g, 0, none⟩) n cap) (hx : a.eval x = .slice (some ⟨w.heap.size, 0, none⟩) 1 1)
    (hroom : n + 1 ≤ cap) (hrow : w.rowIs g 68 M F) (hM : n * 2 + 1 < M)
    (h : wpList Tryz.prog ops Q rest (a.put o.dst (.slice (some ⟨g, 0, none⟩) (n + 1) cap)) (((w.alloc (.cells #[.int .i64 (m : Nat), .int .u64 (c : Nat)] 68)).setCell ⟨g, n * 2, none⟩ (.int .i64 (m : Nat))).setCell ⟨g, n * 2 + 1, none⟩ (.int .u64 (c : Nat)))) :
    wpList Tryz.prog ops Q (o :: rest) a (w.alloc (.cells #[.int .i64 (m : Nat), .int .u64 (c : Nat)] 68)) := by
  obtain ⟨i0, hi, hz0, hz1, hz2⟩ := info_parts Tryz.zinLb
  have hrow' := hrow.alloc (.cells #[.int .i64 (m : Nat), .int .u64 (c : Nat)] 68)
  have hr := run_append_room_cells (P := Tryz.prog) (w := w.alloc (.cells #[.int .i64 (m : Nat), .int .u64 (c : Nat)] 68)) 64 o.type 68 i0 Tryz.underlying64 hi g 0 n cap ⟨w.heap.size, 0, none⟩ 1 1 [.int .i64 (m : Nat), .int .u64 (c : Nat)] (by rw [hz1]; rfl) (fun j u hu => (pushd_al w _).news j u hu) (fun u hu => by
    simp only [List.mem_cons, List.not_mem_nil, or_false] at hu
    rcases hu with rfl | rfl <;> rfl) hroom (fun j hj => by
    have hj : j < 2 := hj
    rw [hz1, hrow'.cell (by omega)]; rfl) (fun j hj => hrow'.frozen _)
  rw [hz1] at hr
  simp only [Nat.zero_add, World.setCells] at hr
  refine wpList_plain hgd fun K hK => ?_
  unfold Oper.wp execOp
  simp only [ho, resolve, invoke, builtin, Sem.run_bind, Sem.run_pure, Result.andThen_ok, List.map_toArray, List.map_cons, List.map_nil, hs, hx, hr]
  exact hK _ _ h
set_option maxHeartbeats 8000000 in
set_option maxRecDepth 100000 in
theorem meet_any (g M cap b off : Nat) (h : Nat → Nat) (bs os : List (Nat × Nat)) (ov : Value) (w : World) (hM : MtS w w g M bs [] 0) (hcap : bs.length ≤ cap) (hcM : cap * 2 ≤ M) (hb0 : 0 < bs.length) (hbl : bs.length ≤ 16) (hasc : bs.Pairwise (fun p q => p.1 < q.1)) (hbs : ∀ p ∈ bs, p.1 < 16 ∧ p.2 < 18446744073709551616)
    (hos : os = blkOf h 16) (hh : LnF h) (hov : OtV b off 0 os ov) (hbg : b ≠ g) (hbw : 0 < os.length → b < w.heap.size) (hoc : ∀ (k : Nat) (p : Nat × Nat), os[k]? = some p → w.cell? ⟨b, off + k * 2, none⟩ = some (.int .i64 (p.1 : Nat)) ∧ w.cell? ⟨b, off + k * 2 + 1, none⟩ = some (.int .u64 (p.2 : Nat))) :
    Calls Tryz.prog 59 #[.slice (some ⟨g, 0, none⟩) bs.length cap, ov] w fun e w' => e = .returned (.slice (some ⟨g, 0, none⟩) (bs.flatMap (mtc h)).length cap) ∧ MtS w w' g M bs (bs.flatMap (mtc h)) bs.length := by
  have hol : os.length ≤ 16 := by rw [hos]; exact blkOf_len h 16
  have hc0 : (0 : Int) ≤ (cap : Int) := by omega
  obtain ⟨R, hR⟩ : ∃ R, R = bs.flatMap (mtc h) := ⟨_, rfl⟩
  rw [← hR]
  have HRR := hide hR
  obtain ⟨oa, oc, rfl, hoc1, hoc2⟩ := id hov
  have HOV := hide hov
  have HM := hide hM
  have HASC := hide hasc
  have HBS := hide hbs
  have HOS := hide hos
  have HH := hide hh
  have HOC := hide hoc
  have hgw : g < w.heap.size := by obtain ⟨F, hF, -⟩ := hM.row; exact hF.lt
  clear hM hasc hbs hos hh hov hoc hR hoc1 hoc2
  go_enter Tryz.func59, Tryz.ntmps59
  go_wp2
  go_step3
  go_wp2
  go_step3
  go_wp2
  go_loopg [1, 5, 12] bs.length (fun gk ov cv iv wr => ∃ (i p : Nat) (r : List (Nat × Nat)), i + gk = bs.length ∧ iv = .int .i64 (i : Nat) ∧ r = (bs.take i).flatMap (mtc h) ∧ cv = .slice (some ⟨g, 0, none⟩) r.length cap ∧ p ≤ os.length ∧ OtV b off p os ov ∧ MtS w wr g M bs r i ∧ ∀ (q : Nat) (x : Nat × Nat), q < p → os[q]? = some x → ∀ (k : Nat) (y : Nat × Nat), i ≤ k → bs[k]? = some y → x.1 < y.1)
  case atStart => exact ⟨0, 0, [], by omega, rfl, by simp, rfl, by omega, unhide HOV, unhide HM, fun q x hq => by omega⟩
  case round =>
    clear HOV HM
    obtain ⟨i, p, r, hig, rfl, hr, rfl, hp, hov, hM, hlow⟩ := hrel
    have hrl : r.length ≤ i := by rw [hr]; exact Nat.le_trans (flat_len _ _) (by simp; omega)
    obtain ⟨oa, oc, rfl, ho1, ho2⟩ := id hov
    cases gk with
    | zero =>
      have hil : ¬ (i : Int) < (bs.length : Int) := by omega
      have hrR : r = R := by rw [hr, unhide HRR, List.take_of_length_le (by omega)]
      have HX : Hid (MtS w wr g M bs R bs.length) := by rw [← hrR, show bs.length = i by omega]; exact hM
      have HL : Hid (r.length = R.length) := by rw [hrR]; rfl
      clear hr hM hov hlow hrR ho2
      go_wp2
      try rw [Exit.noGoto_ret]
      go_ret
      exact ⟨by rw [unhide HL]; rfl, unhide HX⟩
    | succ gK =>
      have hil : i < bs.length := by omega
      have hil' : (i : Int) < (bs.length : Int) := by omega
      obtain ⟨x, hx⟩ : ∃ x, bs[i]? = some x := ⟨_, List.getElem?_eq_getElem hil⟩
      obtain ⟨n, bb⟩ := x
      obtain ⟨hn16, hb64⟩ := unhide HBS _ (List.mem_of_getElem? hx)
      obtain ⟨F, hF, hF1, hF2⟩ := hM.row
      obtain ⟨q1, q2⟩ := hF2 i (n, bb) (Nat.le_refl _) hx
      have c0 : wr.cell? ⟨g, i * 2, none⟩ = some (.int .i64 (n : Nat)) := by rw [hF.cell (by omega), q1]
      have c1 : wr.cell? ⟨g, i * 2 + 1, none⟩ = some (.int .u64 (bb : Nat)) := by rw [hF.cell (by omega), q2]
      have HX := hide hx
      have HR := hide hr
      have HM := hide hM
      have HOV := hide hov
      have HLOW := hide hlow
      clear hx hr hM hov hlow hF hF1 hF2 q1 q2
      obtain ⟨W1, hW1⟩ : ∃ W1, W1 = wr.alloc (.cells #[.int .i64 (n : Nat), .int .u64 (bb : Nat)] 68) := ⟨_, rfl⟩
      have hwr := (unhide HM).fr.size
      have hM1 : MtS w W1 g M bs r i := (unhide HM).on hgw (by rw [hW1]; exact fro_of (below1 wr _) (fun k hk => by omega))
      have hO1 : Lb2 W1 wr.heap.size n bb := by rw [hW1]; exact Lb2.new wr n bb
      obtain ⟨ob, hob⟩ : ∃ ob, ob = wr.heap.size := ⟨_, rfl⟩
      rw [← hob] at hO1
      have hobw : w.heap.size ≤ ob := by omega
      have HLOWI : Hid (∀ (q : Nat) (x : Nat × Nat), q < p → os[q]? = some x → x.1 < n) := fun q x hq hx => unhide HLOW q x hq hx i (n, bb) (Nat.le_refl _) (unhide HX)
      have HM1 := hide hM1
      have HO1 := hide hO1
      have HW1 := hide hW1
      have HOB := hide hob
      clear hM1 hO1 hW1 HM hob hwr
      go_wp2_with fail
      rw [← unhide HW1, ← unhide HOB]
      clear HW1 HOB c0 c1
      go_loopg [1, 5] (os.length - p) (fun g2 ov cv wy => cv = .slice (some ⟨g, 0, none⟩) r.length cap ∧ ∃ p : Nat, p + g2 = os.length ∧ OtV b off p os ov ∧ MtS w wy g M bs r i ∧ Lb2 wy ob n bb ∧ ∀ (q : Nat) (x : Nat × Nat), q < p → os[q]? = some x → x.1 < n)
      case atStart => exact ⟨rfl, p, by omega, unhide HOV, unhide HM1, unhide HO1, unhide HLOWI⟩
      case round =>
        clear HOV HM1 HO1 HLOWI HLOW ho1 ho2 hp
        obtain ⟨rfl, p, hpg, hov, hM, hO, hlow⟩ := hrel
        obtain ⟨w2, rfl⟩ : ∃ w2, w2 = wr := ⟨_, rfl⟩
        obtain ⟨oa, oc, rfl, ho1, ho2⟩ := id hov
        obtain ⟨k0, k1⟩ := hO.cells
        have hNX : ∀ (k : Nat) (y : Nat × Nat), i + 1 ≤ k → bs[k]? = some y → n < y.1 := fun k y hk hy => asc_of (unhide HASC) (show i < k by omega) (unhide HX) hy
        have HM := hide hM
        have HO := hide hO
        have HNX := hide hNX
        have HLOW := hide hlow
        have HOV := hide hov
        cases gk with
        | zero =>
          have hpo : p = os.length := by omega
          have hlz : os.length - p = 0 := by omega
          have hrR : r = R := by
            rw [unhide HRR, unhide HR]
            have hz : (bs.drop i).flatMap (mtc h) = [] := flat_none fun y hy => by
              obtain ⟨k, hk⟩ := List.getElem?_of_mem hy
              rw [List.getElem?_drop] at hk
              refine none_at (unhide HOS) (unhide HBS y (List.mem_of_getElem? hk)).1 (p := os.length) (fun q x hq hx => ?_) (fun x hx => by simp at hx)
              have h1 := hlow q x (by omega) hx
              by_cases e : k = 0
              · subst e; rw [Nat.add_zero, unhide HX] at hk; cases hk; exact h1
              · have := hNX (i + k) y (by omega) hk; omega
            conv => rhs; rw [← List.take_append_drop i bs, List.flatMap_append, hz, List.append_nil]
          have HXX : Hid (MtS w w2 g M bs R bs.length) := by rw [← hrR]; exact hM.less (by omega)
          have HL : Hid (r.length = R.length) := by rw [hrR]; rfl
          rw [hlz]
          clear hM hO hNX hlow hov hrR ho1 ho2 hlz HM HO HNX HLOW HOV
          go_wp2
          try rw [Exit.noGoto_ret]
          go_ret
          exact ⟨by rw [unhide HL]; rfl, unhide HXX⟩
        | succ g2 =>
          have hpl : p < os.length := by omega
          obtain ⟨y, hy⟩ : ∃ y, os[p]? = some y := ⟨_, List.getElem?_eq_getElem hpl⟩
          obtain ⟨m, o⟩ := y
          have hym : m < 16 ∧ h m ≠ 0 ∧ o = h m := by have := List.mem_of_getElem? hy; rw [unhide HOS, blkOf_mem] at this; exact this
          obtain ⟨y0, y1⟩ := unhide HOC p (m, o) hy
          have hblk : w2.heap[b]? = w.heap[b]? := hM.fr.block b (by have := hbw (by omega); rintro (q | q) <;> omega)
          have z0 : w2.cell? ⟨b, off + p * 2, none⟩ = some (.int .i64 (m : Nat)) := by rw [World.cell?_of_block (a := ⟨b, off + p * 2, none⟩) hblk]; exact y0
          have z1 : w2.cell? ⟨b, off + p * 2 + 1, none⟩ = some (.int .u64 (o : Nat)) := by rw [World.cell?_of_block (a := ⟨b, off + p * 2 + 1, none⟩) hblk]; exact y1
          obtain rfl := ho2 hpl
          obtain ⟨ol, hol2⟩ : ∃ ol, ol = os.length - p := ⟨_, rfl⟩
          rw [← hol2] at ho1 ⊢
          have hl1 : (0 : Int) < (ol : Int) := by omega
          have hl2 : (1 : Int) ≤ (ol : Int) := by omega
          have HY := hide hy
          have HYM := hide hym
          clear hM hO hNX hlow hov ho2 hy hym hblk y0 y1
          by_cases hgt : n < m
          · have hgt' : (n : Int) < (m : Int) := by omega
            have HR2 : Hid (r = (bs.take (i + 1)).flatMap (mtc h)) := by
              show r = _
              rw [flat_take (unhide HX), ← unhide HR, mtc_none (none_at (unhide HOS) hn16 (unhide HLOW) (fun x hx => by rw [unhide HY] at hx; cases hx; exact hgt)), List.append_nil]
            go_wp2_with fail
            go_quiet (fail)
            go_wp2
            have HOV2 : Hid (OtV b off p os (.slice (some ⟨b, off + p * 2, none⟩) ol oc)) := by rw [hol2]; exact unhide HOV
            have HM2 : Hid (MtS w (w2.drewN nq) g M bs r (i + 1)) := MtS.less (MtS.on (w' := w2.drewN nq) (unhide HM) hgw ⟨rfl, rfl, rfl, Nat.le_refl _, fun _ _ => rfl⟩) (by omega)
            go_roundg gK
            case measure => omega
            case rel => exact ⟨i + 1, p, r, by omega, by go_num, unhide HR2, rfl, by omega, unhide HOV2, unhide HM2, fun q x hq hx k y hk hy => by have := unhide HLOW q x hq hx; have := unhide HNX k y hk hy; omega⟩
          · by_cases heq : m = n
            · subst heq
              have hng : ¬ (m : Int) < (m : Int) := by omega
              have hom := (unhide HYM).2.2
              have ho64 : o < 18446744073709551616 := by rw [hom]; exact unhide HH m
              have hand := bits_and_u64_nat bb o hb64 ho64
              have f1 := World.rowIs.frozen (unhide HO) 1
              have HAND := hide hand
              obtain ⟨cc, hcc⟩ : ∃ cc, cc = bb &&& o := ⟨_, rfl⟩
              rw [← hcc] at HAND
              have hNE : b ≠ ob := by have := hbw (by omega); omega
              have HOM := hide hom
              have HCC := hide hcc
              clear hand hom hcc
              go_wp2_with fail
              go_quiet (fail)
              go_wp2_with fail
              go_quiet (fail)
              go_wp2_with fail
              generalize hV3 : World.drewN _ _ = V3
              have k0' : V3.cell? ⟨ob, 0, none⟩ = some (.int .i64 (m : Nat)) := by rw [← hV3]; exact k0
              have k1' : V3.cell? ⟨ob, 1, none⟩ = some (.int .u64 (bb : Nat)) := by rw [← hV3]; exact k1
              have z1' : V3.cell? ⟨b, off + p * 2 + 1, none⟩ = some (.int .u64 (o : Nat)) := by rw [← hV3]; exact z1
              have f1' : V3.frozen? ⟨ob, 1, none⟩ = false := by rw [← hV3]; exact f1
              have HM3 : Hid (MtS w V3 g M bs r i) := by rw [← hV3]; exact MtS.on (unhide HM) hgw ⟨rfl, rfl, rfl, Nat.le_refl _, fun _ _ => rfl⟩
              have HO3 : Hid (Lb2 V3 ob m bb) := by rw [← hV3]; exact unhide HO
              clear hV3 k0 k1 z0 z1 f1 HM HO
              go_region
              rw [unhide HAND]
              generalize hV4 : World.drew _ = V4
              have HO4 : Hid (Lb2 V4 ob m cc) := by rw [← hV4]; exact (unhide HO3).put1
              have HM4 : Hid (MtS w V4 g M bs r i) := by rw [← hV4]; exact MtS.on (unhide HM3) hgw ((obk_put (w := V3) (b := ob) 1 (.int .u64 (cc : Nat))).drew.fro hobw)
              obtain ⟨k0, k1⟩ := (unhide HO4).cells
              clear hV4 k0' k1' z1' f1' HM3 HO3
              by_cases hcz : cc = 0
              · have hbo : bb &&& h m = 0 := by rw [← unhide HOM, ← unhide HCC]; exact hcz
                have HR2 : Hid (r = (bs.take (i + 1)).flatMap (mtc h)) := by
                  show r = _
                  rw [flat_take (unhide HX), ← unhide HR]
                  unfold mtc
                  rw [if_pos (by exact hbo), List.append_nil]
                have HM5 : Hid (MtS w V4 g M bs r (i + 1)) := (unhide HM4).less (by omega)
                have k1z : V4.cell? ⟨ob, 1, none⟩ = some (.int .u64 0) := by rw [k1, hcz]; rfl
                clear k1 hbo hcz
                go_wp2
                go_roundg gK
                case measure => omega
                case rel => exact ⟨i + 1, p, r, by omega, by go_num, unhide HR2, rfl, by omega, unhide HOV, unhide HM5, fun q x hq hx k y hk hy => by have := unhide HLOW q x hq hx; have := unhide HNX k y hk hy; omega⟩
              · have hbo : bb &&& h m ≠ 0 := by rw [← unhide HOM, ← unhide HCC]; exact hcz
                have hcz' : ¬ (cc : Int) = 0 := by omega
                have HR2 : Hid (r ++ [(m, cc)] = (bs.take (i + 1)).flatMap (mtc h)) := by
                  show r ++ _ = _
                  rw [flat_take (unhide HX), ← unhide HR]
                  unfold mtc
                  rw [if_neg (by exact hbo), unhide HCC, unhide HOM]
                obtain ⟨F4, hF4, -, -⟩ := (unhide HM4).row
                have HF4 := hide hF4
                have hroom : r.length + 1 ≤ cap := by omega
                have hrM : r.length * 2 + 1 < M := by omega
                have HM5 : Hid (MtS w (((V4.alloc (.cells #[.int .i64 (m : Nat), .int .u64 (cc : Nat)] 68)).setCell ⟨g, r.length * 2, none⟩ (.int .i64 (m : Nat))).setCell ⟨g, r.length * 2 + 1, none⟩ (.int .u64 (cc : Nat))) g M bs (r ++ [(m, cc)]) (i + 1)) := ((unhide HM4).on hgw (fro_of (below1 V4 _) (fun k hk => by have := (unhide HM4).fr.size; omega))).push hrl
                obtain ⟨r2, hr2⟩ : ∃ r2, r2 = r ++ [(m, cc)] := ⟨_, rfl⟩
                have hr2l : r2.length = r.length + 1 := by rw [hr2, List.length_append]; rfl
                rw [← hr2] at HR2 HM5
                have HR2L := hide hr2l
                clear hbo hcz hF4 hr2 hr2l
                go_wp2_with (at_builtin; refine app_in rfl _ _ rfl g r.length cap m cc M F4 rfl rfl hroom (unhide HF4) hrM ?_)
                rw [← unhide HR2L]
                go_wp2
                go_roundg gK
                case measure => omega
                case rel => exact ⟨i + 1, p, r2, by omega, by go_num, unhide HR2, rfl, by omega, unhide HOV, unhide HM5, fun q x hq hx k y hk hy => by have := unhide HLOW q x hq hx; have := unhide HNX k y hk hy; omega⟩
            · have hlt : m < n := by omega
              have hng : ¬ (n : Int) < (m : Int) := by omega
              have hne : ¬ (m : Int) = (n : Int) := by omega
              go_wp2_with fail
              go_quiet (fail)
              go_wp2_with fail
              go_quiet (fail)
              have HLOW2 : Hid (∀ (q : Nat) (x : Nat × Nat), q < p + 1 → os[q]? = some x → x.1 < n) := fun q x hq hx => by
                by_cases e : q = p
                · subst e; rw [unhide HY] at hx; cases hx; exact hlt
                · exact unhide HLOW q x (by omega) hx
              generalize hV3 : World.drewN _ _ = V3
              have HM3 : Hid (MtS w V3 g M bs r i) := by rw [← hV3]; exact MtS.on (unhide HM) hgw ⟨rfl, rfl, rfl, Nat.le_refl _, fun _ _ => rfl⟩
              have HO3 : Hid (Lb2 V3 ob n bb) := by rw [← hV3]; exact unhide HO
              clear hV3 k0 k1 z0 z1 HM HO
              have hss : os.length - p - 1 = os.length - (p + 1) := by omega
              go_wp2
              · go_roundg g2
                case measure => omega
                case rel => exact ⟨by first | trivial | rfl, p + 1, by omega, ⟨_, 0, rfl, by omega, fun hq => by omega⟩, unhide HM3, unhide HO3, unhide HLOW2⟩
              · go_roundg g2
                case measure => omega
                case rel => exact ⟨by first | trivial | rfl, p + 1, by omega, ⟨_, oc - 1, rfl, by omega, fun hq => by rw [show off + (p + 1) * 2 = off + p * 2 + 2 by omega]⟩, unhide HM3, unhide HO3, unhide HLOW2⟩
def rHold : Value → Option (DataW Value × List MemPlace) := fun v => some (.held v, [])
def nilV : Value := .slice none 0 0
theorem Tryz.lawIm : Maps.Keyed Tryz.prog 3 := Maps.int_keyed Tryz.underlying3
def In64' (x : Int) : Prop := -9223372036854775808 ≤ x ∧ x ≤ 9223372036854775807
theorem key_im {x : Int} (h : In64' x) : keyOf Tryz.prog 3 (.int .i64 x) = some (.int .i64 x) := by
  unfold keyOf
  simp only [Tryz.underlying3]
  have hw : (Lit.int .i64 x).wf = true := WalkArith.wf_i64 ⟨h.1, by have := h.2; omega⟩
  simp [mapKey, Tryz.underlying3, hw]
structure MpAt (w : World) (mb n : Nat) (dom : Int → Bool) (m : Int → Value) : Prop where
  ex : ∃ D, w.ownsMap Tryz.prog 3 rHold mb n D ∧ (∀ x, In64' x → Maps.has D (.int .i64 x) = dom x) ∧ ∀ x, In64' x → D.atKey (.int .i64 x) (.held nilV) = .held (m x)
theorem MpAt.lt {w : World} {mb n : Nat} {dom : Int → Bool} {m : Int → Value} (h : MpAt w mb n dom m) : mb < w.heap.size := by obtain ⟨D, h1, -⟩ := h.ex; exact h1.lt
theorem MpAt.keep {w w' : World} {mb n : Nat} {dom : Int → Bool} {m : Int → Value} (h : MpAt w mb n dom m) (e : w'.heap[mb]? = w.heap[mb]?) : MpAt w' mb n dom m := by
  obtain ⟨D, ⟨es, cl, hb, h2⟩, h3, h4⟩ := h.ex
  exact ⟨D, ⟨es, cl, e.trans hb, h2⟩, h3, h4⟩
theorem MpAt.new (w : World) : MpAt (w.alloc (.map #[] 0)) w.heap.size 0 (fun _ => false) (fun _ => nilV) :=
  ⟨_, World.ownsMap_made w _ _ _, fun _ _ => rfl, fun _ _ => rfl⟩
theorem MpAt.look {w : World} {mb n : Nat} {dom : Int → Bool} {m : Int → Value} (h : MpAt w mb n dom m) {t e : TypeId} (ht : Tryz.prog.underlying t = some (.map 3 e)) (hz : (zeroValue e).run Tryz.prog w = .ok nilV w) {x : Int} (hx : In64' x) : (Instr.lookup t (.map (some mb)) (.int .i64 x) false).run Tryz.prog w = .ok (m x) w := by
  obtain ⟨D, h1, h2, h3⟩ := h.ex
  obtain ⟨v, ps, hr, hv⟩ := h1.lookup Tryz.lawIm ht hz (zd := .held nilV) (zp := []) rfl (key_im hx)
  rw [h3 x hx] at hv
  have : v = m x := by
    have h9 := Option.some.inj hv
    simp only [Prod.mk.injEq, DataW.held.injEq] at h9
    exact h9.1
  rw [hr, this]
theorem MpAt.look2 {w : World} {mb n : Nat} {dom : Int → Bool} {m : Int → Value} (h : MpAt w mb n dom m) {t e : TypeId} (ht : Tryz.prog.underlying t = some (.map 3 e)) (hz : (zeroValue e).run Tryz.prog w = .ok nilV w) {x : Int} (hx : In64' x) : (Instr.lookup t (.map (some mb)) (.int .i64 x) true).run Tryz.prog w = .ok (.tuple #[m x, .bool (dom x)]) w := by
  obtain ⟨D, h1, h2, h3⟩ := h.ex
  obtain ⟨v, ps, hr, hv⟩ := h1.look_ok Tryz.lawIm ht hz (zd := .held nilV) (zp := []) rfl (key_im hx)
  rw [h3 x hx] at hv
  have : v = m x := by
    have h9 := Option.some.inj hv
    simp only [Prod.mk.injEq, DataW.held.injEq] at h9
    exact h9.1
  rw [hr, this, h2 x hx]
theorem MpAt.put {w : World} {mb n : Nat} {dom : Int → Bool} {m : Int → Value} (h : MpAt w mb n dom m) {t e : TypeId} (ht : Tryz.prog.underlying t = some (.map 3 e)) (hn : n < maxLen) {x : Int} (hx : In64' x) (v : Value) : ∃ w', (Instr.mapUpdate t (.map (some mb)) (.int .i64 x) v).run Tryz.prog w = .ok () w' ∧ MpAt w' mb (n + 1) (fun y => if y = x then true else dom y) (fun y => if y = x then v else m y) ∧ w.grownBy w' (some mb) := by
  obtain ⟨D, h1, h2, h3⟩ := h.ex
  obtain ⟨w', hr, ho, hg⟩ := h1.update Tryz.lawIm ht hn (key_im hx) (val := v) (d := .held v) (ps := []) rfl
  refine ⟨w', hr, ⟨_, ho, fun y hy => ?_, fun y hy => ?_⟩, hg⟩
  · by_cases e : y = x
    · subst e; rw [Maps.has_put_same (k := .int .i64 y) h1.isMap trivial]; simp
    · rw [Maps.has_put_other (by intro k; exact e (by simpa using k)), h2 y hy]; simp [e]
  · by_cases e : y = x
    · subst e; rw [Maps.atKey_put_same (k := .int .i64 y) h1.isMap trivial]; simp
    · rw [Maps.atKey_put_other (by intro k; exact e (by simpa using k)), h3 y hy]; simp [e]
def BlR (w : World) (v : Value) (h : Nat → Nat) (g : Nat) : Prop := ∃ b off, OtV b off 0 (blkOf h 16) v ∧ b ≠ g ∧ (0 < (blkOf h 16).length → b < w.heap.size) ∧ ∀ (k : Nat) (p : Nat × Nat), (blkOf h 16)[k]? = some p → w.cell? ⟨b, off + k * 2, none⟩ = some (.int .i64 (p.1 : Nat)) ∧ w.cell? ⟨b, off + k * 2 + 1, none⟩ = some (.int .u64 (p.2 : Nat))
def mAll (hw : Int → Nat → Nat) : (Nat → Nat) → List Int → Nat → Nat
  | f, [] => f
  | f, t :: ts => mAll hw (fun j => f j &&& hw t j) ts
theorem mAll_snoc (hw : Int → Nat → Nat) : ∀ (ts : List Int) (f : Nat → Nat) (t : Int), mAll hw f (ts ++ [t]) = fun j => mAll hw f ts j &&& hw t j
  | [], _, _ => rfl
  | _ :: ts, _, t => mAll_snoc hw ts _ t
theorem mAll_fit {hw : Int → Nat → Nat} : ∀ (ts : List Int) {f : Nat → Nat}, LnF f → LnF (mAll hw f ts)
  | [], _, h => h
  | _ :: ts, _, h => mAll_fit ts (fun j => Nat.lt_of_le_of_lt Nat.and_le_left (h j))
theorem mAll_zero {hw : Int → Nat → Nat} : ∀ (ts : List Int) {f : Nat → Nat} {j : Nat}, f j = 0 → mAll hw f ts j = 0
  | [], _, _, h => h
  | _ :: ts, _, _, h => mAll_zero ts (by simp [h])
theorem mAll_app (hw : Int → Nat → Nat) : ∀ (ts us : List Int) (f : Nat → Nat), mAll hw f (ts ++ us) = mAll hw (mAll hw f ts) us
  | [], _, _ => rfl
  | _ :: ts, us, _ => mAll_app hw ts us _
theorem blk_nil {f : Nat → Nat} (h : (blkOf f 16).length = 0) : ∀ j, j < 16 → f j = 0 := fun j hj => by
  apply Classical.byContradiction
  intro e
  have : (j, f j) ∈ blkOf f 16 := blkOf_mem.2 ⟨hj, e, rfl⟩
  rw [List.eq_nil_of_length_eq_zero h] at this
  cases this
theorem blk_zero {f : Nat → Nat} (h : ∀ j, j < 16 → f j = 0) : blkOf f 16 = [] := by
  apply List.eq_nil_iff_forall_not_mem.2
  intro p hp
  have := blkOf_mem.1 hp
  exact this.2.1 (h p.1 this.1)
theorem MtS.again {w0 w : World} {g M : Nat} {bs r : List (Nat × Nat)} {i : Nat} (h : MtS w0 w g M bs r i) : MtS w w g M r [] 0 := by
  obtain ⟨F, h1, h2, -⟩ := h.row
  exact ⟨⟨F, h1, fun k p hp => by simp at hp, fun k p _ hp => h2 k p hp⟩, FrO.refl _ _⟩
theorem MtS.at {w : World} {g M : Nat} {bs : List (Nat × Nat)} (h : MtS w w g M bs [] 0) {k : Nat} {p : Nat × Nat} (hk : bs[k]? = some p) (hM : bs.length * 2 ≤ M) : w.cell? ⟨g, k * 2, none⟩ = some (.int .i64 (p.1 : Nat)) ∧ w.cell? ⟨g, k * 2 + 1, none⟩ = some (.int .u64 (p.2 : Nat)) := by
  obtain ⟨F, h1, -, h3⟩ := h.row
  obtain ⟨a, b⟩ := h3 k p (Nat.zero_le _) hk
  have hlt := (List.getElem?_eq_some_iff.1 hk).1
  exact ⟨by rw [h1.cell (by omega), a], by rw [h1.cell (by omega), b]⟩
def LbR (g M : Nat) (e : Ending) (w' : World) (R : List (Nat × Nat)) : Prop := ∃ (a : Option Addr) (c : Nat), e = .returned (.slice a R.length c) ∧ (0 < R.length → a = some ⟨g, 0, none⟩ ∧ MtS w' w' g M R [] 0)
set_option maxHeartbeats 8000000 in
set_option maxRecDepth 100000 in
theorem listed_any (g M cap mb nn : Nat) (f : Nat → Nat) (hw : Int → Nat → Nat) (dom : Int → Bool) (m : Int → Value) (ts : List Int) (la : Option Addr) (lc : Nat) (tv : Value) (w : World) (hcM : cap * 2 ≤ M)
    (hrow : 0 < (blkOf f 16).length → la = some ⟨g, 0, none⟩ ∧ lc = cap ∧ (blkOf f 16).length ≤ cap ∧ MtS w w g M (blkOf f 16) [] 0) (hf : LnF f) (hwf : ∀ t, LnF (hw t)) (hts : ∀ t ∈ ts, In64' t) (htl : ts.length ≤ 1000)
    (hk : ∀ W, FrO (fun k => k = g ∨ w.heap.size ≤ k) w W → SlAt mI 0 0 W.heap.size W tv ts ∧ MpAt W mb nn dom m ∧ ∀ t ∈ ts, BlR W (m t) (hw t) g) :
    Calls Tryz.prog 30 #[.slice la (blkOf f 16).length lc, tv, .map (some mb)] w fun e w' => FrO (fun k => k = g ∨ w.heap.size ≤ k) w w' ∧ LbR g M e w' (blkOf (mAll hw f ts) 16) := by
  have hzz : ∀ W : World, (zeroValue 64).run Tryz.prog W = .ok nilV W := fun W => by kernel_rfl
  obtain ⟨ta, tc, rfl, -, -⟩ := id (hk w (FrO.refl _ _)).1
  obtain ⟨R, hR⟩ : ∃ R, R = blkOf (mAll hw f ts) 16 := ⟨_, rfl⟩
  rw [← hR]
  have HRR := hide hR
  have HK := hide hk
  have HROW := hide hrow
  have HF := hide hf
  have HWF := hide hwf
  have HTS := hide hts
  clear hk hrow hf hwf hts hR
  go_enter Tryz.func30, Tryz.ntmps30
  go_wp2_with fail
  go_loopw [0, 11] (fun lv iv wr => ∃ (i : Nat) (bs : List (Nat × Nat)) (a : Option Addr) (c : Nat), i ≤ ts.length ∧ iv = .int .i64 (i : Nat) ∧ bs = blkOf (mAll hw f (ts.take i)) 16 ∧ lv = .slice a bs.length c ∧ (0 < bs.length → a = some ⟨g, 0, none⟩ ∧ c = cap ∧ bs.length ≤ cap ∧ MtS wr wr g M bs [] 0) ∧ FrO (fun k => k = g ∨ w.heap.size ≤ k) w wr) (fun _ iv _ => ts.length - (intOf iv).toNat)
  case atStart => exact ⟨0, _, la, lc, by omega, rfl, rfl, rfl, unhide HROW, FrO.refl _ _⟩
  case round =>
    clear HROW
    obtain ⟨i, bs, a, c, hi, rfl, hbs, rfl, hrow, hfr⟩ := hrel
    obtain ⟨w1, rfl⟩ : ∃ w1, w1 = wr := ⟨_, rfl⟩
    have hz1 := hfr.size
    obtain ⟨htv, hmp, hbl⟩ := unhide HK w1 hfr
    by_cases hil : i < ts.length
    · have hil' : (i : Int) < (ts.length : Int) := by omega
      obtain ⟨a9, c9, e9, -, hc9⟩ := id htv
      cases e9
      obtain ⟨tb, to, rfl, -, -, htc⟩ := hc9 (by omega)
      have z0 := htc i hil
      obtain ⟨t, ht⟩ : ∃ t, t = ts[i]?.getD 0 := ⟨_, rfl⟩
      have htm : t ∈ ts := by rw [ht, List.getElem?_eq_getElem hil]; exact List.getElem_mem hil
      rw [← ht] at z0
      unfold mI at z0
      by_cases hb0 : bs.length = 0
      · have hRz : R.length = 0 := by
          rw [unhide HRR, ← List.take_append_drop i ts, mAll_app, blk_zero (fun j hj => mAll_zero _ (blk_nil (by rw [← hbs]; exact hb0) j hj))]
          rfl
        have HFR := hide hfr
        have HRZ := hide hRz
        clear hrow hfr htv hmp hbl hbs htc hc9 ht htm hRz
        rw [hb0]
        go_wp2
        go_ret
        exact ⟨unhide HFR, a, c, by rw [unhide HRZ]; rfl, fun q => absurd q (by rw [unhide HRZ]; omega)⟩
      · obtain ⟨rfl, rfl, hbc, hM⟩ := hrow (by omega)
        have hb0' : ¬ (bs.length : Int) = 0 := by omega
        have hlk := hmp.look (t := 58) (e := 64) Tryz.underlying58 (hzz w1) (unhide HTS t htm)
        obtain ⟨b, off, hov, hbg, hbw, hcell⟩ := hbl t htm
        have hfi := mAll_fit (hw := hw) (ts.take i) (unhide HF)
        have HME := hide (meet_any g M c b off (hw t) bs (blkOf (hw t) 16) (m t) w1 hM hbc hcM (by omega) (by rw [hbs]; exact blkOf_len _ _) (by rw [hbs]; exact blkOf_asc _ _) (fun p hp => by
          rw [hbs] at hp
          have := blkOf_mem.1 hp
          exact ⟨this.1, by rw [this.2.2]; exact hfi _⟩) rfl (unhide HWF t) hov hbg hbw hcell)
        have HNX : Hid (bs.flatMap (mtc (hw t)) = blkOf (mAll hw f (ts.take (i + 1))) 16) := by
          show bs.flatMap _ = _
          rw [hbs, blk_meet, takeC_snoc hil, ← ht, mAll_snoc]
        obtain ⟨va, vn, vc, hvv⟩ : ∃ va vn vc, m t = .slice va vn vc := by obtain ⟨x1, x2, x3, -⟩ := hov; exact ⟨_, _, _, x3⟩
        rw [hvv] at hlk HME
        have HFR := hide hfr
        clear hrow hfr htv hmp hbl hbs htc hc9 ht htm hM hov hcell hvv hfi
        go_wp2_with fail
        refine (unhide HME).mono ?_
        rintro e w2 ⟨rfl, hM2⟩
        obtain ⟨bs2, hbs2⟩ : ∃ bs2, bs2 = bs.flatMap (mtc (hw t)) := ⟨_, rfl⟩
        rw [← hbs2] at hM2 HNX ⊢
        have hb2l : bs2.length ≤ bs.length := by rw [hbs2]; exact flat_len _ _
        have hfr2 : FrO (fun k => k = g ∨ w.heap.size ≤ k) w w2 := (unhide HFR).trans (hM2.fr.mono (fun k hk => by rcases hk with q | q; exact .inl q; exact .inr (by omega)))
        have HFR2 := hide hfr2
        have HM2 := hide hM2.again
        have HB2 := hide hbs2
        clear hM2 hfr2 hbs2 HME HFR hlk z0
        go_wp2
        go_roundw
        case rel => exact ⟨i + 1, bs2, _, _, by omega, by go_num, unhide HNX, rfl, fun _ => ⟨rfl, rfl, by omega, unhide HM2⟩, unhide HFR2⟩
        case measure => simp [intOf]; omega
    · have hil' : ¬ (i : Int) < (ts.length : Int) := by omega
      have hbR : bs = R := by rw [hbs, unhide HRR, List.take_of_length_le (by omega)]
      have HBR := hide hbR
      have HFR := hide hfr
      have HROW := hide hrow
      clear hrow hfr htv hmp hbl hbs hbR
      go_wp2
      go_ret
      rw [← unhide HBR]
      exact ⟨unhide HFR, a, c, rfl, fun q => ⟨(unhide HROW q).1, (unhide HROW q).2.2.2⟩⟩
end Go.Proofs.YtinhliecfjlocaaGreat
