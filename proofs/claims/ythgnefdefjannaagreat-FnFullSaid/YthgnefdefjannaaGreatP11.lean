import Derived.Test.YthgnefdefjannaaGreatP10
import Derived.Test.YthgnefdefjannaaGreatP8
import Derived.Test.YthgnefdefjannaaGreatP9
import Derived.Deep.DeepCutAuto
namespace Go.Proofs.YthgnefdefjannaaGreat
open Go.RowKit

/-- A line of l4many: m bytes, a and b in turn from i on. -/
def mLn (i m : Nat) : List Int := (List.range m).map (fun j => (97 : Int) + (((i + j) % 2 : Nat) : Int))
theorem mLn_succ (i m : Nat) : mLn i (m + 1) = mLn i m ++ [(97 : Int) + (((i + m) % 2 : Nat) : Int)] := by simp [mLn, List.range_succ]
theorem mLn_len (i m : Nat) : (mLn i m).length = m := by simp [mLn]
theorem mLn_byte (i m : Nat) : Cod (mLn i m) := fun x hx => by
  simp only [mLn, List.mem_map, List.mem_range] at hx
  obtain ⟨j, -, rfl⟩ := hx
  omega
/-- How long line i is. -/
def mLe (n t i : Nat) : Nat := t / n + if i < t % n then 1 else 0
def mnyK (n t k : Nat) : List (List Int) := (List.range k).map (fun i => mLn i (mLe n t i))
def mny (n t : Nat) : List (List Int) := mnyK n t n
theorem mnyK_succ (n t k : Nat) : mnyK n t (k + 1) = mnyK n t k ++ [mLn k (mLe n t k)] := by simp [mnyK, List.range_succ]
theorem mnyK_len (n t k : Nat) : (mnyK n t k).length = k := by simp [mnyK]
theorem mny_byte (n t : Nat) : ∀ x ∈ mny n t, Cod x := fun x hx => by
  simp only [mny, mnyK, List.mem_map, List.mem_range] at hx
  obtain ⟨i, -, rfl⟩ := hx
  exact mLn_byte _ _
theorem mnyK_tot (n t k : Nat) : tot (mnyK n t k) = k * (t / n) + min k (t % n) := by
  induction k with
  | zero => simp [mnyK, Go.Proofs.YthgnefdefjannaaGreat.tot]
  | succ k ih =>
    rw [mnyK_succ, tot_app, ih]
    have e : tot [mLn k (mLe n t k)] = mLe n t k := by simp [Go.Proofs.YthgnefdefjannaaGreat.tot, mLn_len]
    rw [e, mLe, Nat.succ_mul]
    split <;> omega
theorem mny_tot (n t : Nat) (hn : 1 ≤ n) : tot (mny n t) = t := by
  rw [mny, mnyK_tot, Nat.min_eq_right (Nat.le_of_lt (Nat.mod_lt _ (by omega))), Nat.div_add_mod]

set_option maxHeartbeats 8000000 in
set_option maxRecDepth 100000 in
theorem l4many_any (n t : Nat) (w : World) (hn : 1 ≤ n) (hn2 : n ≤ 1000) (ht : t ≤ 20000) :
    Calls Tryz.prog 12 #[.int .i64 n, .int .i64 t] w fun e w' => (∃ v, e = .returned v ∧ ∃ ps, ps.map Cl.xs = mny n t ∧ LB w.heap.size w' v ps) ∧ Below w.heap.size w w' := by
  obtain ⟨j0, hj, hy0, hy1, hy2⟩ := info_parts Tryz.zinByteS
  have hd0 : ¬ (n : Int) = 0 := by omega
  have hd1 : ((n : Int) == 0) = false := by simpa using (by omega : ¬ n = 0)
  have hq1 : (t : Int).tdiv (n : Int) = ((t / n : Nat) : Int) := by rw [Int.tdiv_eq_ediv_of_nonneg (by omega)]; rfl
  have hq2 : (t : Int).tmod (n : Int) = ((t % n : Nat) : Int) := by rw [Int.tmod_eq_emod_of_nonneg (by omega)]; rfl
  have hq3 : (t : Int) / (n : Int) = ((t / n : Nat) : Int) := rfl
  have hq4 : (t : Int) % (n : Int) = ((t % n : Nat) : Int) := rfl
  have hdl : t / n ≤ 20000 := Nat.le_trans (Nat.div_le_self _ _) ht
  have hrl : t % n < 1000 := Nat.lt_of_lt_of_le (Nat.mod_lt _ (by omega)) hn2
  have HLE : Hid (∀ i, mLe n t i = t / n + if i < t % n then 1 else 0) := fun i => rfl
  have HNY : Hid (mny n t = mnyK n t n) := rfl
  obtain ⟨d, hd⟩ : ∃ d, t / n = d := ⟨_, rfl⟩
  obtain ⟨r, hr⟩ : ∃ r, t % n = r := ⟨_, rfl⟩
  rw [hd] at hq1 hq3 hdl HLE
  rw [hr] at hq2 hq4 hrl HLE
  have hw1 : IntKind.i64.wrap (d : Int) = (d : Int) := k64i (by omega) (by omega)
  have hw2 : IntKind.i64.wrap (r : Int) = (r : Int) := k64i (by omega) (by omega)
  have hw3 : IntKind.i64.wrap ((d : Int) + 1) = (d : Int) + 1 := k64i (by omega) (by omega)
  clear hd hr
  obtain ⟨Y, hY⟩ : ∃ Y, mny n t = Y := ⟨_, rfl⟩
  rw [hY] at HNY ⊢
  clear hY
  obtain ⟨F, hF⟩ : ∃ F : Nat → List (List Int), F = mnyK n t := ⟨_, rfl⟩
  obtain ⟨L, hL⟩ : ∃ L : Nat → Nat, L = mLe n t := ⟨_, rfl⟩
  have HF0 : Hid (F 0 = []) := by rw [hF]; rfl
  have HFS : Hid (∀ k, F (k + 1) = F k ++ [mLn k (L k)]) := by rw [hF, hL]; exact fun k => mnyK_succ n t k
  have HFL : Hid (∀ k, (F k).length = k) := by rw [hF]; exact fun k => mnyK_len n t k
  have HFN : Hid (Y = F n) := by rw [hF]; exact unhide HNY
  have HLE' : Hid (∀ i, L i = d + if i < r then 1 else 0) := by rw [hL]; exact unhide HLE
  clear hF hL HNY HLE ht
  go_enter Tryz.func12, Tryz.ntmps12
  go_wp2
  go_loopw [5, 6] (fun ov i wr => ∃ (m : Nat) (ps : List (Cl Int)), m ≤ n ∧ i = .int .i64 (m : Nat) ∧ ps.map Cl.xs = F m ∧ LB w.heap.size wr ov ps ∧ Below w.heap.size w wr) (fun _ i _ => n - (intOf i).toNat)
  case atStart => exact ⟨0, [], Nat.zero_le _, rfl, (unhide HF0).symm, LL.nil, Below.refl _ _⟩
  case round =>
    rename World => V
    obtain ⟨m, ps, hm, rfl, hps, hll, hb⟩ := hrel
    have HLL := hide hll
    have HPS := hide hps
    have hpl : ps.length ≤ 1000 := by
      have h1 := congrArg List.length hps
      rw [List.length_map, unhide HFL] at h1
      omega
    have hszr := hb.size
    obtain ⟨oa, oc, rfl⟩ := own_is hll.own
    clear hll hps
    by_cases hlt : m < n
    · have hlt' : (m : Int) < (n : Int) := by omega
      have hLm := unhide HLE' m
      obtain ⟨l, hl⟩ : ∃ l, L m = l := ⟨_, rfl⟩
      rw [hl] at hLm
      have HL := hide hl
      have hl2 : l ≤ 20001 := by rw [hLm]; split <;> omega
      clear hl
      have hin : Calls Tryz.prog 12 #[] w (fun _ _ => True) → True := fun _ => trivial
      clear hin
      by_cases hir : m < r
      · have hir' : (m : Int) < (r : Int) := by omega
        rw [if_pos hir] at hLm
        have hll' : (d : Int) + 1 = (l : Int) := by omega
        rw [hll'] at hw3
        have HLM := hide hLm
        clear hLm
        go_wp2
        go_loopw [8, 9] (fun lv j wx => ∃ k : Nat, k ≤ l ∧ j = .int .i64 (k : Nat) ∧ wx.ownsRow V.heap.size 5 1 lv (mLn m k).length ((mLn m k).map mB) ∧ Below V.heap.size V wx) (fun _ j _ => l - (intOf j).toNat)
        case atStart => exact ⟨0, Nat.zero_le _, rfl, World.ownsRow_nil _ _ _ _, Below.refl _ _⟩
        case round =>
          obtain ⟨k, hk, rfl, hown, hbq⟩ := hrel
          have HO := hide hown
          have hkl : (mLn m k).length = k := mLn_len m k
          have hszq := hbq.size
          obtain ⟨la, lc, rfl⟩ := own_is hown
          have HMS := hide (mLn_succ m k)
          obtain ⟨X, hX⟩ : ∃ X, mLn m k = X := ⟨_, rfl⟩
          rw [hX] at HO hkl HMS hown ⊢
          have HX := hide hX
          have hX2 : X.length ≤ 20001 := by omega
          have HKL := hide hkl
          clear hown hX hkl
          by_cases hkt : k < l
          · have hkt' : (k : Int) < (l : Int) := by omega
            have hb1 : IntKind.i64.wrap ((m : Int) + (k : Int)) = (m : Int) + (k : Int) := k64i (by omega) (by omega)
            obtain ⟨y, hy⟩ : ∃ y : Int, (97 : Int) + (((m + k) % 2 : Nat) : Int) = y := ⟨_, rfl⟩
            rw [hy] at HMS
            have hy' : (97 : Int) + ((m : Int) + (k : Int)) % 2 = y := by omega
            have hyb : 97 ≤ y ∧ y ≤ 98 := by omega
            clear hy
            go_wp2_with (at_builtin; refine app_moreB rfl _ _ rfl V.heap.size _ rfl X (by exact (unhide HO).alloc _) (by rw [sz_alloc]; omega) _ rfl [y] (by first | exact lit_one | (rw [← hy']; exact lit_one)) (by simp; omega) ?_; intro v7 w7 hb7 ho7 hoc7; rw [← unhide HMS] at ho7; have hB7 : Below V.heap.size V w7 := hbq.trans (((below1 wr _).mono (by omega)).trans hb7); have HO7 := hide ho7; obtain ⟨oa7, oc7, rfl⟩ := own_is ho7; clear ho7 hb7)
            go_roundw
            case rel => exact ⟨k + 1, by omega, by go_num, unhide HO7, hB7⟩
            case measure => simp [intOf]; omega
          · obtain rfl : k = l := by omega
            have hkt' : ¬ (k : Int) < (k : Int) := by omega
            have hwl : X.length = X.length := rfl
            have Hst := hide (LB.push (unhide HLL) hszr hbq hb (unhide HO))
            have Hk := hide ((unhide HLL).keep hbq (Nat.le_refl _))
            clear hwl
            go_wp2_with (at_builtin; refine wpList_append_own _ rfl _ _ 23 rfl w.heap.size 22 j0 (.slice none 0 0) 1 24 Tryz.underlying23 hj hy0 hy1 hy2 rfl (by decide) _ _ _ rfl (World.ownsRow.alloc (w := wr) (unhide Hk).own _) ⟨wr.heap.size, 0, none⟩ 1 1 [.slice la X.length lc] rfl rfl ?_ ?_ ?_ ?_ ?_ ?_)
            any_goals first
              | (unfold maxLen; omega)
              | omega
              | (rw [sz_alloc]; omega)
              | (intro u hu; simp at hu; subst hu; rfl)
              | exact cell_1 (by simp)
              | exact (rfl : (Value.slice la X.length lc).oneCell' = true)
            intro v3 w3 h5 hg5 _
            have h3 := hide (unhide Hst w3 v3 h5 hg5)
            obtain ⟨g3, cap3, rfl⟩ := ownsRow_succ h5
            clear h5 hg5
            go_wp2
            obtain ⟨p, r1, r2, r3⟩ := unhide h3
            refine ⟨⟨m + 1, ps ++ [p], by omega, by go_num, ?_, r2, r3⟩, by simp [intOf]; omega⟩
            rw [List.map_append, List.map_cons, List.map_nil, unhide HPS, r1, unhide HFS, unhide HL, ← unhide HX]
      · have hir' : ¬ (m : Int) < (r : Int) := by omega
        rw [if_neg hir, Nat.add_zero] at hLm
        subst hLm
        go_wp2
        go_loopw [8, 9] (fun lv j wx => ∃ k : Nat, k ≤ l ∧ j = .int .i64 (k : Nat) ∧ wx.ownsRow V.heap.size 5 1 lv (mLn m k).length ((mLn m k).map mB) ∧ Below V.heap.size V wx) (fun _ j _ => l - (intOf j).toNat)
        case atStart => exact ⟨0, Nat.zero_le _, rfl, World.ownsRow_nil _ _ _ _, Below.refl _ _⟩
        case round =>
          obtain ⟨k, hk, rfl, hown, hbq⟩ := hrel
          have HO := hide hown
          have hkl : (mLn m k).length = k := mLn_len m k
          have hszq := hbq.size
          obtain ⟨la, lc, rfl⟩ := own_is hown
          have HMS := hide (mLn_succ m k)
          obtain ⟨X, hX⟩ : ∃ X, mLn m k = X := ⟨_, rfl⟩
          rw [hX] at HO hkl HMS hown ⊢
          have HX := hide hX
          have hX2 : X.length ≤ 20001 := by omega
          have HKL := hide hkl
          clear hown hX hkl
          by_cases hkt : k < l
          · have hkt' : (k : Int) < (l : Int) := by omega
            have hb1 : IntKind.i64.wrap ((m : Int) + (k : Int)) = (m : Int) + (k : Int) := k64i (by omega) (by omega)
            obtain ⟨y, hy⟩ : ∃ y : Int, (97 : Int) + (((m + k) % 2 : Nat) : Int) = y := ⟨_, rfl⟩
            rw [hy] at HMS
            have hy' : (97 : Int) + ((m : Int) + (k : Int)) % 2 = y := by omega
            have hyb : 97 ≤ y ∧ y ≤ 98 := by omega
            clear hy
            go_wp2_with (at_builtin; refine app_moreB rfl _ _ rfl V.heap.size _ rfl X (by exact (unhide HO).alloc _) (by rw [sz_alloc]; omega) _ rfl [y] (by first | exact lit_one | (rw [← hy']; exact lit_one)) (by simp; omega) ?_; intro v7 w7 hb7 ho7 hoc7; rw [← unhide HMS] at ho7; have hB7 : Below V.heap.size V w7 := hbq.trans (((below1 wr _).mono (by omega)).trans hb7); have HO7 := hide ho7; obtain ⟨oa7, oc7, rfl⟩ := own_is ho7; clear ho7 hb7)
            go_roundw
            case rel => exact ⟨k + 1, by omega, by go_num, unhide HO7, hB7⟩
            case measure => simp [intOf]; omega
          · obtain rfl : k = l := by omega
            have hkt' : ¬ (k : Int) < (k : Int) := by omega
            have hwl : X.length = X.length := rfl
            have Hst := hide (LB.push (unhide HLL) hszr hbq hb (unhide HO))
            have Hk := hide ((unhide HLL).keep hbq (Nat.le_refl _))
            clear hwl
            go_wp2_with (at_builtin; refine wpList_append_own _ rfl _ _ 23 rfl w.heap.size 22 j0 (.slice none 0 0) 1 24 Tryz.underlying23 hj hy0 hy1 hy2 rfl (by decide) _ _ _ rfl (World.ownsRow.alloc (w := wr) (unhide Hk).own _) ⟨wr.heap.size, 0, none⟩ 1 1 [.slice la X.length lc] rfl rfl ?_ ?_ ?_ ?_ ?_ ?_)
            any_goals first
              | (unfold maxLen; omega)
              | omega
              | (rw [sz_alloc]; omega)
              | (intro u hu; simp at hu; subst hu; rfl)
              | exact cell_1 (by simp)
              | exact (rfl : (Value.slice la X.length lc).oneCell' = true)
            intro v3 w3 h5 hg5 _
            have h3 := hide (unhide Hst w3 v3 h5 hg5)
            obtain ⟨g3, cap3, rfl⟩ := ownsRow_succ h5
            clear h5 hg5
            go_wp2
            obtain ⟨p, r1, r2, r3⟩ := unhide h3
            refine ⟨⟨m + 1, ps ++ [p], by omega, by go_num, ?_, r2, r3⟩, by simp [intOf]; omega⟩
            rw [List.map_append, List.map_cons, List.map_nil, unhide HPS, r1, unhide HFS, unhide HL, ← unhide HX]
    · obtain rfl : m = n := by omega
      have hlt' : ¬ (m : Int) < (m : Int) := by omega
      go_wp2
      go_ret
      exact ⟨⟨_, rfl, ps, by rw [unhide HPS, unhide HFN], unhide HLL⟩, hb⟩

end Go.Proofs.YthgnefdefjannaaGreat

namespace Go.Proofs.YthgnefdefjannaaGreat
open Go.RowKit

/-- The first k lines as a text, a newline between each two. -/
def txK (xss : List (List Int)) : Nat → List Int
  | 0 => []
  | k + 1 => (txK xss k ++ if k = 0 then [] else [10]) ++ xss[k]?.getD []
def txt (xss : List (List Int)) (last : Bool) : List Int := txK xss xss.length ++ if last then [10] else []
theorem txK_len (xss : List (List Int)) (k : Nat) (hk : k ≤ xss.length) : (txK xss k).length ≤ tot (xss.take k) + k := by
  induction k with
  | zero => simp [txK]
  | succ k ih =>
    have h1 := ih (by omega)
    have h2 := tot_step xss k (by omega)
    rw [txK, List.length_append, List.length_append, h2]
    split <;> simp <;> omega
theorem txt_len (xss : List (List Int)) (last : Bool) : (txt xss last).length ≤ tot xss + xss.length + 1 := by
  have := txK_len xss xss.length (Nat.le_refl _)
  rw [List.take_length] at this
  unfold txt
  rw [List.length_append]
  split <;> simp <;> omega
theorem txt_byte (xss : List (List Int)) (last : Bool) (h : ∀ x ∈ xss, Cod x) : Cod (txt xss last) := by
  have hk : ∀ k, Cod (txK xss k) := fun k => by
    induction k with
    | zero => intro x hx; simp [txK] at hx
    | succ k ih =>
      intro x hx
      rw [txK] at hx
      rcases List.mem_append.1 hx with hx | hx
      · rcases List.mem_append.1 hx with hx | hx
        · exact ih x hx
        · split at hx
          · simp at hx
          · simp only [List.mem_singleton] at hx; omega
      · by_cases hlt : k < xss.length
        · rw [List.getElem?_eq_getElem hlt] at hx
          exact h _ (List.getElem_mem hlt) x hx
        · rw [List.getElem?_eq_none (by omega)] at hx; simp at hx
  intro x hx
  unfold txt at hx
  rcases List.mem_append.1 hx with hx | hx
  · exact hk _ x hx
  · split at hx
    · simp only [List.mem_singleton] at hx; omega
    · simp at hx

set_option maxHeartbeats 8000000 in
set_option maxRecDepth 100000 in
theorem l5text_any (v : Value) (xss : List (List Int)) (last : Bool) (w : World) (hv : SsAt mB 0 w.heap.size w v xss) (hT : tot xss ≤ 1048576) (hL : xss.length ≤ 1048576) :
    Calls Tryz.prog 13 #[v, .int .u8 10, .bool last] w fun e w' => (∃ v', e = .returned v' ∧ w'.ownsRow w.heap.size 5 1 v' (txt xss last).length ((txt xss last).map mB)) ∧ Below w.heap.size w w' := by
  have HV := hide hv
  obtain ⟨a, cap, rfl, hl, -⟩ := hv
  obtain ⟨F, hF⟩ : ∃ F : Nat → List Int, F = txK xss := ⟨_, rfl⟩
  have HF0 : Hid (F 0 = []) := by rw [hF]; rfl
  have HFS : Hid (∀ k, F (k + 1) = (F k ++ if k = 0 then [] else [10]) ++ xss[k]?.getD []) := by rw [hF]; exact fun k => rfl
  have HFL : Hid (∀ k, k ≤ xss.length → (F k).length ≤ 2097152) := by rw [hF]; exact fun k hk => by have h1 := txK_len xss k hk; have h2 := tot_take xss k; omega
  have HTX : Hid (txt xss last = F xss.length ++ if last then [10] else []) := by rw [hF]; rfl
  clear hF
  go_enter Tryz.func13, Tryz.ntmps13
  go_wp2
  go_loopw [7, 8] (fun ov i wr => ∃ k : Nat, k ≤ xss.length ∧ i = .int .i64 (k : Nat) ∧ wr.ownsRow w.heap.size 5 1 ov (F k).length ((F k).map mB) ∧ Below w.heap.size w wr) (fun _ i _ => xss.length - (intOf i).toNat)
  case atStart => exact ⟨0, Nat.zero_le _, rfl, by rw [unhide HF0]; exact World.ownsRow_nil _ _ _ _, Below.refl _ _⟩
  case round =>
    obtain ⟨k, hk, rfl, hown, hb⟩ := hrel
    have HO := hide hown
    have hfl := unhide HFL k hk
    have hszr := hb.size
    obtain ⟨oa, oc, rfl⟩ := own_is hown
    clear hown
    by_cases hlt : k < xss.length
    · have hlt' : (k : Int) < (xss.length : Int) := by omega
      obtain ⟨_, _, e1, -, hc⟩ := (unhide HV).under hb (Nat.le_refl _)
      cases e1
      obtain ⟨b, off, rfl, hbn, hcell⟩ := hc (by omega)
      obtain ⟨s, hx, hs, -⟩ := hcell k hlt
      have HS := hide hs
      have hxl : (xss[k]?.getD []).length ≤ 1048576 := by have := tot_get xss k; omega
      obtain ⟨sa, sc, rfl, -⟩ := id hs
      have HFK := hide (unhide HFS k)
      clear hcell hc hs
      generalize xss[k]?.getD [] = x at *
      by_cases h0 : k = 0
      · subst h0
        have HE : Hid (F (0 + 1) = F 0 ++ x) := by have := unhide HFK; rwa [if_pos rfl, List.append_nil] at this
        have hp : ¬ ((0 : Nat) : Int) > 0 := by omega
        have hx0 : wr.cell? ⟨b, off, none⟩ = some (.slice sa x.length sc) := hx
        clear hx
        clear HFK
        go_wp2_with (at_builtin; refine app_moreB rfl _ _ rfl w.heap.size _ rfl (F 0) (by exact unhide HO) hszr _ rfl x (by exact (unhide HS).mono (Nat.le_refl _) hszr) (by omega) ?_; intro v7 w7 hb7 ho7 hoc7; rw [← unhide HE] at ho7; have hB7 : Below w.heap.size w w7 := hb.trans hb7; have HO7 := hide ho7; obtain ⟨oa7, oc7, rfl⟩ := own_is ho7; clear ho7 hb7)
        go_roundw
        case rel => exact ⟨0 + 1, by omega, by go_num, unhide HO7, hB7⟩
        case measure => simp [intOf]; omega
      · have HE : Hid (F (k + 1) = (F k ++ [10]) ++ x) := by have := unhide HFK; rwa [if_neg h0] at this
        obtain ⟨X, hX⟩ : ∃ X, F k ++ [10] = X := ⟨_, rfl⟩
        have hXl : X.length ≤ 2097153 := by rw [← hX]; simp; omega
        rw [hX] at HE
        have HX := hide hX
        clear hX
        have hp : (0 : Int) < (k : Int) := by omega
        have hk0 : ¬ k = 0 := h0
        clear HFK
        go_wp2_with (at_builtin; first
          | (refine app_moreB rfl _ _ rfl w.heap.size _ rfl X (by exact unhide HO6) (by omega) _ rfl x (by exact ((unhide HS).under hB6 (Nat.le_refl _)).mono (Nat.le_refl _) (by omega)) (by omega) ?_; intro v7 w7 hb7 ho7 hoc7; rw [← unhide HE] at ho7; have hB7 : Below w.heap.size w w7 := (hb.trans hB6).trans hb7; have HO7 := hide ho7; obtain ⟨oa7, oc7, rfl⟩ := own_is ho7; clear ho7 hb7)
          | (refine app_moreB rfl _ _ rfl w.heap.size _ rfl (F k) (by exact (unhide HO).alloc _) (by rw [sz_alloc]; omega) _ rfl [10] (by exact lit_one) (by simp; omega) ?_; intro v6 w6 hb6 ho6 hoc6; rw [unhide HX] at ho6; have hB6 : Below w.heap.size wr w6 := ((below1 wr _).mono hszr).trans hb6; have hz6 := hB6.size; have HO6 := hide ho6; have c6 : w6.cell? ⟨b, off + k, none⟩ = some (.slice sa x.length sc) := (by rw [hB6.cell (p := ⟨b, off + k, none⟩) hbn]; exact hx); obtain ⟨oa6, oc6, rfl⟩ := own_is ho6; clear ho6 hb6))
        go_roundw
        case rel => exact ⟨k + 1, by omega, by go_num, unhide HO7, hB7⟩
        case measure => simp [intOf]; omega
    · obtain rfl : k = xss.length := by omega
      have hlt' : ¬ (xss.length : Int) < (xss.length : Int) := by omega
      cases last with
      | true =>
        have HE : Hid (txt xss true = F xss.length ++ [10]) := unhide HTX
        go_wp2_with (at_builtin; refine app_moreB rfl _ _ rfl w.heap.size _ rfl (F xss.length) (by exact (unhide HO).alloc _) (by rw [sz_alloc]; omega) _ rfl [10] (by exact lit_one) (by simp; omega) ?_; intro v6 w6 hb6 ho6 hoc6; rw [← unhide HE] at ho6; have hB6 : Below w.heap.size wr w6 := ((below1 wr _).mono hszr).trans hb6; have HO6 := hide ho6; obtain ⟨oa6, oc6, rfl⟩ := own_is ho6; clear ho6 hb6)
        go_ret
        exact ⟨⟨_, rfl, unhide HO6⟩, hb.trans hB6⟩
      | false =>
        have HE : Hid (txt xss false = F xss.length) := by have := unhide HTX; simp only [Bool.false_eq_true, if_false, List.append_nil] at this; exact this
        go_wp2
        go_ret
        exact ⟨⟨_, rfl, by rw [unhide HE]; exact unhide HO⟩, hb⟩

end Go.Proofs.YthgnefdefjannaaGreat

namespace Go.Proofs.YthgnefdefjannaaGreat
open Go.RowKit

theorem run_tv (x : Value) (w : World) : Sem.run Tryz.prog (callFunc 73 #[x]) w = .ok (.enter 73 #[x]) w := by kernel_rfl
theorem run_tb (x y : Value) (w : World) : Sem.run Tryz.prog (callFunc 72 #[x, y]) w = .ok (.enter 72 #[x, y]) w := by kernel_rfl

/-- The values vs read as these lines. -/
def LnV (N : Nat) (w : World) (vs : List Value) (xss : List (List Int)) : Prop := vs.length = xss.length ∧ ∀ i : Nat, i < xss.length → SlAt mB 0 0 N w (vs[i]?.getD undef) (xss[i]?.getD []) ∧ CapOk (vs[i]?.getD undef)
theorem LnV.below {N m : Nat} {w w' : World} {vs : List Value} {xss : List (List Int)} (h : LnV N w vs xss) (hb : Below m w w') (hm : N ≤ m) : LnV N w' vs xss := ⟨h.1, fun i hi => ⟨(h.2 i hi).1.under hb hm, (h.2 i hi).2⟩⟩
theorem LnV.push {N : Nat} {w : World} {vs : List Value} {xss : List (List Int)} {v : Value} {x : List Int} (h : LnV N w vs xss) (hv : SlAt mB 0 0 N w v x) (hc : CapOk v) : LnV N w (vs ++ [v]) (xss ++ [x]) := by
  refine ⟨by simp [h.1], fun i hi => ?_⟩
  rw [List.length_append, List.length_singleton] at hi
  by_cases hlt : i < xss.length
  · rw [List.getElem?_append_left (by rw [h.1]; exact hlt), List.getElem?_append_left hlt]
    exact h.2 i hlt
  · obtain rfl : i = xss.length := by omega
    rw [List.getElem?_append_right (by rw [h.1]; exact Nat.le_refl _), List.getElem?_append_right (Nat.le_refl _), h.1, Nat.sub_self]
    exact ⟨hv, hc⟩
theorem LnV.ss {N lo n : Nat} {w : World} {v : Value} {vs : List Value} {xss : List (List Int)} (h : LnV N w vs xss) (ho : w.ownsRow lo 22 1 v n vs) (hN : N ≤ w.heap.size) : SsAt mB 0 w.heap.size w v xss := by
  have hlen := ho.1
  rw [Nat.mul_one] at hlen
  have hl2 : xss.length = n := by rw [← h.1]; exact hlen
  rcases ho.2 with ⟨rfl, hz⟩ | ⟨g, cap, cur, rfl, hbg, hg, hnc, hcm, hcs, htake⟩
  · exact ⟨none, 0, by rw [hl2, hz], ⟨by omega, Nat.zero_le _⟩, fun hp => by omega⟩
  · refine ⟨_, cap, by rw [hl2], ⟨by omega, hcm⟩, fun hp => ⟨g, 0, rfl, (ho.lt g rfl).2, fun i hi => ⟨vs[i]?.getD undef, ?_, (h.2 i hi).1.mono (Nat.le_refl _) hN, (h.2 i hi).2⟩⟩⟩
    rw [Nat.zero_add, ho.cellAt i (by omega), List.getElem?_eq_getElem (by omega)]
    rfl
theorem own_only {D base e s n : Nat} {w w' : World} {v : Value} {xs : List Value} (h : w.ownsRow base e s v n xs) (ho : Only D w w') (hD : D < base) : w'.ownsRow base e s v n xs := by
  refine ⟨h.1, ?_⟩
  rcases h.2 with hn | ⟨g, cap, cur, rfl, hb, hg, rest⟩
  · exact .inl hn
  · exact .inr ⟨g, cap, cur, rfl, hb, (ho.block g (by omega)).trans hg, rest⟩
theorem RdAt.keep {N D m : Nat} {w w' : World} {xs : List Int} (h : RdAt N D w xs) (hb : Below m w w') (hm : D < m) : RdAt N D w' xs := by
  obtain ⟨hN, v, h1, h2, h3⟩ := h
  exact ⟨hN, v, (hb.block D hm).trans h1, h2.under hb (by omega), h3⟩
theorem pl_step {c k : Nat} {ys : List Int} (h : k < c) : pl (c - k) ys = (tv 9 ys).2.take (tv 9 ys).1.toNat :: pl (c - (k + 1)) ((tv 9 ys).2.drop (tv 9 ys).1.toNat) := by
  obtain ⟨q, hq⟩ : ∃ q, c - k = q + 1 := ⟨c - k - 1, by omega⟩
  have hq2 : c - (k + 1) = q := by omega
  rw [hq, hq2]
  rfl

set_option maxHeartbeats 8000000 in
set_option maxRecDepth 100000 in
theorem baseAndLines_any (N D : Nat) (bs : List Int) (w : World) (h : RdAt N D w bs) (hb : ∀ x ∈ bs, 0 ≤ x ∧ x ≤ 255) (hD : D < w.heap.size) :
    Calls Tryz.prog 61 #[.pointer (some ⟨D, 0, none⟩)] w fun e w' => (∃ lv, e = .returned (.tuple #[.int .i64 (parP bs).1, lv]) ∧ SsAt mB 0 w'.heap.size w' lv (parP bs).2) ∧ Below D w w' := by
  obtain ⟨j0, hj, hy0, hy1, hy2⟩ := info_parts Tryz.zinByteS
  have H := hide h
  have HB := hide hb
  have hND := h.1
  clear h hb
  go_enter Tryz.func61, Tryz.ntmps61
  go_wp2_with fail
  refine (takeBytes_any N D 2 bs w (unhide H) (by omega) (by omega)).mono ?_
  rintro e w1 ⟨⟨v1, rfl, -, -⟩, hrd1, ho1⟩
  have HB1 : Hid (∀ x ∈ bs.drop 2, 0 ≤ x ∧ x ≤ 255) := fun x hx => unhide HB x (List.mem_of_mem_drop hx)
  have Hrd1 : Hid (RdAt N D w1 (bs.drop 2)) := hrd1
  have hB1 : Below D w w1 := ho1.below (Nat.le_refl _)
  have hz1 := hB1.size
  clear hrd1 ho1
  go_wp2_with fail
  refine (takeVarint_any N D (bs.drop 2) w1 (unhide Hrd1) (unhide HB1)).mono ?_
  rintro e w2 ⟨rfl, hrd2, ho2⟩
  have hB2 : Below D w w2 := hB1.trans (ho2.below (Nat.le_refl _))
  have hz2 := hB2.size
  obtain ⟨hb0, hb1, q1, hq1⟩ := tv_bounds 9 (bs.drop 2) (unhide HB1)
  have HB2 : Hid (∀ x ∈ (tv 9 (bs.drop 2)).2, 0 ≤ x ∧ x ≤ 255) := fun x hx => by rw [hq1] at hx; exact unhide HB1 x (List.mem_of_mem_drop hx)
  have Hrd2 := hide hrd2
  have Hp : Hid (parP bs = ((tv 9 (bs.drop 2)).1, pl (min (tv 9 (tv 9 (bs.drop 2)).2).1 1000).toNat (tv 9 (tv 9 (bs.drop 2)).2).2)) := rfl
  clear hrd2 ho2 hq1
  generalize (tv 9 (bs.drop 2)).1 = base at *
  generalize (tv 9 (bs.drop 2)).2 = r2 at *
  go_wp2_with fail
  refine (takeVarint_any N D r2 w2 (unhide Hrd2) (unhide HB2)).mono ?_
  rintro e w3 ⟨rfl, hrd3, ho3⟩
  have hB3 : Below D w w3 := hB2.trans (ho3.below (Nat.le_refl _))
  have hz3 := hB3.size
  obtain ⟨hn0, hn1, q2, hq2⟩ := tv_bounds 9 r2 (unhide HB2)
  have HB3 : Hid (∀ x ∈ (tv 9 r2).2, 0 ≤ x ∧ x ≤ 255) := fun x hx => by rw [hq2] at hx; exact unhide HB2 x (List.mem_of_mem_drop hx)
  have Hrd3 := hide hrd3
  clear hrd3 ho3 hq2
  generalize (tv 9 r2).1 = cn at *
  generalize (tv 9 r2).2 = r3 at *
  obtain ⟨cnt, hcnt⟩ : ∃ cnt : Nat, min cn 1000 = cnt := ⟨(min cn 1000).toNat, by omega⟩
  have hc1 : cnt ≤ 1000 := by omega
  have hcc : (if cn ≤ 1000 then cn else 1000) = (cnt : Int) := by split <;> omega
  rw [hcnt, Int.toNat_natCast] at Hp
  go_wp2_with fail
  go_loopw [3, 17] (fun ov iv wr => ∃ (k : Nat) (vs : List Value) (xss : List (List Int)) (ys : List Int), k ≤ cnt ∧ iv = .int .i64 k ∧ wr.ownsRow w.heap.size 22 1 ov vs.length vs ∧ LnV N wr vs xss ∧ xss.length = k ∧ pl cnt r3 = xss ++ pl (cnt - k) ys ∧ (∀ y ∈ ys, 0 ≤ y ∧ y ≤ 255) ∧ RdAt N D wr ys ∧ Below D w wr) (fun _ iv _ => cnt - (intOf iv).toNat)
  case atStart => exact ⟨0, [], [], r3, Nat.zero_le _, rfl, World.ownsRow_nil _ _ _ _, ⟨rfl, fun i hi => absurd hi (Nat.not_lt_zero _)⟩, rfl, rfl, unhide HB3, unhide Hrd3, hB3⟩
  case round =>
    obtain ⟨k, vs, xss, ys, hk, rfl, hown, hln, hxl, hpl, hys, hrd, hB4⟩ := hrel
    have hz4 := hB4.size
    have Hown := hide hown
    have Hln := hide hln
    have hvl : vs.length ≤ 1000 := by rw [hln.1]; omega
    have Hpl := hide hpl
    have Hys := hide hys
    have Hrd := hide hrd
    obtain ⟨oa, oc, rfl⟩ := own_is hown
    clear hown hln hpl hys hrd
    by_cases hlt : k < cnt
    · have hlt' : (k : Int) < (cnt : Int) := by omega
      have Hst := hide (pl_step (ys := ys) hlt)
      obtain ⟨g0, g1, q3, hq3⟩ := tv_bounds 9 ys (unhide Hys)
      have Hy2 : Hid (∀ x ∈ (tv 9 ys).2.drop (tv 9 ys).1.toNat, 0 ≤ x ∧ x ≤ 255) := fun x hx => by
        have hx2 := List.mem_of_mem_drop hx
        rw [hq3] at hx2
        exact unhide Hys x (List.mem_of_mem_drop hx2)
      have HTV := hide (fun W (hr : RdAt N D W ys) => takeVarint_any N D ys W hr (unhide Hys))
      clear hq3
      generalize (tv 9 ys).1 = m at *
      generalize (tv 9 ys).2 = r at *
      obtain ⟨x, hxe⟩ : ∃ x, x = r.take m.toNat := ⟨_, rfl⟩
      rw [← hxe] at Hst
      have Hx := hide hxe
      clear hxe
      go_wp2_with fail
      go_region_law (
        (first
          | (refine step_call_o 73 #[.tmp 25] _ rfl #[.pointer (some ⟨D, 0, none⟩)] rfl (by first | (simp [Act.eval]; done) | (simp [Act.eval, Act.put]; done)) (run_tv _) (unhide HTV _ (by exact unhide Hrd)) ?_; rintro e w5 ⟨rfl, hrd5, ho5⟩; have hB5 : Below D w w5 := hB4.trans ((show Only D wr w5 from ⟨ho5.os, ho5.tape, ho5.output, ho5.size, ho5.block⟩).below (Nat.le_refl _)); have HO5 : Hid (Only D wr w5) := ⟨ho5.os, ho5.tape, ho5.output, ho5.size, ho5.block⟩; have Hrd5 := hide hrd5; clear hrd5 ho5; refine ⟨_, rfl, ?_⟩)
          | (refine step_call_o 72 #[.tmp 22, .tmp 26] _ rfl #[.pointer (some ⟨D, 0, none⟩), .int .i64 m] rfl (by first | (simp [Act.eval]; done) | (simp [Act.eval, Act.put]; done)) (run_tb _ _) (takeBytes_any N D m r _ (by exact unhide Hrd5) g0 (by omega)) ?_; rintro e w6 ⟨⟨v6, rfl, hs6, hc6⟩, hrd6, ho6⟩; have HO6 : Hid (Only D wr w6) := (unhide HO5).trans ho6; have hz6 : wr.heap.size ≤ w6.heap.size := Nat.le_of_eq (unhide HO6).size.symm; rw [← unhide Hx] at hs6; have Hs6 := hide hs6; have Hc6 := hide hc6; have Hrd6 := hide hrd6; have Hw6 := hide (own_only (unhide Hown) (unhide HO6) (by omega)); have Hl6 := hide ((unhide Hln).below ((unhide HO6).below (Nat.le_refl _)) hND); obtain ⟨sa6, sc6, rfl, -⟩ := id hs6; clear hs6 hc6 hrd6 ho6; refine ⟨_, rfl, ?_⟩)
          | (refine step_append_lies _ rfl (.tmp 19) (.tmp 28) 23 rfl w.heap.size 22 j0 (.slice none 0 0) 1 24 Tryz.underlying23 hj hy0 hy1 hy2 rfl (by decide) (.slice oa vs.length oc) vs.length vs (by first | (simp [Act.eval]; done) | (simp [Act.eval, Act.put]; done)) (by refine Pushd.own (w := w6) (o := .cells #[.slice sa6 x.length sc6] 22) ?_ (unhide Hw6); exact ⟨rfl, rfl, rfl, rfl⟩) ⟨w6.heap.size, 0, none⟩ 1 1 [.slice sa6 x.length sc6] (by first | (simp [Act.eval]; done) | (simp [Act.eval, Act.put]; done)) rfl (by refine Pushd.news (w := w6) (cs := #[.slice sa6 x.length sc6]) (t := 22) ?_; exact ⟨rfl, rfl, rfl, rfl⟩) (by intro u hu; simp at hu; subst hu; rfl) (by decide) (by unfold maxLen; omega) (by omega) (by show w.heap.size ≤ (w6.alloc _).heap.size; rw [sz_alloc]; omega) (w6.heap.size + 1) (sz_alloc w6 _) (fun gg cap' w7 q1 q2 q3 q4 => ?_); have hB6 : Below D w w6 := hB4.trans ((unhide HO6).below (Nat.le_refl _)); have hG7 : Below w.heap.size w6 w7 := ((below1 w6 (.cells #[.slice sa6 x.length sc6] 22)).mono (by omega)).grown q2 (by rw [sz_alloc]; omega) (fun j ej => ((unhide Hw6).lt j ej).1); have Hw7 := hide q1; clear q1 q2 q3 q4)))
      all_goals go_wp2
      all_goals exact ⟨⟨k + 1, vs ++ [.slice sa6 x.length sc6], xss ++ [x], r.drop m.toNat, by omega, by go_num, by rw [List.length_append]; exact unhide Hw7, ((unhide Hl6).push (unhide Hs6) (unhide Hc6)).below hG7 (by omega), by rw [List.length_append, hxl]; rfl, by rw [unhide Hpl, unhide Hst, List.append_assoc]; rfl, unhide Hy2, (unhide Hrd6).keep hG7 hD, hB6.trans (hG7.mono (by omega))⟩, by simp [intOf]; omega⟩
    · obtain rfl : k = cnt := by omega
      have hx : Hid ((parP bs).1 = base ∧ (parP bs).2 = xss) := by
        have h1 := unhide Hpl
        rw [Nat.sub_self] at h1
        simp only [pl, List.append_nil] at h1
        rw [unhide Hp]
        exact ⟨rfl, h1⟩
      go_wp2_with fail
      refine bodyPost_ret (v := .tuple #[.int .i64 base, .slice oa vs.length oc]) (by simp [results, Tryz.results61, go_sem]) rfl ⟨⟨_, by rw [(unhide hx).1], ?_⟩, hB4⟩
      rw [(unhide hx).2]
      exact (unhide Hln).ss (unhide Hown) (by omega)

end Go.Proofs.YthgnefdefjannaaGreat

namespace Go.Proofs.YthgnefdefjannaaGreat
open Go.RowKit

/-- What the model's l4read answers. -/
def ReadR (e : Ending) (bs : List Int) (i : Nat) : Prop :=
  (∃ n j, e = .returned (.tuple #[.int .i64 n, .int .i64 (j : Nat)]) ∧ rv 4 (bs.drop i) = some (n, bs.drop j) ∧ i < j ∧ j ≤ bs.length ∧ 0 ≤ n ∧ n < 268435456) ∨ (e = .returned (.tuple #[.int .i64 0, .int .i64 (-1)]) ∧ rv 4 (bs.drop i) = none)
theorem rv_step {f : Nat} {bs : List Int} {i : Nat} (h : i < bs.length) : rv (f + 1) (bs.drop i) = if bs[i]?.getD 0 < 128 then some (bs[i]?.getD 0, bs.drop (i + 1)) else (rv f (bs.drop (i + 1))).map (fun p => (bs[i]?.getD 0 % 128 + 128 * p.1, p.2)) := by
  rw [List.drop_eq_getElem_cons h, List.getElem?_eq_getElem h]
  rfl
theorem rv_end {f : Nat} {bs : List Int} {i : Nat} (h : bs.length ≤ i) : rv f (bs.drop i) = none := by
  rw [List.drop_of_length_le h]
  cases f <;> rfl

set_option maxHeartbeats 4000000 in
set_option maxRecDepth 100000 in
theorem l4read_any (v : Value) (bs : List Int) (i N : Nat) (w : World) (hv : SlAt mB 0 0 N w v bs) (hb : Bytes bs) (hl : bs.length ≤ 1048576) (hi : i ≤ 1048577) :
    Calls Tryz.prog 59 #[v, .int .i64 i] w fun e w' => ReadR e bs i ∧ w' = w := by
  have HB := hide hb
  obtain ⟨a, cap, rfl, -, hc⟩ := hv
  clear hb
  go_enter Tryz.func59, Tryz.ntmps59
  go_wp2
  go_loop [6, 7, 8] (fun vv uv kv => ∃ (k : Nat) (n u : Int), k ≤ 4 ∧ kv = .int .i64 k ∧ vv = .int .i64 n ∧ uv = .int .i64 u ∧ u = 128 ^ k ∧ 0 ≤ n ∧ n < u ∧ rv 4 (bs.drop i) = (rv (4 - k) (bs.drop (i + k))).map (fun p => (n + u * p.1, p.2))) (fun _ _ kv => 4 - (intOf kv).toNat)
  case atStart => exact ⟨0, 0, 1, by omega, rfl, rfl, rfl, rfl, by omega, by omega, by simp⟩
  case round =>
    obtain ⟨k, n, u, hk, rfl, rfl, rfl, hu, hn0, hn1, hrv⟩ := hrel
    have Hrv := hide hrv
    have Hu := hide hu
    clear hrv
    by_cases hlt : k < 4
    · have hlt' : (k : Int) < 4 := by omega
      have hu1 : 1 ≤ u ∧ u ≤ 2097152 := by
        have : k = 0 ∨ k = 1 ∨ k = 2 ∨ k = 3 := by omega
        rcases this with rfl | rfl | rfl | rfl <;> (rw [hu]; decide)
      clear hu
      by_cases hik : i + k < bs.length
      · have hik' : ¬ (bs.length : Int) ≤ (i : Int) + (k : Int) := by omega
        obtain ⟨b, off, rfl, -, -, hcell⟩ := hc (by omega)
        have hx := hcell (i + k) hik
        unfold mB at hx
        have hby := unhide HB (i + k)
        have Hst := hide (rv_step (f := 3 - k) hik)
        have h4 : Hid (4 - k = 3 - k + 1 ∧ 3 - k = 4 - (k + 1)) := ⟨by omega, by omega⟩
        clear hcell hc
        generalize bs[i + k]?.getD 0 = c at *
        have hp0 : 0 ≤ c % 128 * u := Int.mul_nonneg (by omega) (by omega)
        have hp1 : c % 128 * u ≤ 127 * u := Int.mul_le_mul_of_nonneg_right (by omega) (by omega)
        have kw : wrap64 (c % 128 * u) = c % 128 * u := w64i (by omega) (by omega)
        by_cases hc1 : c < 128
        · have HR : Hid (rv 4 (bs.drop i) = some (n + c % 128 * u, bs.drop (i + k + 1))) := by
            show rv 4 (bs.drop i) = some (n + c % 128 * u, bs.drop (i + k + 1))
            rw [unhide Hrv, (unhide h4).1, unhide Hst, if_pos hc1, show c % 128 = c by omega, Int.mul_comm c u]
            rfl
          go_wp2
          go_ret2
          exact ⟨Or.inl ⟨_, i + k + 1, by push_cast; rfl, unhide HR, by omega, by omega, by omega, by omega⟩, rfl⟩
        · have HR : Hid (rv 4 (bs.drop i) = (rv (4 - (k + 1)) (bs.drop (i + (k + 1)))).map (fun p => (n + c % 128 * u + u * 128 * p.1, p.2))) := by
            show rv 4 (bs.drop i) = (rv (4 - (k + 1)) (bs.drop (i + (k + 1)))).map (fun p => (n + c % 128 * u + u * 128 * p.1, p.2))
            rw [unhide Hrv, (unhide h4).1, unhide Hst, if_neg hc1, ← (unhide h4).2, ← Nat.add_assoc]
            cases rv (3 - k) (bs.drop (i + k + 1)) with
            | none => rfl
            | some p =>
              simp only [Option.map_some]
              congr 2
              rw [Int.mul_add, Int.mul_comm u (c % 128), ← Int.mul_assoc, Int.add_assoc]
          go_wp2
          exact ⟨⟨k + 1, n + c % 128 * u, u * 128, by omega, by go_num, rfl, rfl, by rw [Int.pow_succ, ← unhide Hu], by omega, by omega, unhide HR⟩, by simp [intOf]; omega⟩
      · have hik' : (bs.length : Int) ≤ (i : Int) + (k : Int) := by omega
        have HN : Hid (rv 4 (bs.drop i) = none) := by
          show rv 4 (bs.drop i) = none
          rw [unhide Hrv, rv_end (by omega)]
          rfl
        go_wp2
        go_ret2
        exact ⟨Or.inr ⟨rfl, unhide HN⟩, rfl⟩
    · obtain rfl : k = 4 := by omega
      have HN : Hid (rv 4 (bs.drop i) = none) := by
        show rv 4 (bs.drop i) = none
        rw [unhide Hrv]
        rfl
      go_wp2
      go_ret2
      exact ⟨Or.inr ⟨rfl, unhide HN⟩, rfl⟩

/-- What the model's l4lines answers. -/
def LinR (e : Ending) (w' : World) (bs : List Int) : Prop :=
  (∃ b xss lv, e = .returned (.tuple #[.int .i64 b, lv, .bool true]) ∧ parM bs = some (b, xss) ∧ SsAt mB 0 w'.heap.size w' lv xss ∧ (0 ≤ b ∧ b ≤ 268435456) ∧ xss.length ≤ 1000 ∧ tot xss ≤ bs.length ∧ ∀ x ∈ xss, Bytes x) ∨ (e = .returned (.tuple #[.int .i64 0, .slice none 0 0, .bool false]) ∧ parM bs = none)
theorem parM_short {bs : List Int} (h : bs.length < 2) : parM bs = none := by unfold parM; rw [if_pos h]
theorem parM_1 {bs : List Int} (h : ¬ bs.length < 2) (h1 : rv 4 (bs.drop 2) = none) : parM bs = none := by unfold parM; rw [if_neg h, h1]
theorem parM_2 {bs r : List Int} {b : Int} (h : ¬ bs.length < 2) (h1 : rv 4 (bs.drop 2) = some (b, r)) (h2 : rv 4 r = none) : parM bs = none := by unfold parM; rw [if_neg h, h1]; simp only [h2]
theorem parM_3 {bs r r2 : List Int} {b n : Int} (h : ¬ bs.length < 2) (h1 : rv 4 (bs.drop 2) = some (b, r)) (h2 : rv 4 r = some (n, r2)) : parM bs = if 1000 < n then none else (rl n.toNat r2).map (fun l => (b, l)) := by unfold parM; rw [if_neg h, h1]; simp only [h2]
theorem rl_none {k : Nat} {xs : List Int} (h : rv 4 xs = none) : rl (k + 1) xs = none := by simp only [rl, h]
theorem rl_long {k : Nat} {xs r : List Int} {m : Int} (h : rv 4 xs = some (m, r)) (h2 : (r.length : Int) < m) : rl (k + 1) xs = none := by simp only [rl, h, if_pos h2]
theorem rl_some {k : Nat} {xs r : List Int} {m : Int} (h : rv 4 xs = some (m, r)) (h2 : ¬ (r.length : Int) < m) : rl (k + 1) xs = (rl k (r.drop m.toNat)).map (fun l => r.take m.toNat :: l) := by simp only [rl, h, if_neg h2]

set_option maxHeartbeats 8000000 in
set_option maxRecDepth 100000 in
theorem l4lines_any (v : Value) (bs : List Int) (w : World) (hv : SlAt mB 0 0 w.heap.size w v bs) (hcap : CapOk v) (hb : Bytes bs) (hl : bs.length ≤ 1048576) :
    Calls Tryz.prog 44 #[v] w fun e w' => LinR e w' bs ∧ Below w.heap.size w w' := by
  obtain ⟨j0, hj, hy0, hy1, hy2⟩ := info_parts Tryz.zinByteS
  have HV := hide hv
  have HB := hide hb
  obtain ⟨a, cap, rfl, -, -⟩ := hv
  have hcp := hcap.le
  have hcm := hcp.2
  unfold maxLen at hcm
  clear hb hcap
  by_cases h2 : bs.length < 2
  · have HN := hide (parM_short h2)
    have h2' : (bs.length : Int) < 2 := by omega
    go_enter Tryz.func44, Tryz.ntmps44
    go_wp2
    refine bodyPost_ret (v := .tuple #[.int .i64 0, .slice none 0 0, .bool false]) (by simp [results, Tryz.results44, go_sem]) rfl ⟨Or.inr ⟨rfl, unhide HN⟩, Below.refl _ _⟩
  · have h2' : ¬ (bs.length : Int) < 2 := by omega
    go_enter Tryz.func44, Tryz.ntmps44
    go_wp2_with fail
    refine (l4read_any _ bs 2 w.heap.size w (unhide HV) (unhide HB) hl (by omega)).mono ?_
    rintro e w1 ⟨hr, hw1⟩
    subst hw1
    rcases hr with ⟨b, i, rfl, hr1, hi1, hi2, hb0, hb1⟩ | ⟨rfl, hr1⟩
    · have Hr1 := hide hr1
      have hi0 : ¬ (i : Int) < 0 := by omega
      clear hr1
      go_wp2_with fail
      refine (l4read_any _ bs i w1.heap.size w1 (unhide HV) (unhide HB) hl (by omega)).mono ?_
      rintro e w2 ⟨hr, hw2⟩
      subst hw2
      rcases hr with ⟨n, k0, rfl, hr2, hk1, hk2, hn0, hn1⟩ | ⟨rfl, hr2⟩
      · have Hp := hide (parM_3 h2 (unhide Hr1) hr2)
        have hk0 : ¬ (k0 : Int) < 0 := by omega
        clear hr2
        by_cases hn : 1000 < n
        · have HN : Hid (parM bs = none) := by
            show parM bs = none
            rw [unhide Hp, if_pos hn]
          go_wp2_with fail
          refine bodyPost_ret (v := .tuple #[.int .i64 0, .slice none 0 0, .bool false]) (by simp [results, Tryz.results44, go_sem]) rfl ⟨Or.inr ⟨rfl, unhide HN⟩, Below.refl _ _⟩
        · have HP : Hid (parM bs = (rl n.toNat (bs.drop k0)).map (fun l => (b, l))) := by
            show parM bs = (rl n.toNat (bs.drop k0)).map (fun l => (b, l))
            rw [unhide Hp, if_neg hn]
          obtain ⟨cnt, hcnt⟩ : ∃ cnt : Nat, n = cnt := ⟨n.toNat, by omega⟩
          subst hcnt
          rw [Int.toNat_natCast] at HP
          have hc1 : cnt ≤ 1000 := by omega
          have HD : Hid ((bs.drop k0).length ≤ bs.length) := by show (bs.drop k0).length ≤ bs.length; rw [List.length_drop]; omega
          clear hn0 hn1 hn Hp
          have Hb1 := hide hb1
          clear hb1
          go_wp2_with fail
          go_loopw [8, 9, 10] (fun qv ov jv wr => ∃ (j q : Nat) (ps : List (Cl Int)), j ≤ cnt ∧ ps.length = j ∧ jv = .int .i64 j ∧ qv = .int .i64 q ∧ q ≤ bs.length ∧ rl cnt (bs.drop k0) = (rl (cnt - j) (bs.drop q)).map (fun l => ps.map Cl.xs ++ l) ∧ tot (ps.map Cl.xs) ≤ q ∧ (∀ x ∈ ps.map Cl.xs, Bytes x) ∧ LB w2.heap.size wr ov ps ∧ Below w2.heap.size w2 wr) (fun _ _ jv _ => cnt - (intOf jv).toNat)
          case atStart => exact ⟨0, k0, [], Nat.zero_le _, rfl, rfl, rfl, hk2, by simp, by simp [Go.Proofs.YthgnefdefjannaaGreat.tot], by simp, LL.nil, Below.refl _ _⟩
          case round =>
            obtain ⟨j, q, ps, hj1, hpl, rfl, rfl, hq, hrl, htt, hby, hll, hB⟩ := hrel
            have hz := hB.size
            have hpl1 : ps.length ≤ 1000 := by omega
            have Hpl := hide hpl
            have Hrl := hide hrl
            have Hby := hide hby
            have Hll := hide hll
            have HV2 := hide ((unhide HV).below hB (Nat.le_refl _))
            obtain ⟨oa, oc, rfl⟩ := own_is hll.own
            clear hrl hby hll hpl
            by_cases hlt : j < cnt
            · have hlt' : (j : Int) < (cnt : Int) := by omega
              obtain ⟨g, hg, hg2⟩ : ∃ g, cnt - j = g + 1 ∧ cnt - (j + 1) = g := ⟨cnt - j - 1, by omega, by omega⟩
              have Hg := hide (And.intro hg hg2)
              clear hg hg2
              go_wp2_with fail
              refine (l4read_any _ bs q wr.heap.size wr (unhide HV2) (unhide HB) hl (by omega)).mono ?_
              rintro e w3 ⟨hr, hw3⟩
              subst hw3
              rcases hr with ⟨m, p, rfl, hr3, hp1, hp2, hm0, hm1⟩ | ⟨rfl, hr3⟩
              · have hp0 : ¬ (p : Int) < 0 := by omega
                have Hr3 := hide hr3
                have Hm1 := hide hm1
                clear hr3 hm1
                by_cases hml : (bs.length : Int) - (p : Int) < m
                · have HN : Hid (parM bs = none) := by
                    show parM bs = none
                    rw [unhide HP, unhide Hrl, (unhide Hg).1, rl_long (unhide Hr3) (by rw [List.length_drop]; omega)]
                    rfl
                  go_wp2_with fail
                  refine bodyPost_ret (v := .tuple #[.int .i64 0, .slice none 0 0, .bool false]) (by simp [results, Tryz.results44, go_sem]) rfl ⟨Or.inr ⟨rfl, unhide HN⟩, hB⟩
                · obtain ⟨mm, hmm⟩ : ∃ mm : Nat, m = mm := ⟨m.toNat, by omega⟩
                  subst hmm
                  have hpm : p + mm ≤ bs.length := by omega
                  have Hrs := hide (rl_some (k := g) (unhide Hr3) (by rw [List.length_drop]; omega))
                  have HX : Hid (SlAt mB 0 0 w3.heap.size w3 (.slice (if cap = p then a else a.map (fun x => x.add p)) mm (cap - p)) ((bs.drop p).take mm)) := by
                    have h1 := (sl_from (j := p) (unhide HV2) (by omega) hcp.1 hcp.2)
                    have hcl := h1.2.le
                    have h2 := h1.1
                    rw [← List.length_drop] at h2
                    exact (sl_to (j := mm) h2 (by rw [List.length_drop]; omega) (by rw [List.length_drop]; omega) hcl.2).1
                  have HBx : Hid (Bytes ((bs.drop p).take mm)) := bytes_of_mem (fun x hx => mem_of_bytes (unhide HB) x (List.mem_of_mem_drop (List.mem_of_mem_take hx)))
                  have hxl : ((bs.drop p).take mm).length = mm := by rw [List.length_take, List.length_drop]; omega
                  have Hxl := hide hxl
                  rw [Int.toNat_natCast, List.drop_drop] at Hrs
                  clear Hm1 hxl
                  generalize (bs.drop p).take mm = x at *
                  have hxb : x.length ≤ 1048576 := by have := unhide Hxl; omega
                  by_cases hcc : cap = p
                  · rw [if_pos hcc] at HX
                    subst hcc
                    rw [Nat.sub_self] at HX
                    go_wp2_with (first
                      | (at_builtin; refine app_bytes rfl _ _ rfl w3.heap.size _ [] rfl (World.ownsRow_nil _ _ _ _) (Nat.le_refl _) (.slice a mm 0) (by first | rfl | (simp [Act.eval]; done) | (simp [Act.eval]; omega)) x (unhide HX) (by simp; omega) ?_; intro v4 w4 hb4 hg4 ho4 hone; rw [List.nil_append] at ho4; have Hst := hide (LB.push (unhide Hll) hz hb4 hB ho4); have Hk := hide ((unhide Hll).keep hb4 (Nat.le_refl _)); have hz4 := hb4.size; obtain ⟨la, lc, rfl⟩ := own_is ho4; clear ho4 hg4 hb4)
                      | (at_builtin; refine wpList_append_own _ rfl _ _ 23 rfl w2.heap.size 22 j0 (.slice none 0 0) 1 24 Tryz.underlying23 hj hy0 hy1 hy2 rfl (by decide) _ _ _ rfl (World.ownsRow.alloc (w := w4) (unhide Hk).own _) ⟨w4.heap.size, 0, none⟩ 1 1 [.slice la x.length lc] rfl rfl ?_ ?_ ?_ ?_ ?_ ?_))
                    · exact cell_1 (by simp)
                    · intro u hu; simp at hu; subst hu; rfl
                    · unfold maxLen; omega
                    · omega
                    · rw [sz_alloc]; omega
                    intro v5 w5 h5 hg5 _
                    have h3 := hide (unhide Hst w5 v5 h5 hg5)
                    obtain ⟨g3, cap3, rfl⟩ := ownsRow_succ h5
                    clear h5 hg5
                    go_wp2
                    obtain ⟨pp, r1, r2, r3⟩ := unhide h3
                    refine ⟨⟨j + 1, cap + mm, ps ++ [pp], by omega, by rw [List.length_append, unhide Hpl]; rfl, by go_num, by go_num, hpm, ?_, ?_, ?_, r2, r3⟩, by simp [intOf]; omega⟩
                    · have e9 : ((fun l => List.map Cl.xs ps ++ l) ∘ fun l => x :: l) = fun l => List.map Cl.xs ps ++ [x] ++ l := by funext l; simp
                      rw [unhide Hrl, (unhide Hg).1, unhide Hrs, (unhide Hg).2, Option.map_map, List.map_append, List.map_singleton, r1, e9]
                    · rw [List.map_append, tot_app, List.map_singleton, r1]
                      have := unhide Hxl
                      simp only [Go.Proofs.YthgnefdefjannaaGreat.tot]
                      omega
                    · intro y hy
                      rw [List.map_append, List.map_singleton, r1] at hy
                      rcases List.mem_append.1 hy with hy | hy
                      · exact unhide Hby y hy
                      · rw [List.mem_singleton.1 hy]
                        exact unhide HBx
                  · rw [if_neg hcc] at HX
                    go_wp2_with (first
                      | (at_builtin; refine app_bytes rfl _ _ rfl w3.heap.size _ [] rfl (World.ownsRow_nil _ _ _ _) (Nat.le_refl _) (.slice (Option.map (fun x => x.add p) a) mm (cap - p)) (by first | rfl | (simp [Act.eval]; done) | (simp [Act.eval]; omega)) x (unhide HX) (by simp; omega) ?_; intro v4 w4 hb4 hg4 ho4 hone; rw [List.nil_append] at ho4; have Hst := hide (LB.push (unhide Hll) hz hb4 hB ho4); have Hk := hide ((unhide Hll).keep hb4 (Nat.le_refl _)); have hz4 := hb4.size; obtain ⟨la, lc, rfl⟩ := own_is ho4; clear ho4 hg4 hb4)
                      | (at_builtin; refine wpList_append_own _ rfl _ _ 23 rfl w2.heap.size 22 j0 (.slice none 0 0) 1 24 Tryz.underlying23 hj hy0 hy1 hy2 rfl (by decide) _ _ _ rfl (World.ownsRow.alloc (w := w4) (unhide Hk).own _) ⟨w4.heap.size, 0, none⟩ 1 1 [.slice la x.length lc] rfl rfl ?_ ?_ ?_ ?_ ?_ ?_))
                    · exact cell_1 (by simp)
                    · intro u hu; simp at hu; subst hu; rfl
                    · unfold maxLen; omega
                    · omega
                    · rw [sz_alloc]; omega
                    intro v5 w5 h5 hg5 _
                    have h3 := hide (unhide Hst w5 v5 h5 hg5)
                    obtain ⟨g3, cap3, rfl⟩ := ownsRow_succ h5
                    clear h5 hg5
                    go_wp2
                    obtain ⟨pp, r1, r2, r3⟩ := unhide h3
                    refine ⟨⟨j + 1, p + mm, ps ++ [pp], by omega, by rw [List.length_append, unhide Hpl]; rfl, by go_num, by go_num, hpm, ?_, ?_, ?_, r2, r3⟩, by simp [intOf]; omega⟩
                    · have e9 : ((fun l => List.map Cl.xs ps ++ l) ∘ fun l => x :: l) = fun l => List.map Cl.xs ps ++ [x] ++ l := by funext l; simp
                      rw [unhide Hrl, (unhide Hg).1, unhide Hrs, (unhide Hg).2, Option.map_map, List.map_append, List.map_singleton, r1, e9]
                    · rw [List.map_append, tot_app, List.map_singleton, r1]
                      have := unhide Hxl
                      simp only [Go.Proofs.YthgnefdefjannaaGreat.tot]
                      omega
                    · intro y hy
                      rw [List.map_append, List.map_singleton, r1] at hy
                      rcases List.mem_append.1 hy with hy | hy
                      · exact unhide Hby y hy
                      · rw [List.mem_singleton.1 hy]
                        exact unhide HBx
              · have HN : Hid (parM bs = none) := by
                  show parM bs = none
                  rw [unhide HP, unhide Hrl, (unhide Hg).1, rl_none hr3]
                  rfl
                clear hr3
                go_wp2_with fail
                refine bodyPost_ret (v := .tuple #[.int .i64 0, .slice none 0 0, .bool false]) (by simp [results, Tryz.results44, go_sem]) rfl ⟨Or.inr ⟨rfl, unhide HN⟩, hB⟩
            · obtain rfl : j = cnt := by omega
              have HN : Hid (parM bs = some (b, ps.map Cl.xs)) := by
                show parM bs = some (b, ps.map Cl.xs)
                rw [unhide HP, unhide Hrl, Nat.sub_self]
                simp [rl]
              go_wp2_with fail
              refine bodyPost_ret (v := .tuple #[.int .i64 b, .slice oa ps.length oc, .bool true]) (by simp [results, Tryz.results44, go_sem]) rfl ⟨Or.inl ⟨b, ps.map Cl.xs, _, rfl, unhide HN, ?_, ⟨hb0, by have := unhide Hb1; omega⟩, by rw [List.length_map]; omega, by omega, unhide Hby⟩, hB⟩
              exact (LB.footR (unhide Hll)).all (Nat.le_refl _)
      · have HN := hide (parM_2 h2 (unhide Hr1) hr2)
        clear hr2
        go_wp2_with fail
        refine bodyPost_ret (v := .tuple #[.int .i64 0, .slice none 0 0, .bool false]) (by simp [results, Tryz.results44, go_sem]) rfl ⟨Or.inr ⟨rfl, unhide HN⟩, Below.refl _ _⟩
    · have HN := hide (parM_1 h2 hr1)
      clear hr1
      go_wp2_with fail
      refine bodyPost_ret (v := .tuple #[.int .i64 0, .slice none 0 0, .bool false]) (by simp [results, Tryz.results44, go_sem]) rfl ⟨Or.inr ⟨rfl, unhide HN⟩, Below.refl _ _⟩

end Go.Proofs.YthgnefdefjannaaGreat

namespace Go.Proofs.YthgnefdefjannaaGreat
open Go.RowKit

/-- The bytes ts, gathered in a row of one's own. -/
def Out (lo : Nat) (w : World) (ov : Value) (ts : List Int) : Prop := w.ownsRow lo 5 1 ov ts.length (ts.map mB)
theorem Out.keep {lo m : Nat} {w w' : World} {ov : Value} {ts : List Int} (h : Out lo w ov ts) (hb : Below m w w') (hm : w.heap.size ≤ m) : Out lo w' ov ts := own_keep h hb hm
theorem Out.is {lo : Nat} {w : World} {ov : Value} {ts : List Int} (h : Out lo w ov ts) : ∃ oa oc, ov = .slice oa ts.length oc := own_is h
def prv (d : Int) (ks : List Int) (j : Nat) : Int := if j = 0 then d else ks[j - 1]?.getD 0
theorem prv_zero (d : Int) (ks : List Int) : prv d ks 0 = d := rfl
theorem prv_succ (d : Int) (ks : List Int) (j : Nat) : prv d ks (j + 1) = ks[j]?.getD 0 := by simp [prv]

set_option maxHeartbeats 16000000 in
set_option maxRecDepth 100000 in
theorem l4body_any (v : Value) (base : Int) (xss pss : List (List Int)) (ks : List Int) (w : World) (hv : SegRd w v base xss ks pss) (hi : EncIn base xss ks pss) :
    Calls Tryz.prog 37 #[v] w fun e w' => (∃ v', e = .returned v' ∧ Out w.heap.size w' v' (bodL base xss ks pss)) ∧ Below w.heap.size w w' := by
  obtain ⟨a1, c1, a2, c2, a3, c3, rfl, u1, u2, u3⟩ := hv.parts
  have U1 := hide u1
  have U2 := hide u2
  have U3 := hide u3
  have HI := hide hi
  obtain ⟨i1, i2, i3, i4, i5, i6, i7, i8, i9⟩ := hi
  have I3 := hide i3
  have I4 := hide i4
  clear hv u1 u2 u3 i2 i3 i4
  unfold Mid at i1
  have hb0 := below2 w (.cells #[.int .i64 base, .slice a1 xss.length c1, .slice a2 ks.length c2, .slice a3 pss.length c3] 59) (.cells #[.int .u8 84, .int .u8 71] 5)
  have RA := (Row4.new w 59 (.int .i64 base) (.slice a1 xss.length c1) (.slice a2 ks.length c2) (.slice a3 pss.length c3)).alloc (.cells #[.int .u8 84, .int .u8 71] 5)
  have hO0 : Out (w.heap.size + 1) ((w.alloc (.cells #[.int .i64 base, .slice a1 xss.length c1, .slice a2 ks.length c2, .slice a3 pss.length c3] 59)).alloc (.cells #[.int .u8 84, .int .u8 71] 5)) (.slice (some ⟨w.heap.size + 1, 0, none⟩) 2 2) [84, 71] := by
    have := World.ownsRow_lit (base := w.heap.size + 1) (e := 5) (size := 1) (w.alloc (.cells #[.int .i64 base, .slice a1 xss.length c1, .slice a2 ks.length c2, .slice a3 pss.length c3] 59)) #[.int .u8 84, .int .u8 71] 2 (by rw [sz_alloc]; exact Nat.le_refl _) (by unfold maxLen; omega) rfl
    rw [sz_alloc] at this
    exact this
  have hzV : ((w.alloc (.cells #[.int .i64 base, .slice a1 xss.length c1, .slice a2 ks.length c2, .slice a3 pss.length c3] 59)).alloc (.cells #[.int .u8 84, .int .u8 71] 5)).heap.size = w.heap.size + 2 := by simp
  have hbd := bodL_len (unhide HI)
  have HBd := hide hbd
  have hl1 : ([84, 71] ++ (vi base ++ vi xss.length) ++ lnL xss).length ≤ 134217728 := by
    unfold bodL at hbd
    simp only [List.length_append] at hbd ⊢
    omega
  have hl2 : ([84, 71] ++ (vi base ++ vi xss.length) ++ lnL xss ++ vi ks.length).length + (kyL base 0 ks pss).length ≤ 134217728 := by
    unfold bodL at hbd
    simp only [List.length_append] at hbd ⊢
    omega
  have hl0 : ([84, 71] ++ vi base).length + (vi xss.length).length ≤ 134217728 := by
    unfold bodL at hbd
    simp only [List.length_append] at hbd ⊢
    omega
  have hl00 : 2 + (vi base).length ≤ 134217728 := by
    unfold bodL at hbd
    simp only [List.length_append, List.length_cons, List.length_nil] at hbd ⊢
    omega
  have HT : Hid ([84, 71] ++ (vi base ++ vi xss.length) ++ lnL xss ++ vi ks.length ++ kyL base 0 ks pss = bodL base xss ks pss) := rfl
  have HO0 := hide hO0
  clear hbd hO0
  obtain ⟨f0, f1, f2, f3, -⟩ := RA.facts
  go_enter Tryz.func37, Tryz.ntmps37
  go_wp2_with fail
  generalize (w.alloc (.cells #[.int .i64 base, .slice a1 xss.length c1, .slice a2 ks.length c2, .slice a3 pss.length c3] 59)).alloc (.cells #[.int .u8 84, .int .u8 71] 5) = V at *
  refine (l4varint_any base V (by omega) (by omega)).mono ?_
  rintro e w1 ⟨⟨v1, rfl, ho1⟩, hb1⟩
  have hz1 := hb1.size
  have HO1 := hide ((unhide HO0).keep hb1 (Nat.le_refl _))
  have HS1 := hide (own_rdB ho1 (by unfold maxLen; omega))
  have hC1 : Below (w.heap.size + 1) V w1 := hb1.mono (by omega)
  obtain ⟨oa1, oc1, rfl⟩ := own_is ho1
  clear ho1 hb1 HO0
  have hS : Hid (∀ W' : World, Below (w.heap.size + 1) V W' → W'.cell? ⟨w.heap.size, 0, none⟩ = some (.int .i64 base) ∧ W'.cell? ⟨w.heap.size, 1, none⟩ = some (.slice a1 xss.length c1) ∧ W'.cell? ⟨w.heap.size, 2, none⟩ = some (.slice a2 ks.length c2) ∧ W'.cell? ⟨w.heap.size, 3, none⟩ = some (.slice a3 pss.length c3)) := fun W' hW => by
    have h1 := (RA.below hW (by omega)).facts
    exact ⟨h1.1, h1.2.1, h1.2.2.1, h1.2.2.2.1⟩
  clear f0 f1 f2 f3
  go_wp2_with (at_builtin; refine app_moreB rfl _ _ rfl (w.heap.size + 1) _ rfl [84, 71] (by exact unhide HO1) (by omega) _ rfl (vi base) (by exact unhide HS1) (by simp; omega) ?_; intro v2 w2 hb2 ho2 hoc2; have hC2 : Below (w.heap.size + 1) V w2 := hC1.trans hb2; obtain ⟨f0, f1, f2, f3⟩ := unhide hS _ hC2; have HO2 : Hid (Out (w.heap.size + 1) w2 v2 ([84, 71] ++ vi base)) := ho2; clear ho2 hb2)
  have hz2 := hC2.size
  refine (l4varint_any (xss.length) w2 (by omega) (by omega)).mono ?_
  rintro e w3 ⟨⟨v3, rfl, ho3⟩, hb3⟩
  have hz3 := hb3.size
  have hvl3 := vi_len9 (n := xss.length) (by omega)
  have HO3 := hide ((unhide HO2).keep hb3 (Nat.le_refl _))
  have HS3 := hide (own_rdB ho3 (by unfold maxLen; omega))
  have hC3 : Below (w.heap.size + 1) V w3 := hC2.trans (hb3.mono (by omega))
  obtain ⟨oa3, oc3, rfl⟩ := own_is ho3
  clear ho3 f0 f1 f2 f3
  obtain ⟨f0, f1, f2, f3⟩ := unhide hS _ hC3
  go_wp2_with (at_builtin; refine app_moreB rfl _ _ rfl (w.heap.size + 1) _ rfl ([84, 71] ++ vi base) (by exact unhide HO3) (by omega) _ rfl (vi (xss.length)) (by exact unhide HS3) (by omega) ?_; intro v4 w4 hb4 ho4 hoc4; have hz4 := hb4.size; have hC4 : Below (w.heap.size + 1) V w4 := hC3.trans hb4; have HO4 : Hid (Out (w.heap.size + 1) w4 v4 (([84, 71] ++ vi base) ++ vi (xss.length))) := ho4; clear ho4 f0 f1 f2 f3; obtain ⟨f0, f1, f2, f3⟩ := unhide hS _ hC4)
  have e4 : [84, 71] ++ vi base ++ vi xss.length = [84, 71] ++ (vi base ++ vi xss.length) ++ lnL (xss.take 0) := by simp [lnL]
  rw [e4] at HO4
  have HV3 := hide (vi_len9 (n := base) (by omega))
  have HV4 := hide (vi_len9 (n := (xss.length : Int)) (by omega))
  clear HO1 HO2 HO3 HS1 HS3 hC1 hC2 hC3 hb3 hb4 hvl3 e4
  go_loopw [3, 4] (fun ov iv wr => ∃ k : Nat, k ≤ xss.length ∧ iv = .int .i64 k ∧ Out (w.heap.size + 1) wr ov ([84, 71] ++ (vi base ++ vi xss.length) ++ lnL (xss.take k)) ∧ Below (w.heap.size + 1) V wr) (fun _ iv _ => xss.length - (intOf iv).toNat)
  case atStart => exact ⟨0, Nat.zero_le _, rfl, unhide HO4, hC4⟩
  case round =>
    clear HO4 hC4 hz1 hz2 hz3 hz4 f0 f1 f2 f3
    obtain ⟨k, hk, rfl, hout, hC10⟩ := hrel
    have hz10 := hC10.size
    have HO10 := hide hout
    have hB10 : Below w.heap.size w wr := hb0.trans (hC10.mono (by omega))
    obtain ⟨w10, hw10⟩ : ∃ w10, w10 = wr := ⟨_, rfl⟩
    rw [← hw10] at hC10 hz10 HO10 hB10 ⊢
    clear hout hw10
    obtain ⟨f0, f1, f2, f3⟩ := unhide hS _ hC10
    by_cases hlt : k < xss.length
    · have hlt' : (k : Int) < (xss.length : Int) := by omega
      obtain ⟨_, _, e1, -, hc⟩ := (unhide U1).under hB10 (Nat.le_refl _)
      cases e1
      obtain ⟨b, off, rfl, hbn, hcell⟩ := hc (by omega)
      obtain ⟨s, hx, hs, -⟩ := hcell k hlt
      have Hs := hide hs
      have ht := tot_get xss k
      have Hn := hide (lnL_next hlt)
      have hln : ([84, 71] ++ (vi base ++ vi xss.length) ++ lnL (xss.take k)).length ≤ 134217728 := by
        have h1 := lnL_len (xss.take k) (by have := tot_take xss k; omega)
        have h2 := tot_take xss k
        have h3 := unhide HV3
        have h4 := unhide HV4
        rw [List.length_take] at h1
        simp only [List.length_append, List.length_cons, List.length_nil]
        omega
      obtain ⟨sa, sc, rfl, -, -⟩ := hs
      have hX : Hid (∀ W' : World, Below w.heap.size w10 W' → W'.cell? ⟨b, off + k, none⟩ = some (.slice sa (xss[k]?.getD []).length sc)) := fun W' hW => by rw [hW.cell (p := ⟨b, off + k, none⟩) (by show b < _; omega)]; exact hx
      clear hcell hc
      generalize xss[k]?.getD [] = x at *
      obtain ⟨t1, ht1⟩ : ∃ t1, t1 = [84, 71] ++ (vi base ++ vi xss.length) ++ lnL (xss.take k) := ⟨_, rfl⟩
      rw [← ht1] at hln HO10
      have Ht1 := hide ht1
      clear ht1
      go_wp2_with fail
      refine (l4varint_any x.length w10 (by omega) (by omega)).mono ?_
      rintro e w11 ⟨⟨v11, rfl, ho11⟩, hb11⟩
      have hz11 := hb11.size
      have hvl11 := vi_len9 (n := x.length) (by omega)
      have HO11 := hide ((unhide HO10).keep hb11 (Nat.le_refl _))
      have HS11 := hide (own_rdB ho11 (by unfold maxLen; omega))
      have hC11 : Below (w.heap.size + 1) V w11 := hC10.trans (hb11.mono (by omega))
      obtain ⟨oa11, oc11, rfl⟩ := own_is ho11
      clear ho11 f0 f1 f2 f3 hx
      go_wp2_with ((first
        | (at_builtin; refine app_moreB rfl _ _ rfl (w.heap.size + 1) _ rfl t1 (by exact unhide HO11) (by omega) _ rfl (vi x.length) (by exact unhide HS11) (by omega) ?_; intro v12 w12 hb12 ho12 hoc12; have hz12 := hb12.size; have hC12 : Below (w.heap.size + 1) V w12 := hC11.trans hb12; have hD12 : Below w.heap.size w10 w12 := (hb11.mono (by omega)).trans (hb12.mono (by omega)); have HO12 : Hid (Out (w.heap.size + 1) w12 v12 (t1 ++ vi x.length)) := ho12; have HL12 : Hid ((t1 ++ vi x.length).length + x.length ≤ 1073741824) := (by show (t1 ++ vi x.length).length + x.length ≤ 1073741824; rw [List.length_append]; omega); have HX12 := hide (((unhide Hs).under hD12 (Nat.le_refl _)).mono (Nat.le_refl _) (show w.heap.size ≤ w12.heap.size by omega)); obtain ⟨f0, f1, f2, f3⟩ := unhide hS _ hC12; have hx := unhide hX _ hD12; clear ho12)
        | (at_builtin; refine app_moreB rfl _ _ rfl (w.heap.size + 1) _ rfl (t1 ++ vi x.length) (by exact unhide HO12) (by omega) _ rfl x (by exact unhide HX12) (unhide HL12) ?_; intro v13 w13 hb13 ho13 hoc13; have hC13 : Below (w.heap.size + 1) V w13 := hC12.trans hb13; have HO13 : Hid (Out (w.heap.size + 1) w13 v13 (t1 ++ vi x.length ++ x)) := ho13; clear ho13 f0 f1 f2 f3 hx)))
      refine ⟨⟨k + 1, by omega, by go_num, ?_, hC13⟩, by simp [intOf]; omega⟩
      have e9 : [84, 71] ++ (vi base ++ vi xss.length) ++ lnL (xss.take (k + 1)) = t1 ++ vi x.length ++ x := by rw [unhide Hn, unhide Ht1]; simp only [List.append_assoc]
      rw [e9]
      exact unhide HO13
    · obtain rfl : k = xss.length := by omega
      rw [List.take_length] at HO10
      obtain ⟨t1, ht1⟩ : ∃ t1, t1 = [84, 71] ++ (vi base ++ vi xss.length) ++ lnL xss := ⟨_, rfl⟩
      rw [← ht1] at HO10 hl1 hl2 HT
      clear ht1
      have hl3 : t1.length + (vi ks.length).length + (kyL base 0 ks pss).length ≤ 134217728 := by rw [List.length_append] at hl2; exact hl2
      go_wp2_with fail
      refine (l4varint_any (ks.length) w10 (by omega) (by omega)).mono ?_
      rintro e w11 ⟨⟨v11, rfl, ho11⟩, hb11⟩
      have hz11 := hb11.size
      have hvl11 := vi_len9 (n := ks.length) (by omega)
      have HO11 := hide ((unhide HO10).keep hb11 (Nat.le_refl _))
      have HS11 := hide (own_rdB ho11 (by unfold maxLen; omega))
      have hC11 : Below (w.heap.size + 1) V w11 := hC10.trans (hb11.mono (by omega))
      obtain ⟨oa11, oc11, rfl⟩ := own_is ho11
      clear ho11 f0 f1 f2 f3
      obtain ⟨f0, f1, f2, f3⟩ := unhide hS _ hC11
      go_wp2_with (at_builtin; refine app_moreB rfl _ _ rfl (w.heap.size + 1) _ rfl (t1) (by exact unhide HO11) (by omega) _ rfl (vi (ks.length)) (by exact unhide HS11) (by omega) ?_; intro v12 w12 hb12 ho12 hoc12; have hz12 := hb12.size; have hC12 : Below (w.heap.size + 1) V w12 := hC11.trans hb12; have HO12 : Hid (Out (w.heap.size + 1) w12 v12 ((t1) ++ vi (ks.length))) := ho12; clear ho12 f0 f1 f2 f3; obtain ⟨f0, f1, f2, f3⟩ := unhide hS _ hC12)
      obtain ⟨t2, ht2⟩ : ∃ t2, t2 = t1 ++ vi ks.length := ⟨_, rfl⟩
      rw [← ht2] at HO12 hl2 HT
      clear ht2 HO10 HO11 HS11 hb11 hb12 hC11
      go_loopw [3, 5] (fun ov iv wr => ∃ (j : Nat) (ds : List Int), j ≤ ks.length ∧ iv = .int .i64 j ∧ kyL base 0 ks pss = ds ++ kyL base (prv 0 ks j) (ks.drop j) (pss.drop j) ∧ Out (w.heap.size + 1) wr ov (t2 ++ ds) ∧ Below (w.heap.size + 1) V wr) (fun _ iv _ => ks.length - (intOf iv).toNat)
      case atStart => exact ⟨0, [], Nat.zero_le _, rfl, rfl, by simpa using unhide HO12, hC12⟩
      case round =>
        clear HO12 hC12 hz12 hz11 hvl11 hC10 hz10 hB10 f0 f1 f2 f3
        obtain ⟨j, ds, hj, rfl, hds, hout, hC20⟩ := hrel
        have hz20 := hC20.size
        have HO20 := hide hout
        have hB20 : Below w.heap.size w wr := hb0.trans (hC20.mono (by omega))
        have hdl : t2.length + ds.length ≤ 134217728 := by
          rw [hds, List.length_append] at hl2
          omega
        have Hds := hide hds
        obtain ⟨w20, hw20⟩ : ∃ w20, w20 = wr := ⟨_, rfl⟩
        rw [← hw20] at hC20 hz20 HO20 hB20 ⊢
        clear hout hw20 hds
        obtain ⟨f0, f1, f2, f3⟩ := unhide hS _ hC20
        by_cases hlt : j < ks.length
        · have hlt' : (j : Int) < (ks.length : Int) := by omega
          have hlp : j < pss.length := by omega
          have hlp' : (j : Int) < (pss.length : Int) := by omega
          obtain ⟨_, _, e2, -, hc2⟩ := (unhide U2).under hB20 (Nat.le_refl _)
          cases e2
          obtain ⟨b2, off2, rfl, -, hb2n, hcell2⟩ := hc2 (by omega)
          have hx2 := hcell2 j hlt
          unfold mI at hx2
          obtain ⟨_, _, e3, -, hc3⟩ := (unhide U3).under hB20 (Nat.le_refl _)
          cases e3
          obtain ⟨b3, off3, rfl, hb3n, hcell3⟩ := hc3 (by omega)
          obtain ⟨s, hx3, hs3, -⟩ := hcell3 j hlp
          have Hs := hide hs3
          have hk : Mid (ks[j]?.getD 0) := unhide I3 _ (by rw [List.getElem?_eq_getElem hlt]; exact List.getElem_mem hlt)
          have HP : Hid (∀ x ∈ pss[j]?.getD [], Mid x) := unhide I4 _ (by rw [List.getElem?_eq_getElem hlp]; exact List.getElem_mem hlp)
          have ht := tot_get pss j
          have Hdd := hide (kyL_drop (base := base) (b := prv 0 ks j) hlt hlp)
          obtain ⟨sa, sc, rfl, -, -⟩ := hs3
          have hX : Hid (∀ W' : World, Below w.heap.size w20 W' → W'.cell? ⟨b3, off3 + j, none⟩ = some (.slice sa (pss[j]?.getD []).length sc)) := fun W' hW => by rw [hW.cell (p := ⟨b3, off3 + j, none⟩) (by show b3 < _; omega)]; exact hx3
          have hpv : Mid (prv 0 ks j) := by
            cases j with
            | zero => exact ⟨by simp [prv], by simp [prv]⟩
            | succ q => rw [prv_succ]; exact unhide I3 _ (by rw [List.getElem?_eq_getElem (by omega)]; exact List.getElem_mem _)
          have hgap : Hid (0 < j → w20.cell? ⟨b2, off2 + (j - 1), none⟩ = some (.int .i64 (prv 0 ks j))) := fun h => by
            obtain ⟨q, rfl⟩ : ∃ q, j = q + 1 := ⟨j - 1, by omega⟩
            rw [prv_succ]
            exact hcell2 q (by omega)
          have hz0 : Hid (j = 0 → prv 0 ks j = 0) := fun h => by rw [h]; rfl
          have Hnx : Hid (ks[j]?.getD 0 = prv 0 ks (j + 1)) := (prv_succ 0 ks j).symm
          clear hcell2 hc2 hcell3 hc3
          generalize ks[j]?.getD 0 = key at *
          generalize pss[j]?.getD [] = p at *
          generalize prv 0 ks j = c at *
          unfold Mid at hk hpv
          have hlen3 : t2.length + ds.length + (vi (key - c)).length + (vi p.length).length + (dst base p).length ≤ 268435456 := by
            have h1 := vi_len9 (n := key - c) (by omega)
            have h2 := vi_len9 (n := (p.length : Int)) (by omega)
            have h3 := dst_len p base i1.1 (unhide HP)
            omega
          obtain ⟨t3, ht3⟩ : ∃ t3, t3 = t2 ++ ds := ⟨_, rfl⟩
          have hl3' : t3.length = t2.length + ds.length := by rw [ht3, List.length_append]
          rw [← ht3] at HO20
          have Ht3 := hide ht3
          clear ht3
          go_upto_if 63 with fail
          go_cut [6] (fun gv wx => gv = .int .i64 (key - c) ∧ w20 = wx)
          case first =>
            by_cases hj0 : 0 < j
            · have hj0' : (0 : Int) < (j : Int) := by omega
              have hg := unhide hgap hj0
              go_wp2_with fail
              go_meet
              exact ⟨rfl, rfl⟩
            · have hj0' : ¬ (0 : Int) < (j : Int) := by omega
              have hc0 := unhide hz0 (by omega)
              go_wp2_with fail
              go_meet
              exact ⟨by rw [hc0, Int.sub_zero], rfl⟩
          case rest =>
            obtain ⟨rfl, hwc⟩ := hcut
            subst hwc
            go_wp2_with fail
            refine (l4varint_any (key - c) w20 (by omega) (by omega)).mono ?_
            rintro e w21 ⟨⟨v21, rfl, ho21⟩, hb21⟩
            have hz21 := hb21.size
            have hvl21 := vi_len9 (n := key - c) (by omega)
            have HO21 := hide ((unhide HO20).keep hb21 (Nat.le_refl _))
            have HS21 := hide (own_rdB ho21 (by unfold maxLen; omega))
            have hC21 : Below (w.heap.size + 1) V w21 := hC20.trans (hb21.mono (by omega))
            obtain ⟨oa21, oc21, rfl⟩ := own_is ho21
            clear ho21 f0 f1 f2 f3 hx3 hx2
            obtain ⟨f0, f1, f2, f3⟩ := unhide hS _ hC21
            go_wp2_with (at_builtin; refine app_moreB rfl _ _ rfl (w.heap.size + 1) _ rfl (t3) (by exact unhide HO21) (by omega) _ rfl (vi (key - c)) (by exact unhide HS21) (by omega) ?_; intro v22 w22 hb22 ho22 hoc22; have hz22 := hb22.size; have hC22 : Below (w.heap.size + 1) V w22 := hC21.trans hb22; have HO22 : Hid (Out (w.heap.size + 1) w22 v22 ((t3) ++ vi (key - c))) := ho22; clear ho22 f0 f1 f2 f3; obtain ⟨f0, f1, f2, f3⟩ := unhide hS _ hC22; have hD22 : Below w.heap.size w20 w22 := (hb21.mono (by omega)).trans (hb22.mono (by omega)); have hx3 := unhide hX _ hD22)
            obtain ⟨t4, ht4⟩ : ∃ t4, t4 = t3 ++ vi (key - c) := ⟨_, rfl⟩
            have hl4' : t4.length = t3.length + (vi (key - c)).length := by rw [ht4, List.length_append]
            rw [← ht4] at HO22
            have Ht4 := hide ht4
            clear ht4 HO20 HO21 HS21 hb21 hb22 hC20 hC21
            refine (l4varint_any (p.length) w22 (by omega) (by omega)).mono ?_
            rintro e w23 ⟨⟨v23, rfl, ho23⟩, hb23⟩
            have hz23 := hb23.size
            have hvl23 := vi_len9 (n := p.length) (by omega)
            have HO23 := hide ((unhide HO22).keep hb23 (Nat.le_refl _))
            have HS23 := hide (own_rdB ho23 (by unfold maxLen; omega))
            have hC23 : Below (w.heap.size + 1) V w23 := hC22.trans (hb23.mono (by omega))
            obtain ⟨oa23, oc23, rfl⟩ := own_is ho23
            clear ho23 f0 f1 f2 f3 hx3
            obtain ⟨f0, f1, f2, f3⟩ := unhide hS _ hC23
            go_wp2_with (at_builtin; refine app_moreB rfl _ _ rfl (w.heap.size + 1) _ rfl (t4) (by exact unhide HO23) (by omega) _ rfl (vi (p.length)) (by exact unhide HS23) (by omega) ?_; intro v24 w24 hb24 ho24 hoc24; have hz24 := hb24.size; have hC24 : Below (w.heap.size + 1) V w24 := hC23.trans hb24; have HO24 : Hid (Out (w.heap.size + 1) w24 v24 ((t4) ++ vi (p.length))) := ho24; clear ho24 f0 f1 f2 f3; obtain ⟨f0, f1, f2, f3⟩ := unhide hS _ hC24; have hD24 : Below w.heap.size w20 w24 := hD22.trans ((hb23.mono (by omega)).trans (hb24.mono (by omega))); have hx3 := unhide hX _ hD24)
            obtain ⟨t5, ht5⟩ : ∃ t5, t5 = t4 ++ vi p.length := ⟨_, rfl⟩
            have hl5' : t5.length = t4.length + (vi p.length).length := by rw [ht5, List.length_append]
            rw [← ht5] at HO24
            have Ht5 := hide ht5
            clear ht5 HO22 HO23 HS23 hb23 hb24 hC22 hC23 hD22
            go_loopw [3, 7] (fun ov iv wr => ∃ (i : Nat) (es : List Int), i ≤ p.length ∧ iv = .int .i64 i ∧ dst base p = es ++ dst (prv base p i) (p.drop i) ∧ Out (w.heap.size + 1) wr ov (t5 ++ es) ∧ Below (w.heap.size + 1) V wr ∧ Below w.heap.size w20 wr) (fun _ iv _ => p.length - (intOf iv).toNat)
            case atStart => exact ⟨0, [], Nat.zero_le _, rfl, rfl, by simpa using unhide HO24, hC24, hD24⟩
            case round =>
              clear HO24 hC24 hD24 f0 f1 f2 f3 hx3
              obtain ⟨i, es, hip, rfl, hes, hout, hC30, hD30⟩ := hrel
              have hz30 := hC30.size
              have HO30 := hide hout
              have hel : es.length ≤ (dst base p).length := by rw [hes, List.length_append]; omega
              have Hes := hide hes
              obtain ⟨w30, hw30⟩ : ∃ w30, w30 = wr := ⟨_, rfl⟩
              rw [← hw30] at hC30 hz30 HO30 hD30 ⊢
              clear hout hw30 hes
              obtain ⟨f0, f1, f2, f3⟩ := unhide hS _ hC30
              have hx3 := unhide hX _ hD30
              obtain ⟨_, _, ep, -, hcp⟩ := (unhide Hs).under hD30 (Nat.le_refl _)
              cases ep
              by_cases hil : i < p.length
              · have hil' : (i : Int) < (p.length : Int) := by omega
                obtain ⟨b4, off4, rfl, -, -, hcell4⟩ := hcp (by omega)
                have hx4 := hcell4 i hil
                unfold mI at hx4
                have hm : Mid (p[i]?.getD 0) := unhide HP _ (by rw [List.getElem?_eq_getElem hil]; exact List.getElem_mem hil)
                have Hdp := hide (dst_drop (b := prv base p i) hil)
                have hpv2 : Mid (prv base p i) := by
                  cases i with
                  | zero => exact i1
                  | succ q => rw [prv_succ]; exact unhide HP _ (by rw [List.getElem?_eq_getElem (by omega)]; exact List.getElem_mem _)
                have hgap2 : Hid (0 < i → w30.cell? ⟨b4, off4 + (i - 1), none⟩ = some (.int .i64 (prv base p i))) := fun h => by
                  obtain ⟨q, rfl⟩ : ∃ q, i = q + 1 := ⟨i - 1, by omega⟩
                  rw [prv_succ]
                  exact hcell4 q (by omega)
                have hz2 : Hid (i = 0 → prv base p i = base) := fun h => by rw [h]; rfl
                have Hnp : Hid (p[i]?.getD 0 = prv base p (i + 1)) := (prv_succ base p i).symm
                clear hcell4 hcp
                generalize p[i]?.getD 0 = x at *
                generalize prv base p i = c2 at *
                unfold Mid at hm hpv2
                obtain ⟨t6, ht6⟩ : ∃ t6, t6 = t5 ++ es := ⟨_, rfl⟩
                have hl6' : t6.length = t5.length + es.length := by rw [ht6, List.length_append]
                rw [← ht6] at HO30
                have Ht6 := hide ht6
                clear ht6
                go_upto_if 98 with fail
                go_cut [8] (fun fv wx => fv = .int .i64 c2 ∧ w30 = wx)
                case first =>
                  by_cases hi0 : 0 < i
                  · have hi0' : (0 : Int) < (i : Int) := by omega
                    have hg := unhide hgap2 hi0
                    go_wp2_with fail
                    go_meet
                    exact ⟨rfl, rfl⟩
                  · have hi0' : ¬ (0 : Int) < (i : Int) := by omega
                    have hc0 := unhide hz2 (by omega)
                    go_wp2_with fail
                    go_meet
                    exact ⟨by rw [hc0], rfl⟩
                case rest =>
                  obtain ⟨rfl, hwc⟩ := hcut
                  subst hwc
                  go_wp2_with fail
                  refine (l4varint_any (x - c2) w30 (by omega) (by omega)).mono ?_
                  rintro e w31 ⟨⟨v31, rfl, ho31⟩, hb31⟩
                  have hz31 := hb31.size
                  have hvl31 := vi_len9 (n := x - c2) (by omega)
                  have HO31 := hide ((unhide HO30).keep hb31 (Nat.le_refl _))
                  have HS31 := hide (own_rdB ho31 (by unfold maxLen; omega))
                  have hC31 : Below (w.heap.size + 1) V w31 := hC30.trans (hb31.mono (by omega))
                  obtain ⟨oa31, oc31, rfl⟩ := own_is ho31
                  clear ho31 f0 f1 f2 f3 hx3 hx4
                  obtain ⟨f0, f1, f2, f3⟩ := unhide hS _ hC31
                  go_wp2_with (at_builtin; refine app_moreB rfl _ _ rfl (w.heap.size + 1) _ rfl (t6) (by exact unhide HO31) (by omega) _ rfl (vi (x - c2)) (by exact unhide HS31) (by omega) ?_; intro v32 w32 hb32 ho32 hoc32; have hz32 := hb32.size; have hC32 : Below (w.heap.size + 1) V w32 := hC31.trans hb32; have HO32 : Hid (Out (w.heap.size + 1) w32 v32 ((t6) ++ vi (x - c2))) := ho32; clear ho32 f0 f1 f2 f3; obtain ⟨f0, f1, f2, f3⟩ := unhide hS _ hC32; have hD32 : Below w.heap.size w20 w32 := hD30.trans ((hb31.mono (by omega)).trans (hb32.mono (by omega))))
                  refine ⟨⟨i + 1, es ++ vi (x - c2), by omega, by go_num, by rw [unhide Hes, unhide Hdp, ← unhide Hnp, List.append_assoc], ?_, hC32, hD32⟩, by simp [intOf]; omega⟩
                  rw [← List.append_assoc, ← unhide Ht6]
                  exact unhide HO32
              · obtain rfl : i = p.length := by omega
                have hee : Hid (dst base p = es) := by
                  have h1 := unhide Hes
                  rw [List.drop_length] at h1
                  show dst base p = es
                  rw [h1]
                  simp [dst]
                clear hcp
                go_wp2
                refine ⟨⟨j + 1, ds ++ (vi (key - c) ++ vi p.length) ++ dst base p, by omega, by go_num, by rw [unhide Hds, unhide Hdd, ← unhide Hnx]; simp only [List.append_assoc], ?_, hC30⟩, by simp [intOf]; omega⟩
                have e9 : t2 ++ (ds ++ (vi (key - c) ++ vi p.length) ++ dst base p) = t5 ++ es := by rw [unhide Ht5, unhide Ht4, unhide Ht3, unhide hee]; simp only [List.append_assoc]
                rw [e9]
                exact unhide HO30
        · obtain rfl : j = ks.length := by omega
          have hE : Hid (t2 ++ ds = bodL base xss ks pss) := by
            have h1 := unhide Hds
            rw [kyL_end, List.append_nil] at h1
            show t2 ++ ds = _
            rw [← unhide HT, h1]
          go_wp2
          go_ret
          refine ⟨⟨_, rfl, ?_⟩, hB20⟩
          rw [← unhide hE]
          exact own_low (unhide HO20) (by omega)

set_option maxHeartbeats 4000000 in
set_option maxRecDepth 100000 in
theorem l4encode_any (v : Value) (base : Int) (xss pss : List (List Int)) (ks : List Int) (w : World) (hv : SegRd w v base xss ks pss) (hi : EncIn base xss ks pss) :
    Calls Tryz.prog 24 #[v] w fun e w' => (∃ v', e = .returned v' ∧ Out w.heap.size w' v' (encL base xss ks pss)) ∧ Below w.heap.size w w' := by
  have HV := hide hv
  obtain ⟨a1, c1, a2, c2, a3, c3, rfl, -⟩ := hv.parts
  have HI := hide hi
  have hbd := bodL_len hi
  have hb0 := below1 w (.cells #[.int .i64 base, .slice a1 xss.length c1, .slice a2 ks.length c2, .slice a3 pss.length c3] 59)
  have hzV : (w.alloc (.cells #[.int .i64 base, .slice a1 xss.length c1, .slice a2 ks.length c2, .slice a3 pss.length c3] 59)).heap.size = w.heap.size + 1 := sz_alloc _ _
  clear hv hi
  go_enter Tryz.func24, Tryz.ntmps24
  go_wp2_with fail
  generalize w.alloc (.cells #[.int .i64 base, .slice a1 xss.length c1, .slice a2 ks.length c2, .slice a3 pss.length c3] 59) = V at *
  refine (l4body_any _ base xss pss ks V ((unhide HV).below hb0 (Nat.le_refl _)) (unhide HI)).mono ?_
  rintro e w1 ⟨⟨v1, rfl, ho1⟩, hb1⟩
  have hz1 := hb1.size
  have HO1 := hide ho1
  have HS1 := hide (own_rdB ho1 (by unfold maxLen; omega))
  have hB1 : Below w.heap.size w w1 := hb0.trans (hb1.mono (by omega))
  have HBy := hide (bodL_bytes (base := base) (ks := ks) (pss := pss) (unhide HI).bytes)
  obtain ⟨t1, ht1⟩ : ∃ t1, t1 = bodL base xss ks pss := ⟨_, rfl⟩
  have Ht1 := hide ht1
  rw [← ht1] at HO1 HS1 HBy hbd
  obtain ⟨oa1, oc1, rfl⟩ := (unhide HO1).is
  clear ho1 hb1 ht1
  go_wp2_with fail
  refine (l4checksum_any _ t1 w1 (unhide HS1) (unhide HBy)).mono ?_
  rintro e w2 ⟨⟨v2, rfl, ho2⟩, hb2⟩
  have hz2 := hb2.size
  have HO2 := hide ((unhide HO1).keep hb2 (Nat.le_refl _))
  have HS2 := hide (own_rdB ho2 (by unfold maxLen; omega))
  obtain ⟨oa2, oc2, rfl⟩ := own_is ho2
  have h4 : (ckB (ck t1)).length = 4 := rfl
  clear ho2
  go_wp2_with (at_builtin; refine app_moreB rfl _ _ rfl V.heap.size _ rfl t1 (by exact unhide HO2) (by omega) _ rfl (ckB (ck t1)) (by exact unhide HS2) (by omega) ?_; intro v3 w3 hb3 ho3 hoc3)
  go_ret
  refine ⟨⟨_, rfl, ?_⟩, hB1.trans ((hb2.mono (by omega)).trans (hb3.mono (by omega)))⟩
  have e3 : encL base xss ks pss = t1 ++ ckB (ck t1) := by rw [unhide Ht1]; rfl
  rw [e3]
  exact own_low ho3 (by omega)

end Go.Proofs.YthgnefdefjannaaGreat
