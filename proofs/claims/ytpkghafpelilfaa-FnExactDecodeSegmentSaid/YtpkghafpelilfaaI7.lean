import Derived.Test.YtpkghafpelilfaaI6
namespace Go.Proofs.Ytpkghafpelilfaa
open Go.RowKit

/-- While two ascending lists are united. -/
structure UInv (x y os : List Int) (i j : Nat) : Prop where
  asc : Asc os
  mem : ∀ z, z ∈ os ↔ z ∈ x.take i ∨ z ∈ y.take j
  lx : ∀ z, z ∈ os → ∀ k, i ≤ k → k < x.length → z < x[k]?.getD 0
  ly : ∀ z, z ∈ os → ∀ k, j ≤ k → k < y.length → z < y[k]?.getD 0
theorem UInv.swap {x y os : List Int} {i j : Nat} (h : UInv x y os i j) : UInv y x os j i := ⟨h.asc, fun z => (h.mem z).trans Or.comm, h.ly, h.lx⟩
theorem UInv.start (x y : List Int) : UInv x y [] 0 0 := ⟨List.Pairwise.nil, fun z => by simp, fun z h => by simp at h, fun z h => by simp at h⟩
theorem UInv.one {x y os : List Int} {i j : Nat} (h : UInv x y os i j) (hx : Asc x) (hy : Asc y) (hi : i < x.length) (hlt : j < y.length → x[i]?.getD 0 < y[j]?.getD 0) : UInv x y (os ++ [x[i]?.getD 0]) (i + 1) j := by
  refine ⟨?_, fun z => ?_, fun z hz k h1 h2 => ?_, fun z hz k h1 h2 => ?_⟩
  · refine List.pairwise_append.2 ⟨h.asc, List.pairwise_singleton _ _, fun a ha b hb => ?_⟩
    rw [List.mem_singleton] at hb
    rw [hb]
    exact h.lx a ha i (Nat.le_refl _) hi
  · rw [take_succ_mem hi, List.mem_append, h.mem z, List.mem_singleton]
    constructor
    · rintro ((a | a) | a)
      · exact Or.inl (Or.inl a)
      · exact Or.inr a
      · exact Or.inl (Or.inr a)
    · rintro ((a | a) | a)
      · exact Or.inl (Or.inl a)
      · exact Or.inr a
      · exact Or.inl (Or.inr a)
  · rcases List.mem_append.1 hz with a | a
    · exact h.lx z a k (by omega) h2
    · rw [List.mem_singleton] at a
      rw [a]
      exact asc_get hx (by omega) h2
  · rcases List.mem_append.1 hz with a | a
    · exact h.ly z a k h1 h2
    · rw [List.mem_singleton] at a
      rw [a]
      have h3 := hlt (by omega)
      by_cases e : j = k
      · subst e; exact h3
      · have := asc_get hy (show j < k by omega) h2
        omega
theorem UInv.both {x y os : List Int} {i j : Nat} (h : UInv x y os i j) (hx : Asc x) (hy : Asc y) (hi : i < x.length) (hj : j < y.length) (he : x[i]?.getD 0 = y[j]?.getD 0) : UInv x y (os ++ [x[i]?.getD 0]) (i + 1) (j + 1) := by
  refine ⟨?_, fun z => ?_, fun z hz k h1 h2 => ?_, fun z hz k h1 h2 => ?_⟩
  · refine List.pairwise_append.2 ⟨h.asc, List.pairwise_singleton _ _, fun a ha b hb => ?_⟩
    rw [List.mem_singleton] at hb
    rw [hb]
    exact h.lx a ha i (Nat.le_refl _) hi
  · rw [take_succ_mem hi, take_succ_mem hj, List.mem_append, h.mem z, List.mem_singleton, ← he]
    constructor
    · rintro ((a | a) | a)
      · exact Or.inl (Or.inl a)
      · exact Or.inr (Or.inl a)
      · exact Or.inl (Or.inr a)
    · rintro ((a | a) | (a | a))
      · exact Or.inl (Or.inl a)
      · exact Or.inr a
      · exact Or.inl (Or.inr a)
      · exact Or.inr a
  · rcases List.mem_append.1 hz with a | a
    · exact h.lx z a k (by omega) h2
    · rw [List.mem_singleton] at a
      rw [a]
      exact asc_get hx (by omega) h2
  · rcases List.mem_append.1 hz with a | a
    · exact h.ly z a k (by omega) h2
    · rw [List.mem_singleton] at a
      rw [a, he]
      exact asc_get hy (by omega) h2
theorem UInv.done {x y os xs : List Int} (h : UInv x y os x.length y.length) (hm : ∀ z, z ∈ xs ↔ z ∈ x ∨ z ∈ y) : Ord xs os := ⟨h.asc, fun z => by rw [h.mem z, hm z]; simp⟩

set_option maxHeartbeats 4000000 in
set_option maxRecDepth 100000 in
theorem l4union_any (u v : Value) (x y : List Int) (w : World) (hu : SlAt mI 0 0 w.heap.size w u x) (hv : SlAt mI 0 0 w.heap.size w v y) (hx : Asc x) (hy : Asc y) (hlx : x.length ≤ 1048576) (hly : y.length ≤ 1048576) :
    Calls Try.prog 69 #[u, v] w fun e w' => OrdOwn e w w' (x ++ y) ∧ Below w.heap.size w w' := by
  obtain ⟨i0, hi, hz0, hz1, hz2⟩ := info_parts Try.zinInt
  have Hax := hide hx
  have Hay := hide hy
  have Hu := hide hu
  have Hv := hide hv
  obtain ⟨a1, c1, rfl, -, -⟩ := hu
  obtain ⟨a2, c2, rfl, -, -⟩ := hv
  clear hx hy
  have Bx : Hid (∀ wr, Below w.heap.size w wr → SlAt mI 0 0 wr.heap.size wr (.slice a1 x.length c1) x) := fun wr hb => (unhide Hu).below hb (Nat.le_refl _)
  have By : Hid (∀ wr, Below w.heap.size w wr → SlAt mI 0 0 wr.heap.size wr (.slice a2 y.length c2) y) := fun wr hb => (unhide Hv).below hb (Nat.le_refl _)
  go_enter Try.func69, Try.ntmps69
  go_wp2_with fail
  go_loopw [5, 6, 7] (fun ov iv jv wr => ∃ (i j : Nat) (os : List Int), i ≤ x.length ∧ j ≤ y.length ∧ iv = .int .i64 i ∧ jv = .int .i64 j ∧ UInv x y os i j ∧ os.length ≤ i + j ∧ wr.ownsRow w.heap.size 3 1 ov os.length (os.map mI) ∧ Below w.heap.size w wr) (fun _ iv jv _ => x.length + y.length - ((intOf iv).toNat + (intOf jv).toNat))
  case atStart => exact ⟨0, 0, [], Nat.zero_le _, Nat.zero_le _, rfl, rfl, UInv.start x y, Nat.le_refl _, World.ownsRow_nil _ _ _ _, Below.refl _ _⟩
  case round =>
    obtain ⟨i, j, os, hix, hjy, rfl, rfl, hm, hol, hown, hb⟩ := hrel
    have hszr := hb.size
    have Hown := hide hown
    have Hm := hide hm
    obtain ⟨oa, oc, rfl⟩ := own_is hown
    clear hown hm
    have Hst : Hid (∀ (u : Int) (q : Nat) (w' : World) (v' : Value), w'.ownsRow w.heap.size 3 1 v' (os.length + 1) (os.map mI ++ [.int .i64 u]) → ((wr.drewN q).alloc (.cells #[.int .i64 u] 3)).grownBy w' (Value.slice oa os.length oc).ownBlock → w'.ownsRow w.heap.size 3 1 v' (os ++ [u]).length ((os ++ [u]).map mI) ∧ Below w.heap.size w w') := fun u q w' v' g1 g2 => ord_step (unhide Hown) hb g1 g2
    by_cases gi : i < x.length
    · have gi' : (i : Int) < (x.length : Int) := by omega
      obtain ⟨_, _, e1, -, hcx⟩ := unhide Bx wr hb
      cases e1
      obtain ⟨b1, o1, rfl, -, hbn1, hcellx⟩ := hcx (by omega)
      have hxc : wr.cell? ⟨b1, o1 + i, none⟩ = some (.int .i64 (x[i]?.getD 0)) := hcellx i gi
      clear hcellx hcx
      by_cases gj : j < y.length
      · have gj' : (j : Int) < (y.length : Int) := by omega
        have gjd : decide ((y.length : Int) ≤ (j : Int)) = false := decide_eq_false (by omega)
        have gje : decide (y.length ≤ j) = false := decide_eq_false (by omega)
        obtain ⟨_, _, e2, -, hcy⟩ := unhide By wr hb
        cases e2
        obtain ⟨b2, o2, rfl, -, hbn2, hcelly⟩ := hcy (by omega)
        have hyc : wr.cell? ⟨b2, o2 + j, none⟩ = some (.int .i64 (y[j]?.getD 0)) := hcelly j gj
        clear hcelly hcy
        rcases Int.lt_trichotomy (x[i]?.getD 0) (y[j]?.getD 0) with hc | hc | hc
        · have Hn := hide ((unhide Hm).one (unhide Hax) (unhide Hay) gi (fun _ => hc))
          generalize x[i]?.getD 0 = xv at *
          generalize y[j]?.getD 0 = yv at *
          have c1 : xv ≤ yv := by omega
          have c2 : (yv == xv) = false := by simp; omega
          clear Hm
          go_wp2_with fail
          go_quiet (fail)
          go_wp2_with (at_builtin; refine wpList_append_own _ rfl _ _ 23 rfl w.heap.size 3 i0 (.int .i64 0) 1 8 Try.underlying23 hi hz0 hz1 hz2 rfl (by decide) _ _ _ rfl (World.ownsRow.alloc (w := wr.drewN nq) (unhide Hown) _) ⟨wr.heap.size, 0, none⟩ 1 1 [.int .i64 xv] rfl rfl ?_ ?_ ?_ ?_ ?_ ?_)
          · refine cell_1 ?_
            rw [World.cell?_alloc_at _ _ wr.heap.size _ (show wr.heap.size = (wr.drewN nq).heap.size from rfl)]
            rfl
          · intro u' hu; simp at hu; subst hu; rfl
          · unfold maxLen; omega
          · omega
          · rw [sz_alloc]; show _ ≤ wr.heap.size + 1; omega
          intro v' w3 h5 hg5 _
          have hst := hide (unhide Hst _ nq w3 v' h5 hg5)
          clear h5 hg5
          go_wp2
          go_roundw
          case rel => exact ⟨i + 1, j, _, by omega, by omega, by go_num, by go_num, unhide Hn, by simp; omega, (unhide hst).1, (unhide hst).2⟩
          case measure => simp [intOf]; omega
        · have Hn := hide ((unhide Hm).both (unhide Hax) (unhide Hay) gi gj hc)
          rw [← hc] at hyc
          clear hc
          generalize x[i]?.getD 0 = xv at *
          clear Hm
          go_wp2_with fail
          go_quiet (fail)
          go_wp2_with (at_builtin; refine wpList_append_own _ rfl _ _ 23 rfl w.heap.size 3 i0 (.int .i64 0) 1 8 Try.underlying23 hi hz0 hz1 hz2 rfl (by decide) _ _ _ rfl (World.ownsRow.alloc (w := wr.drewN nq) (unhide Hown) _) ⟨wr.heap.size, 0, none⟩ 1 1 [.int .i64 xv] rfl rfl ?_ ?_ ?_ ?_ ?_ ?_)
          · refine cell_1 ?_
            rw [World.cell?_alloc_at _ _ wr.heap.size _ (show wr.heap.size = (wr.drewN nq).heap.size from rfl)]
            rfl
          · intro u' hu; simp at hu; subst hu; rfl
          · unfold maxLen; omega
          · omega
          · rw [sz_alloc]; show _ ≤ wr.heap.size + 1; omega
          intro v' w3 h5 hg5 _
          have hst := hide (unhide Hst _ nq w3 v' h5 hg5)
          clear h5 hg5
          go_wp2
          go_roundw
          case rel => exact ⟨i + 1, j + 1, _, by omega, by omega, by go_num, by go_num, unhide Hn, by simp; omega, (unhide hst).1, (unhide hst).2⟩
          case measure => simp [intOf]; omega
        · have Hn := hide ((unhide Hm).swap.one (unhide Hay) (unhide Hax) gj (fun _ => hc)).swap
          generalize x[i]?.getD 0 = xv at *
          generalize y[j]?.getD 0 = yv at *
          have c1 : decide (xv ≤ yv) = false := decide_eq_false (by omega)
          have c2 : (xv == yv) = false := by simp; omega
          clear Hm
          go_wp2_with fail
          go_quiet (fail)
          go_wp2_with (at_builtin; refine wpList_append_own _ rfl _ _ 23 rfl w.heap.size 3 i0 (.int .i64 0) 1 8 Try.underlying23 hi hz0 hz1 hz2 rfl (by decide) _ _ _ rfl (World.ownsRow.alloc (w := wr.drewN nq) (unhide Hown) _) ⟨wr.heap.size, 0, none⟩ 1 1 [.int .i64 yv] rfl rfl ?_ ?_ ?_ ?_ ?_ ?_)
          · refine cell_1 ?_
            rw [World.cell?_alloc_at _ _ wr.heap.size _ (show wr.heap.size = (wr.drewN nq).heap.size from rfl)]
            rfl
          · intro u' hu; simp at hu; subst hu; rfl
          · unfold maxLen; omega
          · omega
          · rw [sz_alloc]; show _ ≤ wr.heap.size + 1; omega
          intro v' w3 h5 hg5 _
          have hst := hide (unhide Hst _ nq w3 v' h5 hg5)
          clear h5 hg5
          go_wp2
          go_roundw
          case rel => exact ⟨i, j + 1, _, by omega, by omega, by go_num, by go_num, unhide Hn, by simp; omega, (unhide hst).1, (unhide hst).2⟩
          case measure => simp [intOf]; omega
      · have gj' : ¬ (j : Int) < (y.length : Int) := by omega
        have gjd : decide ((y.length : Int) ≤ (j : Int)) = true := decide_eq_true (by omega)
        have gje : decide (y.length ≤ j) = true := decide_eq_true (by omega)
        have Hn := hide ((unhide Hm).one (unhide Hax) (unhide Hay) gi (fun h => absurd h gj))
        generalize x[i]?.getD 0 = xv at *
        clear Hm
        go_wp2_with fail
        go_quiet (fail)
        go_wp2_with (at_builtin; refine wpList_append_own _ rfl _ _ 23 rfl w.heap.size 3 i0 (.int .i64 0) 1 8 Try.underlying23 hi hz0 hz1 hz2 rfl (by decide) _ _ _ rfl (World.ownsRow.alloc (w := wr.drewN nq) (unhide Hown) _) ⟨wr.heap.size, 0, none⟩ 1 1 [.int .i64 xv] rfl rfl ?_ ?_ ?_ ?_ ?_ ?_)
        · refine cell_1 ?_
          rw [World.cell?_alloc_at _ _ wr.heap.size _ (show wr.heap.size = (wr.drewN nq).heap.size from rfl)]
          rfl
        · intro u' hu; simp at hu; subst hu; rfl
        · unfold maxLen; omega
        · omega
        · rw [sz_alloc]; show _ ≤ wr.heap.size + 1; omega
        intro v' w3 h5 hg5 _
        have hst := hide (unhide Hst _ nq w3 v' h5 hg5)
        clear h5 hg5
        go_wp2
        go_roundw
        case rel => exact ⟨i + 1, j, _, by omega, by omega, by go_num, by go_num, unhide Hn, by simp; omega, (unhide hst).1, (unhide hst).2⟩
        case measure => simp [intOf]; omega
    · have gi' : ¬ (i : Int) < (x.length : Int) := by omega
      by_cases gj : j < y.length
      · have gj' : (j : Int) < (y.length : Int) := by omega
        have gjd : decide ((y.length : Int) ≤ (j : Int)) = false := decide_eq_false (by omega)
        have gje : decide (y.length ≤ j) = false := decide_eq_false (by omega)
        have gid : decide (i < x.length) = false := decide_eq_false (by omega)
        have gid' : decide ((i : Int) < (x.length : Int)) = false := decide_eq_false (by omega)
        obtain ⟨_, _, e2, -, hcy⟩ := unhide By wr hb
        cases e2
        obtain ⟨b2, o2, rfl, -, hbn2, hcelly⟩ := hcy (by omega)
        have hyc : wr.cell? ⟨b2, o2 + j, none⟩ = some (.int .i64 (y[j]?.getD 0)) := hcelly j gj
        clear hcelly hcy
        have Hn := hide ((unhide Hm).swap.one (unhide Hay) (unhide Hax) gj (fun h => absurd h gi)).swap
        generalize y[j]?.getD 0 = yv at *
        clear Hm
        go_wp2_with fail
        go_quiet (fail)
        go_wp2_with (at_builtin; refine wpList_append_own _ rfl _ _ 23 rfl w.heap.size 3 i0 (.int .i64 0) 1 8 Try.underlying23 hi hz0 hz1 hz2 rfl (by decide) _ _ _ rfl (World.ownsRow.alloc (w := wr.drewN nq) (unhide Hown) _) ⟨wr.heap.size, 0, none⟩ 1 1 [.int .i64 yv] rfl rfl ?_ ?_ ?_ ?_ ?_ ?_)
        · refine cell_1 ?_
          rw [World.cell?_alloc_at _ _ wr.heap.size _ (show wr.heap.size = (wr.drewN nq).heap.size from rfl)]
          rfl
        · intro u' hu; simp at hu; subst hu; rfl
        · unfold maxLen; omega
        · omega
        · rw [sz_alloc]; show _ ≤ wr.heap.size + 1; omega
        intro v' w3 h5 hg5 _
        have hst := hide (unhide Hst _ nq w3 v' h5 hg5)
        clear h5 hg5
        go_wp2
        go_roundw
        case rel => exact ⟨i, j + 1, _, by omega, by omega, by go_num, by go_num, unhide Hn, by simp; omega, (unhide hst).1, (unhide hst).2⟩
        case measure => simp [intOf]; omega
      · have gj' : ¬ (j : Int) < (y.length : Int) := by omega
        have Hd : Hid (Ord (x ++ y) os) := by
          have h1 := unhide Hm
          rw [show i = x.length by omega, show j = y.length by omega] at h1
          exact h1.done (fun z => List.mem_append)
        clear Hm Hst
        go_wp2
        go_ret
        exact ⟨⟨_, os, rfl, unhide Hd, by simp; omega, unhide Hown⟩, hb⟩

/-- All trigram numbers of the lines. -/
def tr (bs : List Int) : List Int := tris bs (bs.length - 2)
def allT (xss : List (List Int)) : List Int := xss.flatMap tr
theorem allT_append (a b : List (List Int)) : allT (a ++ b) = allT a ++ allT b := List.flatMap_append
theorem allT_len (xss : List (List Int)) : (allT xss).length ≤ tot xss := by
  induction xss with
  | nil => simp [allT, tot]
  | cons x r ih =>
    have h1 : allT (x :: r) = tr x ++ allT r := List.flatMap_cons
    rw [h1, List.length_append, tot, tr, tris_len]
    omega

set_option maxHeartbeats 4000000 in
set_option maxRecDepth 100000 in
theorem l4keys_any (N : Nat) : ∀ (v : Value) (xss : List (List Int)) (w : World), xss.length ≤ N → SsAt mB 0 w.heap.size w v xss → (∀ x ∈ xss, Bytes x) → tot xss ≤ 1048576 → xss.length ≤ 1048576 →
    Calls Try.prog 58 #[v] w fun e w' => OrdOwn e w w' (allT xss) ∧ Below w.heap.size w w' := by
  induction N with
  | zero =>
    intro v xss w hN hv hbb hT hL
    obtain rfl : xss = [] := List.eq_nil_of_length_eq_zero (by omega)
    obtain ⟨a, cap, rfl, -, -⟩ := hv
    go_enter Try.func58, Try.ntmps58
    go_wp2
    go_ret
    exact ⟨⟨_, [], rfl, Ord.nil, Nat.le_refl _, World.ownsRow_nil _ _ _ _⟩, Below.refl _ _⟩
  | succ N ih =>
    intro v xss w hN hv hbb hT hL
    have Hv := hide hv
    have HB := hide hbb
    obtain ⟨a, cap, rfl, hl, hc⟩ := hv
    obtain ⟨hcp, hcm⟩ := hl
    clear hbb
    by_cases h0 : xss.length = 0
    · obtain rfl : xss = [] := List.eq_nil_of_length_eq_zero (by omega)
      clear hc
      go_enter Try.func58, Try.ntmps58
      go_wp2
      go_ret
      exact ⟨⟨_, [], rfl, Ord.nil, Nat.le_refl _, World.ownsRow_nil _ _ _ _⟩, Below.refl _ _⟩
    · obtain ⟨b, off, rfl, hbn, hcell⟩ := hc (by omega)
      have g0 : ((xss.length : Int) == 0) = false := by rw [beq_eq_false_iff_ne]; omega
      by_cases h1 : xss.length = 1
      · obtain ⟨x, rfl⟩ : ∃ x, xss = [x] := List.length_eq_one_iff.1 h1
        obtain ⟨s, hx, hs, -⟩ := hcell 0 (by omega)
        have Hs := hide hs
        obtain ⟨sa, sc, rfl, -, -⟩ := hs
        have hxl := tot_get [x] 0
        have Hb := hide (unhide HB x (by simp))
        have e1 : Hid (allT [x] = tris x (x.length - 2)) := by show allT [x] = _; simp [allT, tr]
        simp only [Nat.add_zero, List.getElem?_cons_zero, Option.getD_some] at hx Hs hxl
        clear hcell hc h1 h0
        go_enter Try.func58, Try.ntmps58
        go_wp2_with fail
        refine (specTri_own _ x _ (unhide Hs) (unhide Hb) (by omega)).mono ?_
        rintro e w1 ⟨⟨v1, ys, rfl, ho, hle, hown⟩, hb1⟩
        have Hown := hide hown
        obtain ⟨oa, oc, rfl⟩ := own_is hown
        clear hown
        go_wp2
        go_ret
        exact ⟨⟨_, ys, rfl, by rw [unhide e1]; exact ho, by rw [unhide e1]; exact hle, unhide Hown⟩, hb1⟩
      · have g1 : ((xss.length : Int) == 1) = false := by rw [beq_eq_false_iff_ne]; omega
        have hA := hide (SsAt.take (k := xss.length / 2) (cap := cap) (by omega) ⟨hcp, hcm⟩ hbn hcell)
        have hB := hide (SsAt.drop (k := xss.length / 2) (m := xss.length - xss.length / 2) (cap := cap - xss.length / 2) (by omega) ⟨by omega, by omega⟩ hbn hcell)
        have t1 := tot_take xss (xss.length / 2)
        have t2 := tot_drop xss (xss.length / 2)
        have l1 : (xss.take (xss.length / 2)).length = xss.length / 2 := by simp; omega
        have l2 : (xss.drop (xss.length / 2)).length = xss.length - xss.length / 2 := by simp
        have q1 : (xss.take (xss.length / 2)).length ≤ N := by omega
        have q2 : (xss.drop (xss.length / 2)).length ≤ N := by omega
        have q3 : (xss.take (xss.length / 2)).length ≤ 1048576 := by omega
        have q4 : (xss.drop (xss.length / 2)).length ≤ 1048576 := by omega
        have B1 : Hid (∀ x ∈ xss.take (xss.length / 2), Bytes x) := fun x hx => unhide HB x (List.mem_of_mem_take hx)
        have B2 : Hid (∀ x ∈ xss.drop (xss.length / 2), Bytes x) := fun x hx => unhide HB x (List.mem_of_mem_drop hx)
        have e1 : Hid (allT (xss.take (xss.length / 2)) ++ allT (xss.drop (xss.length / 2)) = allT xss) := by
          show _ = _
          rw [← allT_append, List.take_append_drop]
        have s1 := allT_len (xss.take (xss.length / 2))
        have s2 := allT_len (xss.drop (xss.length / 2))
        have Hq := hide q1
        have Hq2 := hide q2
        clear hc hcell l1 l2 q1 q2
        go_enter Try.func58, Try.ntmps58
        go_wp2_with fail
        refine (ih _ _ _ (unhide Hq) (unhide hA) (unhide B1) (by omega) q3).mono ?_
        rintro e w1 ⟨⟨v1, x, rfl, ox, lx, own1⟩, hb1⟩
        have hz1 := hb1.size
        have Own1 := hide own1
        have Ox := hide ox
        obtain ⟨a1, c1, rfl⟩ := own_is own1
        have HB1 := hide ((unhide hB).below hb1 (Nat.le_refl _))
        clear own1 ox
        go_wp2_with fail
        refine (ih _ _ _ (unhide Hq2) (unhide HB1) (unhide B2) (by omega) q4).mono ?_
        rintro e w2 ⟨⟨v2, y, rfl, oy, ly, own2⟩, hb2⟩
        have hz2 := hb2.size
        have Own2 := hide own2
        have Oy := hide oy
        obtain ⟨a2, c2, rfl⟩ := own_is own2
        have Sx := hide ((own_slw (lo := 0) (own_keep (unhide Own1) hb2 (Nat.le_refl _)) (Nat.zero_le _) (by unfold maxLen; omega)).at)
        have Sy := hide ((own_slw (lo := 0) (unhide Own2) (Nat.zero_le _) (by unfold maxLen; omega)).at)
        clear own2 oy
        go_wp2_with fail
        refine (l4union_any _ _ x y _ (unhide Sx) (unhide Sy) (unhide Ox).asc (unhide Oy).asc (by omega) (by omega)).mono ?_
        rintro e w3 ⟨⟨v3, os, rfl, oo, lo, own3⟩, hb3⟩
        have Own3 := hide own3
        obtain ⟨a3, c3, rfl⟩ := own_is own3
        clear own3
        go_wp2
        go_ret
        refine ⟨⟨_, os, rfl, ?_, ?_, own_low (unhide Own3) (by omega)⟩, (hb1.trans (hb2.mono hz1)).trans (hb3.mono (by omega))⟩
        · rw [← unhide e1]
          exact oo.congr (fun z => by rw [List.mem_append, List.mem_append, (unhide Ox).mem, (unhide Oy).mem])
        · rw [← unhide e1, List.length_append]
          rw [List.length_append] at lo
          omega

end Go.Proofs.Ytpkghafpelilfaa
