import Derived.Test.YtfdkdjngeomcdaaDoorPk7
import Derived.Test.YtfdkdjngeomcdaaDoorPk12
import Derived.Test.YtfdkdjngeomcdaaDoorPk6
import Derived.Test.YtfdkdjngeomcdaaDoorPk8
import Derived.Test.YtfdkdjngeomcdaaDoorPk5
namespace Go.Proofs.YtfdkdjngeomcdaaDoor
open Go.RowKit

theorem gpushElement_any {G : Value → List El × Int → Prop} (hG : Clos G) (base : Nat) (v sv : Value) (vals : List Value) (st : List (List El × Int)) (x : El) (w : World) (hown : w.ownsRow base 40 1 v vals.length vals) (hst : GVals G st vals) (hbase : base ≤ w.heap.size) (hlen : vals.length ≤ 3000)
    (hv : IntsAt 0 w.heap.size w sv x.set) (ok : ElOk x) (hcnt : cnt x.kind ≤ vals.length) :
    Calls Tryd.prog 45 #[v, .agg #[.int .i64 x.kind, sv, .int .i64 x.mn, .int .i64 x.mx]] w fun e w' => PushedG G base w w' e st x := by
  obtain ⟨k, xs, mn, mx⟩ := x
  have hsl := hst.len
  rcases ok with ⟨q1, q2, q3, q4⟩ | ⟨q1, q2, q3, q4⟩ | ⟨q1, q2, q3⟩
  · simp only at q1 q2 q3 q4 hv
    subst q1 q3 q4
    rcases hown.2 with ⟨rfl, hn⟩ | ⟨g, cap, cur, rfl, hbg, hg, hnc, hcm, hcs, htake⟩
    · obtain rfl : vals = [] := List.eq_nil_of_length_eq_zero hn
      obtain rfl : st = [] := List.eq_nil_of_length_eq_zero (by simpa using hsl)
      exact gpush_s_nil hG base sv xs w hown hbase hv q2
    · exact gpush_s hG base g cap vals st sv xs w hown hst hbase hlen hnc hcm hv q2
  · simp only at q1 q2 q3 q4 hv
    subst q3 q4
    obtain rfl := List.eq_nil_of_length_eq_zero q2
    obtain ⟨a, cp, rfl, -, -, -⟩ := hv
    rcases q1 with rfl | rfl | rfl
    · rcases hown.2 with ⟨rfl, hn⟩ | ⟨g, cap, cur, rfl, hbg, hg, hnc, hcm, hcs, htake⟩
      · obtain rfl : vals = [] := List.eq_nil_of_length_eq_zero hn
        obtain rfl : st = [] := List.eq_nil_of_length_eq_zero (by simpa using hsl)
        exact gpush_e_nil hG base w hown hbase a cp
      · exact gpush_e hG base g cap vals st w hown hst hbase hlen hnc a cp
    · have hc2 : (2 : Int) ≤ vals.length := hcnt
      obtain ⟨b, l, r, rfl⟩ := snoc2 (st := st) (by omega)
      obtain ⟨u, z, rfl, hu, hz⟩ := hst.split
      obtain ⟨y1, y2, rfl, h1, h2⟩ := hz.two
      obtain ⟨T, y, rfl⟩ := (hG.sz h1).iface
      obtain ⟨T', y', rfl⟩ := (hG.sz h2).iface
      obtain ⟨g, cap, rfl, hnc, hcm⟩ := own_len hown (by omega)
      simp only [List.length_append, List.length_cons, List.length_nil] at hown hlen hnc ⊢
      exact gpush_cat hG base g cap u T T' y y' b l r w hown hu h1 h2 hbase hlen hnc a cp
    · have hc2 : (2 : Int) ≤ vals.length := hcnt
      obtain ⟨b, l, r, rfl⟩ := snoc2 (st := st) (by omega)
      obtain ⟨u, z, rfl, hu, hz⟩ := hst.split
      obtain ⟨y1, y2, rfl, h1, h2⟩ := hz.two
      obtain ⟨T, y, rfl⟩ := (hG.sz h1).iface
      obtain ⟨T', y', rfl⟩ := (hG.sz h2).iface
      obtain ⟨g, cap, rfl, hnc, hcm⟩ := own_len hown (by omega)
      simp only [List.length_append, List.length_cons, List.length_nil] at hown hlen hnc ⊢
      exact gpush_alt hG base g cap u T T' y y' b l r w hown hu h1 h2 hbase hlen hnc a cp
  · simp only at q1 q2 q3 hv
    subst q1
    obtain rfl := List.eq_nil_of_length_eq_zero q2
    obtain ⟨a, cp, rfl, -, -, -⟩ := hv
    have hc1 : (1 : Int) ≤ vals.length := hcnt
    obtain ⟨b, o, rfl⟩ := snoc1 (st := st) (by omega)
    obtain ⟨u, z, rfl, hu, hz⟩ := hst.split
    obtain ⟨y1, rfl, h1⟩ := hz.one
    obtain ⟨T, y, rfl⟩ := (hG.sz h1).iface
    obtain ⟨g, cap, rfl, hnc, hcm⟩ := own_len hown (by simp)
    simp only [List.length_append, List.length_cons, List.length_nil] at hown hlen hnc ⊢
    exact gpush_rep hG base g cap u T y b o mn mx w hown hu h1 q3.1 q3.2.1 q3.2.2 hbase hlen hnc a cp

end Go.Proofs.YtfdkdjngeomcdaaDoor

namespace Go.Proofs.YtfdkdjngeomcdaaDoor
open Go.RowKit

/-- What nodeOf answers. -/
def NodeG (G : Value → List El × Int → Prop) (e : Ending) (xs : List El) : Prop :=
  (∃ u c, e = .returned (.tuple #[u, .bool true]) ∧ ValidT xs ∧ G u (xs, c) ∧ c ≤ 500 ∧ SegM xs c) ∨ (e = .returned (.tuple #[.nilIface, .bool false]) ∧ ¬ ValidT xs)

theorem NodeG.no {G : Value → List El × Int → Prop} {xs : List El} (h : ¬ ValidT xs) : NodeG G (.returned (.tuple #[.nilIface, .bool false])) xs := Or.inr ⟨rfl, h⟩

set_option maxHeartbeats 2000000 in
set_option maxRecDepth 100000 in
theorem gnodeOf_any {G : Value → List El × Int → Prop} (hG : Clos G) (v : Value) (xs : List El) (w : World) (hv : ElsAt 0 w.heap.size w v xs) :
    Calls Tryd.prog 24 #[v] w fun e w' => NodeG G e xs ∧ Below w.heap.size w w' := by
  obtain ⟨a, cp, rfl, hl, hc⟩ := hv
  unfold maxLen at hl
  by_cases n1 : xs.length < 1
  · have n1' : (xs.length : Int) < 1 := by omega
    go_enter Tryd.func24, Tryd.ntmps24
    go_wp2
    go_ret2
    exact ⟨NodeG.no (fun h => by have := h.1; omega), Below.refl _ _⟩
  · have n1' : ¬ (xs.length : Int) < 1 := by omega
    by_cases n2 : 3000 < xs.length
    · have n2' : 3000 < (xs.length : Int) := by omega
      go_enter Tryd.func24, Tryd.ntmps24
      go_wp2
      go_ret2
      exact ⟨NodeG.no (fun h => by have := h.1; omega), Below.refl _ _⟩
    · have n2' : ¬ 3000 < (xs.length : Int) := by omega
      go_enter Tryd.func24, Tryd.ntmps24
      go_wp2
      go_loopw [4, 17] (fun sv i wr => ∃ (k : Nat) (vals : List Value) (st : List (List El × Int)), k ≤ xs.length ∧ i = .int .i64 k ∧ wr.ownsRow w.heap.size 40 1 sv vals.length vals ∧ GVals G st vals ∧ flats st = xs.take k ∧ (∀ s ∈ st, SegM s.1 s.2) ∧ (∀ j : Nat, j < k → ElOk (xs[j]?.getD dE)) ∧ Below w.heap.size w wr) (fun _ i _ => xs.length - (intOf i).toNat)
      case atStart => exact ⟨0, [], [], Nat.zero_le _, rfl, World.ownsRow_nil _ _ _ _, trivial, by simp [flats], by simp, fun j hj => absurd hj (Nat.not_lt_zero _), Below.refl _ _⟩
      case round =>
        obtain ⟨k, vals, st, hk, rfl, hown, hst, hfl, htr, hok, hb⟩ := hrel
        have hsl := hst.len
        have hvl : vals.length ≤ k := by
          have h1 := wsum_flats (fun s hs => (htr s hs).ws)
          have h2 := (wsum_bd (flats st)).2
          rw [h1, hfl, List.length_take] at h2
          omega
        obtain ⟨ao, sc, rfl⟩ := own_slice hown
        have Hown := hide hown
        have Hst := hide hst
        have Hfl := hide hfl
        have Htr := hide htr
        have Hok := hide hok
        clear hown hst hfl htr hok
        by_cases hlt : k < xs.length
        · obtain ⟨b, off, rfl, -, hbn, hel⟩ := hc (by omega)
          obtain ⟨i1, i2, i3, v, c0, c1, c2, c3, hints⟩ := (hel k hlt).same (Same.of_below hb (Nat.le_refl _)) (Nat.zero_le _) hbn
          have hlt' : (k : Int) < (xs.length : Int) := by omega
          generalize hX : xs[k]?.getD dE = x at *
          have HX := hide hX
          clear hX hel
          obtain ⟨a', cap', rfl, -, -, -⟩ := id hints
          go_wp2_with fail
          refine (validElement_any _ x _ (by exact (hints.mono (Nat.le_refl _) hb.size).below (below1 wr _) (Nat.le_refl _))).mono ?_
          rintro e w1 ⟨hret, hb1⟩
          obtain ⟨hc1, hf1⟩ := bcell hb1
          simp only [sz_alloc] at hc1 hf1
          have hB1 : Below wr.heap.size wr w1 := (below1 wr _).trans (hb1.mono (by rw [sz_alloc]; omega))
          have hBW : Below w.heap.size w w1 := hb.trans (hB1.mono hb.size)
          have hsz1 := hB1.size
          have hsz0 := hb.size
          clear hb1
          rcases hret.cases with ⟨rfl, hgood⟩ | ⟨rfl, hbad⟩
          · have Hgood := hide hgood
            clear hgood
            by_cases hcn : (vals.length : Int) < cnt x.kind
            · go_wp2_with (go_at_call 44; refine (operandCount_any _ _).mono ?_; rintro e w2 ⟨rfl, hw2⟩; subst hw2)
              go_ret2
              exact ⟨NodeG.no (short_bad hlt (unhide Hfl) (unhide Htr) (by rw [unhide HX]; exact unhide Hgood) (by rw [unhide HX, hsl]; exact hcn)), hBW⟩
            · go_wp2_with (go_at_call 44; refine (operandCount_any _ _).mono ?_; rintro e w2 ⟨rfl, hw2⟩; subst hw2)
              refine (gpushElement_any hG w.heap.size _ _ vals st x _ (own_below (unhide Hown) hB1 (Nat.le_refl _)) (unhide Hst) (by omega) (by omega) ((hints.mono (Nat.le_refl _) hb.size).below hB1 (Nat.le_refl _)) (unhide Hgood) (by omega)).mono ?_
              rintro e w3 ⟨v', vals', st', rfl, hown', hp, hn, hb3⟩
              have hnext := hide (show flats st' = xs.take (k + 1) ∧ (∀ s ∈ st', SegM s.1 s.2) ∧ GVals G st' vals' from ⟨hp.flats.trans (by rw [unhide Hfl, take_next hlt, unhide HX]), hp.seg (unhide Hgood) (unhide Htr), hn⟩)
              have Hown' := hide hown'
              have hB3 := hBW.trans hb3
              clear hown' hp hn hb3 hc1 hf1
              go_wp2
              go_roundw
              case rel => exact ⟨k + 1, vals', st', by omega, by go_num, unhide Hown', (unhide hnext).2.2, (unhide hnext).1, (unhide hnext).2.1, fun j hj => by
                by_cases e : j = k
                · subst e; rw [unhide HX]; exact unhide Hgood
                · exact unhide Hok j (by omega), hB3⟩
              case measure => simp [intOf]; omega
          · have Hbad := hide hbad
            clear hbad
            go_wp2
            go_ret2
            exact ⟨NodeG.no (fun h => by have := h.2.1 k hlt; rw [unhide HX] at this; exact unhide Hbad this), hBW⟩
        · obtain rfl : k = xs.length := by omega
          have hxs : flats st = xs := by have h := unhide Hfl; rwa [List.take_length] at h
          have Hxs := hide hxs
          clear hxs Hfl
          by_cases hone : vals.length = 1
          · obtain ⟨u, rfl⟩ := List.length_eq_one_iff.1 hone
            obtain ⟨t, rfl⟩ := List.length_eq_one_iff.1 (hsl.trans hone)
            obtain ⟨u', e1, hu⟩ := (unhide Hst).one
            simp only [List.cons.injEq, and_true] at e1
            subst e1
            have hT := unhide Htr t (by simp)
            have hft : xs = t.1 := by rw [← unhide Hxs, flats_one]
            have hGt : Hid (G u (xs, t.2)) := by rw [hft]; exact hu
            rw [← hft] at hT
            have HT : Hid (SegM xs t.2) := hT
            have Hrun := hide (hT.run [])
            have Hsh := hide (show Shape xs from ⟨hT.ws, hT.tl⟩)
            clear hft hT
            have hus := hG.sz hu
            have bt := hus.2
            obtain ⟨T, y, F, rfl, hm, hcf, hF⟩ := hus.1
            generalize t.2 = c at *
            have HF := hide hF
            clear hF hu hus
            obtain ⟨g, cap, e2, hnc, hcm⟩ := own_len (unhide Hown) (by simp)
            simp only [Value.slice.injEq] at e2
            obtain ⟨rfl, -, rfl⟩ := e2
            have hcell : wr.cell? ⟨g, 0, none⟩ = some (.iface T y) := by rw [(unhide Hown).cellAt 0 (by simp)]; rfl
            have hgl : g < wr.heap.size := ((unhide Hown).lt g rfl).2
            clear hone
            simp only [List.length_cons, List.length_nil, Nat.zero_add] at *
            go_wp2_with fail
            with_reducible refine (unhide HF _).mono ?_
            rintro e w1 ⟨rfl, hb1⟩
            obtain ⟨hc1, hf1⟩ := bcell hb1
            have hB1 := hb.trans (hb1.mono hb.size)
            clear hb1
            by_cases h5 : 500 < c
            · go_wp2
              go_ret2
              exact ⟨NodeG.no (fun h => by obtain ⟨-, -, -, t2, e2, h2⟩ := h; rw [unhide Hrun] at e2; simp only [List.cons.injEq, and_true] at e2; omega), hB1⟩
            · go_wp2
              go_ret2
              exact ⟨Or.inl ⟨_, c, rfl, ⟨⟨by omega, by omega⟩, unhide Hok, unhide Hsh, c, unhide Hrun, by omega⟩, unhide hGt, by omega, unhide HT⟩, hB1⟩
          · have hone' : ((vals.length : Int) != 1) = true := by simp; omega
            go_wp2
            go_ret2
            exact ⟨NodeG.no (fun h => by have h1 := wsum_flats (fun s hs => (unhide Htr s hs).ws); rw [unhide Hxs, h.2.2.1.1] at h1; omega), hb⟩

end Go.Proofs.YtfdkdjngeomcdaaDoor

namespace Go.Proofs.YtfdkdjngeomcdaaDoor
open Go.RowKit

/-- The length of parts that are joined. -/
def jl : List (List El) → Nat
  | [] => 0
  | p :: r => p.length + 1 + jl r
theorem jl_app (a b : List (List El)) : jl (a ++ b) = jl a + jl b := by
  induction a with
  | nil => simp [jl]
  | cons p r ih => simp only [List.cons_append, jl, ih]; omega
theorem jl_rep (p : List El) (n : Nat) : jl (List.replicate n p) = n * (p.length + 1) := by
  induction n with
  | zero => simp [jl]
  | succ n ih => simp only [List.replicate_succ, jl, ih, Nat.succ_mul]; omega
theorem jn_jl (ps : List (List El)) (h : ps ≠ []) : (jn ps).length + 1 = jl ps := by
  match ps with
  | p :: r =>
    have key : ∀ (r : List (List El)) (acc : List El), (r.foldl (fun acc q => acc ++ q ++ [catE]) acc).length = acc.length + jl r := by
      intro r
      induction r with
      | nil => intro acc; simp [jl]
      | cons q r ih => intro acc; simp only [List.foldl_cons, ih, jl, List.length_append, List.length_singleton]; omega
    simp only [jn, key, jl]
    omega

theorem partsX_ne (X : List El) (mn mx : Int) (h : mx = -1 ∨ (0 < mx ∧ mn ≤ mx ∧ 0 ≤ mn)) : partsX X mn mx ≠ [] := by
  unfold partsX
  rcases h with h | ⟨h1, h2, h3⟩
  · rw [if_pos h]; simp
  · rw [if_neg (by omega)]
    intro e
    have := congrArg List.length e
    simp at this
    omega
theorem partsV_ne (U : Value) (mn mx : Int) (h : mx = -1 ∨ (0 < mx ∧ mn ≤ mx ∧ 0 ≤ mn)) : partsV U mn mx ≠ [] := by
  unfold partsV
  rcases h with h | ⟨h1, h2, h3⟩
  · rw [if_pos h]; simp
  · rw [if_neg (by omega)]
    intro e
    have := congrArg List.length e
    simp at this
    omega

/-- What is written out is bounded by the size. -/
theorem parts_len (X : List El) (c mn mx : Int) (hX : (X.length : Int) ≤ 2 * c - 1) (o2 : 0 ≤ mn) (h : mx = -1 ∨ (0 < mx ∧ mn ≤ mx)) : ((jn (partsX X mn mx)).length : Int) ≤ 2 * repSize c mn mx - 1 := by
  have hne := partsX_ne X mn mx (h.imp id (fun q => ⟨q.1, q.2, o2⟩))
  have h1 := jn_jl _ hne
  rcases h with h | ⟨h3, h4⟩
  · subst h
    have e : jl (partsX X mn (-1)) = (mn - 1).toNat * (X.length + 1) + (X.length + 2) := by
      unfold partsX
      rw [if_pos rfl, jl_app, jl_rep]
      simp [jl]
    have hm : (((mn - 1).toNat * (X.length + 1) : Nat) : Int) ≤ ((mn - 1).toNat : Int) * (2 * c) := by
      rw [Int.natCast_mul]
      exact Int.mul_le_mul_of_nonneg_left (by omega) (by omega)
    by_cases hmn : mn < 1
    · rw [show (mn - 1).toNat = 0 by omega] at e hm
      rw [repSize_a hmn]
      omega
    · rw [repSize_b hmn]
      have e2 : ((mn - 1).toNat : Int) * (2 * c) = 2 * (mn * c) - 2 * c := by
        rw [show ((mn - 1).toNat : Int) = mn - 1 by omega, Int.sub_mul, Int.one_mul, ← Int.mul_assoc, Int.mul_comm mn 2, Int.mul_assoc]
      omega
  · have e : jl (partsX X mn mx) = mn.toNat * (X.length + 1) + (mx - mn).toNat * (X.length + 3) := by
      unfold partsX
      rw [if_neg (by omega), jl_app, jl_rep, jl_rep]
      simp [optE]
    have hm : ((mn.toNat * (X.length + 1) : Nat) : Int) ≤ mn * (2 * c) := by
      rw [Int.natCast_mul, show (mn.toNat : Int) = mn by omega]
      exact Int.mul_le_mul_of_nonneg_left (by omega) (by omega)
    have hm2 : (((mx - mn).toNat * (X.length + 3) : Nat) : Int) ≤ (mx - mn) * (2 * (c + 1)) := by
      rw [Int.natCast_mul, show ((mx - mn).toNat : Int) = mx - mn by omega]
      exact Int.mul_le_mul_of_nonneg_left (by omega) (by omega)
    rw [repSize_d (by omega) (by omega)]
    have e2 : mn * (2 * c) = 2 * (mn * c) := by rw [← Int.mul_assoc, Int.mul_comm mn 2, Int.mul_assoc]
    have e3 : (mx - mn) * (2 * (c + 1)) = 2 * ((mx - mn) * (c + 1)) := by rw [← Int.mul_assoc, Int.mul_comm (mx - mn) 2, Int.mul_assoc]
    omega

theorem rep_ge (c mn mx : Int) (hc : 0 ≤ c) (o2 : 0 ≤ mn) (h : mx = -1 ∨ (mn ≤ mx ∧ mx ≤ 250)) : c ≤ repSize c mn mx := by
  rcases h with h | ⟨h1, -⟩
  · subst h
    by_cases hmn : mn < 1
    · rw [repSize_a hmn]; omega
    · rw [repSize_b hmn]
      have : 1 * c ≤ mn * c := Int.mul_le_mul_of_nonneg_right (by omega) hc
      omega
  · by_cases h0 : mx = 0
    · subst h0; rw [repSize_c]; exact Int.le_refl _
    · rw [repSize_d (by omega) h0]
      have p1 : 0 ≤ mn * c := Int.mul_nonneg o2 hc
      have p2 : 0 ≤ (mx - mn) * (c + 1) := Int.mul_nonneg (by omega) (by omega)
      by_cases h2 : 0 < mn
      · have : 1 * c ≤ mn * c := Int.mul_le_mul_of_nonneg_right (by omega) hc
        omega
      · have : 1 * (c + 1) ≤ (mx - mn) * (c + 1) := Int.mul_le_mul_of_nonneg_right (by omega) (by omega)
        omega

end Go.Proofs.YtfdkdjngeomcdaaDoor

namespace Go.Proofs.YtfdkdjngeomcdaaDoor
open Go.RowKit

/-- The lists that are written out, on the stack, top first, behind one element more. -/
def xPush (st : List (List El)) (x : El) : List (List El) :=
  if x.kind = 0 ∨ x.kind = 1 then [x] :: st else
  match st with
  | [] => []
  | [o] => if x.kind = 4 then [repX o x.mn x.mx] else [o]
  | r :: l :: b => if x.kind = 4 then repX r x.mn x.mx :: l :: b else (l ++ r ++ [x]) :: b
def xRun (st : List (List El)) : List El → List (List El)
  | [] => st
  | x :: r => xRun (xPush st x) r
theorem xRun_append (st : List (List El)) (a b : List El) : xRun st (a ++ b) = xRun (xRun st a) b := by
  induction a generalizing st with
  | nil => rfl
  | cons x r ih => simp [xRun, ih]
def SegX (seg L : List El) : Prop := ∀ st, xRun st seg = L :: st
theorem SegX.leaf {x : El} (h : x.kind = 0 ∨ x.kind = 1) : SegX [x] [x] := fun st => by simp only [xRun, xPush]; rw [if_pos h]
theorem SegX.bin {a b A B : List El} {x : El} (ha : SegX a A) (hb : SegX b B) (h : x.kind = 2 ∨ x.kind = 3) : SegX (a ++ b ++ [x]) (A ++ B ++ [x]) := fun st => by
  rw [xRun_append, xRun_append, ha, hb]
  simp only [xRun, xPush]
  rw [if_neg (by omega), if_neg (by omega)]
theorem SegX.rep {a A : List El} {x : El} (ha : SegX a A) (h : x.kind = 4) : SegX (a ++ [x]) (repX A x.mn x.mx) := fun st => by
  rw [xRun_append, ha]
  cases st with
  | nil => simp only [xRun, xPush]; rw [if_neg (by omega), if_pos h]
  | cons q st => simp only [xRun, xPush]; rw [if_neg (by omega), if_pos h]
theorem SegX.one {a A B : List El} (h : SegX a A) (k : SegX a B) : A = B := by
  have := (h []).symm.trans (k [])
  simpa using this

theorem cap_small {n : Int} (h : cap n ≤ 500) : cap n = n ∧ n ≤ 500 := by
  unfold cap at h ⊢
  by_cases e : 500 < n
  · rw [if_pos e] at h; omega
  · rw [if_neg e]; exact ⟨rfl, by omega⟩

theorem canon_len {xs : List Int} (h : Canon xs) : xs.length ≤ 300 := by
  by_cases q : xs.length ≤ 258
  · omega
  · have h1 := canon_ge h 129 (by omega)
    have h2 := (h.2.1 (2 * 129) (by omega)).2
    omega

theorem nice_set {xs : List Int} (h : Canon xs) : Nice [⟨1, xs, 0, 0⟩] := by
  refine ⟨fun i => ?_, fun i => ?_⟩
  · cases i with
    | zero =>
      refine ⟨by simp [In64], by simp [In64], by simp [In64], fun j => ?_⟩
      by_cases hj : j < xs.length
      · have := h.2.1 j hj
        show In64 (xs[j]?.getD 0)
        unfold In64
        omega
      · show In64 (xs[j]?.getD 0)
        rw [List.getElem?_eq_none (by omega)]
        simp [In64]
    | succ i => simp [dE, In64]
  · cases i with
    | zero => have := canon_len h; show xs.length ≤ 1048576; omega
    | succ i => simp [dE]

theorem parts_nice {X : List El} (h : Nice X) (mn mx : Int) (o2 : 0 ≤ mn) (o3 : mn ≤ 250) : Nice (jn (partsX X mn mx)) := by
  refine jn_nice _ (fun p hp => ?_)
  unfold partsX at hp
  by_cases e : mx = -1
  · rw [if_pos e] at hp
    rcases List.mem_append.1 hp with hp | hp
    · rw [(List.mem_replicate.1 hp).2]; exact h
    · rw [List.mem_singleton.1 hp]
      exact h.app (Nice.op _ _ _ (by simp [In64]) (by unfold In64; split <;> omega) (by simp [In64]))
  · rw [if_neg e] at hp
    rcases List.mem_append.1 hp with hp | hp
    · rw [(List.mem_replicate.1 hp).2]; exact h
    · rw [(List.mem_replicate.1 hp).2]; exact optE_nice h

theorem jV_iface {vs : List Value} (h : vs ≠ []) (hi : ∀ u ∈ vs, ∃ T x, u = .iface T x) : ∃ T x, jV vs = .iface T x := by
  match vs with
  | p :: r => exact foldV r p (hi p (by simp))
  | [] => exact absurd rfl h
theorem parts_iface {U : Value} (h : ∃ T x, U = .iface T x) (mn mx : Int) : ∀ u ∈ partsV U mn mx, ∃ T x, u = .iface T x := by
  intro u hu
  unfold partsV at hu
  by_cases e : mx = -1
  · rw [if_pos e] at hu
    rcases List.mem_append.1 hu with hu | hu
    · rw [(List.mem_replicate.1 hu).2]; exact h
    · rw [List.mem_singleton.1 hu]; exact ⟨_, _, rfl⟩
  · rw [if_neg e] at hu
    rcases List.mem_append.1 hu with hu | hu
    · rw [(List.mem_replicate.1 hu).2]; exact h
    · rw [(List.mem_replicate.1 hu).2]; exact ⟨_, _, rfl⟩

end Go.Proofs.YtfdkdjngeomcdaaDoor

namespace Go.Proofs.YtfdkdjngeomcdaaDoor
open Go.RowKit

/-- Words for a set that is told by its bytes. -/
def wof (p : Nat → Bool) : Nat → Nat → Nat
  | 0 => fun _ => 0
  | n + 1 => if p n then (fun j => if j = n / 64 then wof p n (n / 64) ||| 2 ^ (n % 64) else wof p n j) else wof p n
theorem wof_fit (p : Nat → Bool) : ∀ n : Nat, Fit (wof p n)
  | 0 => fun j => by show 0 < 18446744073709551616; omega
  | n + 1 => fun j => by
    simp only [wof]
    split
    · by_cases e : j = n / 64
      · simp only [e, if_true]; exact or_lt _ _ (wof_fit p n _) (by omega)
      · simp only [e, if_false]; exact wof_fit p n j
    · exact wof_fit p n j
theorem wof_bt (p : Nat → Bool) (b : Nat) : ∀ n : Nat, Bt (wof p n) b = (decide (b < n) && p b)
  | 0 => by simp [wof, Bt]
  | n + 1 => by
    have ih := wof_bt p b n
    by_cases hp : p n = true
    · have e : wof p (n + 1) = (fun j => if j = n / 64 then wof p n (n / 64) ||| 2 ^ (n % 64) else wof p n j) := by simp [wof, hp]
      rw [e, bt_put, ih]
      by_cases e2 : b = n
      · subst e2; simp [hp]
      · have : b < n + 1 ↔ b < n := by omega
        simp [e2, this]
    · have e : wof p (n + 1) = wof p n := by simp [wof, hp]
      rw [e, ih]
      by_cases e2 : b = n
      · subst e2; simp [hp]
      · have : b < n + 1 ↔ b < n := by omega
        simp [this]
theorem words_ex {xs : List Int} (h : Canon xs) : ∃ g, WordsOf xs g := by
  refine ⟨wof (InP xs (xs.length / 2)) 256, wof_fit _ _, fun b => ?_⟩
  rw [wof_bt]
  by_cases hb : b < 256
  · simp [hb]
  · have : InP xs (xs.length / 2) b = false := by
      rw [Bool.eq_false_iff]
      intro q
      obtain ⟨j, h1, h2, h3⟩ := (inP_iff _ _ _).1 q
      have := (h.2.1 (2 * j + 1) (by omega)).2
      omega
    rw [this]; simp

end Go.Proofs.YtfdkdjngeomcdaaDoor

namespace Go.Proofs.YtfdkdjngeomcdaaDoor
open Go.RowKit

theorem PushR.gg {G : Value → List El × Int → Prop} (hG : Clos G) {st st' : List (List El × Int)} {x : El} (h : PushR st x st') (ok : ElOk x) (hs : ∀ s ∈ st, ∃ u, G u s) : ∀ s ∈ st', ∃ u, G u s := by
  intro s hm
  obtain ⟨k, xs, mn, mx⟩ := x
  rcases h with ⟨hk, rfl⟩ | ⟨hk, b, l, r, rfl, rfl⟩ | ⟨hk, b, o, rfl, rfl⟩
  · simp only [List.mem_append, List.mem_singleton] at hm; rcases hm with hm | rfl
    · exact hs s hm
    · rcases ok with ⟨q1, q2, q3, q4⟩ | ⟨q1, q2, q3, q4⟩ | ⟨q1, q2, q3, q4, q5⟩ <;> simp only at hk q1 q2 q3 q4
      · subst q1 q3 q4
        obtain ⟨g, hg⟩ := words_ex q2
        exact ⟨_, hG.s q2 hg⟩
      · subst q3 q4
        obtain rfl := List.eq_nil_of_length_eq_zero q2
        obtain rfl : k = 0 := by omega
        exact ⟨_, hG.e⟩
      · omega
  · simp only [List.mem_append, List.mem_singleton] at hm; rcases hm with hm | rfl
    · exact hs s (by simp [hm])
    · obtain ⟨u, hu⟩ := hs l (by simp)
      obtain ⟨v, hv⟩ := hs r (by simp)
      rcases ok with ⟨q1, q2, q3, q4⟩ | ⟨q1, q2, q3, q4⟩ | ⟨q1, q2, q3, q4, q5⟩ <;> simp only at hk q1 q2 q3 q4
      · omega
      · subst q3 q4
        obtain rfl := List.eq_nil_of_length_eq_zero q2
        rcases hk with rfl | rfl
        · exact ⟨_, hG.cat hu hv⟩
        · exact ⟨_, hG.alt hu hv⟩
      · omega
  · simp only [List.mem_append, List.mem_singleton] at hm; rcases hm with hm | rfl
    · exact hs s (by simp [hm])
    · obtain ⟨u, hu⟩ := hs o (by simp)
      rcases ok with ⟨q1, q2, q3, q4⟩ | ⟨q1, q2, q3, q4⟩ | ⟨q1, q2, q3, q4, q5⟩ <;> simp only at hk q1 q2 q3 q4
      · omega
      · omega
      · subst hk
        obtain rfl := List.eq_nil_of_length_eq_zero q2
        exact ⟨_, hG.rep hu q3 q4 q5⟩
/-- A valid tree has a node. -/
theorem valid_g {G : Value → List El × Int → Prop} (hG : Clos G) {xs : List El} (h : ValidT xs) : ∃ u c, G u (xs, c) := by
  obtain ⟨h1, ok, sh, c, hc1, hc2⟩ := h
  have key : ∀ k : Nat, k ≤ xs.length → ∃ st, flats st = xs.take k ∧ (∀ s ∈ st, SegM s.1 s.2) ∧ ∀ s ∈ st, ∃ u, G u s := by
    intro k
    induction k with
    | zero => intro _; exact ⟨[], by simp [flats], by simp, by simp⟩
    | succ k ih =>
      intro hk
      obtain ⟨st, hst, hok, hgx⟩ := ih (by omega)
      have hx := ok k (by omega)
      have h1 : wsum (xs.take (k + 1)) + wsum (xs.drop (k + 1)) = 1 := by rw [← wsum_append, List.take_append_drop]; exact sh.1
      have h2 := sh.2 (k + 1) (by omega) hk
      have h3 := wsum_flats (fun s hs => (hok s hs).ws)
      rw [hst] at h3
      rw [take_next (by omega), wsum_append, h3] at h1
      simp only [wsum] at h1
      obtain ⟨st', hp⟩ := PushR.ex (st := st) hx (by omega)
      exact ⟨st', by rw [hp.flats, hst, take_next (by omega)], hp.seg hx hok, hp.gg hG hx hgx⟩
  obtain ⟨st, hst, hok, hgx⟩ := key xs.length (Nat.le_refl _)
  rw [List.take_length] at hst
  have h3 := wsum_flats (fun s hs => (hok s hs).ws)
  rw [hst, sh.1] at h3
  obtain ⟨t, rfl⟩ := List.length_eq_one_iff.1 (show st.length = 1 by omega)
  obtain ⟨u, hu⟩ := hgx t (by simp)
  rw [flats_one] at hst
  obtain ⟨t1, t2⟩ := t
  simp only at hst
  subst hst
  exact ⟨u, t2, hu⟩

end Go.Proofs.YtfdkdjngeomcdaaDoor

namespace Go.Proofs.YtfdkdjngeomcdaaDoor
open Go.RowKit

def EnG (bs : List Int) (u : Value) (t : List El × Int) : Prop := SzV u t.2 ∧ SegM t.1 t.2 ∧ ∃ R, SegL bs.length (hsL bs) t.1 R ∧ EnS bs t.1 R
theorem closEn (bs : List Int) : Clos (EnG bs) := by
  refine ⟨fun h => h.1, ?_, ?_, ?_, ?_, ?_⟩
  · exact ⟨SzV.e, SegM.leaf (Or.inl rfl), _, SegL.e, en_e bs⟩
  · intro xs g hc hw
    exact ⟨SzV.s _ _ _ _, SegM.leaf (Or.inr rfl), _, SegL.s xs, en_s bs xs (by have := canon_len hc; omega)⟩
  · rintro u v l r ⟨hu, hs, A, a1, a2⟩ ⟨hv, hs2, B, b1, b2⟩
    exact ⟨SzV.cat hu hv, SegM.bin hs hs2 (Or.inl rfl), _, a1.cat b1, en_cat bs l.1 r.1 A B _ hs2 a1.2 b1.2 a2 b2⟩
  · rintro u v l r ⟨hu, hs, A, a1, a2⟩ ⟨hv, hs2, B, b1, b2⟩
    exact ⟨SzV.alt hu hv, SegM.bin hs hs2 (Or.inr rfl), _, a1.alt b1, en_alt bs l.1 r.1 A B _ hs2 a1.2 b1.2 a2 b2⟩
  · rintro u o mn mx ⟨hu, hs, A, a1, a2⟩ o2 o3 o4
    obtain ⟨m, rfl⟩ := Int.eq_ofNat_of_zero_le o2
    exact ⟨SzV.rep hu o2 o3 o4, SegM.rep hs rfl o2 o4, _, a1.rep _ mx, en_rep bs o.1 A m mx a1.2 a2 (by have := hs.ne; omega) (by omega) o4⟩
theorem en_valid (bs : List Int) {xs : List El} (h : ValidT xs) : ∃ R, SegL bs.length (hsL bs) xs R ∧ EnS bs xs R := by
  obtain ⟨u, c, -, -, h⟩ := valid_g (closEn bs) h
  exact h
/-- A piece of the line that the anchors allow is read. -/
def MatchP (n : Nat) (l r : Bool) (R : Rl) : Prop := ∃ i j, (i = 0 ∨ l = false) ∧ R i j ∧ (j = n ∨ r = false)
def frm (l : Bool) (k : Nat) : Nat → Bool := fun j => decide (j < k) && (decide (j = 0) || !l)
theorem frm_all {n : Nat} {l : Bool} {i : Nat} (hi : i ≤ n) : frm l (n + 1) i = true ↔ (i = 0 ∨ l = false) := by
  unfold frm
  simp [show i < n + 1 by omega]

set_option maxHeartbeats 8000000 in
set_option maxRecDepth 100000 in
theorem l2match_any (l r : Bool) (v lv : Value) (xs : List El) (bs : List Int) (R : Rl) (w : World) (hv : ElsAt 0 w.heap.size w v xs) (hlen : xs.length ≤ 3000) (hlv : SlAt mB 0 0 w.heap.size w lv bs) (hbs : BytesOk bs) (hR : RB bs.length R) (hE : EnS bs xs R) :
    Calls Tryd.prog 13 #[.agg #[.bool l, .bool r, v], lv] w fun e w' => RetB e (MatchP bs.length l r R) ∧ Below w.heap.size w w' := by
  obtain ⟨a, cp, rfl, -, -⟩ := id hv
  obtain ⟨la, lc, rfl, -, -⟩ := id hlv
  have hn := hbs.1
  have Hv := hide hv
  have Hlv := hide hlv
  have Hbs := hide hbs
  have HR := hide hR
  have HE := hide hE
  have hmk := run_make_row' (P := Tryd.prog) 56 4 (.bool false) 1 Tryd.underlying56 Tryd.zinBoolM rfl .i64 .i64 (bs.length + 1) (by omega) (by omega)
  simp only [Int.natCast_add, Int.natCast_one] at hmk
  have hb2 := below2 w (.cells #[.bool l, .bool r, .slice a xs.length cp] 30) (.cells (madeCells #[.bool false] (bs.length + 1)) 4)
  have h0 := br_made (w.alloc (.cells #[.bool l, .bool r, .slice a xs.length cp] 30)) bs.length
  rw [sz_alloc] at h0
  have hz0 : ((w.alloc (.cells #[.bool l, .bool r, .slice a xs.length cp] 30)).alloc (.cells (madeCells #[.bool false] (bs.length + 1)) 4)).heap.size = w.heap.size + 2 := by rw [sz_alloc, sz_alloc]
  have hq : ∀ k u, #[Value.bool l, .bool r, .slice a xs.length cp].toList[k]? = some u → ((w.alloc (.cells #[.bool l, .bool r, .slice a xs.length cp] 30)).alloc (.cells (madeCells #[.bool false] (bs.length + 1)) 4)).cell? ((⟨w.heap.size, 0, none⟩ : Addr).add k) = some u := fun k u hu =>
    ((below1 _ _).cell (p := (⟨w.heap.size, 0, none⟩ : Addr).add k) (by rw [sz_alloc]; cases k <;> exact Nat.lt_succ_self _)).trans ((pushd_alloc w _).news k u hu)
  have q0 := hq 0 _ rfl
  have q1 := hq 1 _ rfl
  have q2 := hq 2 _ rfl
  simp only [Addr.add] at q0 q1 q2
  have HQ0 := hide q0
  have HQ1 := hide q1
  have HQ2 := hide q2
  have H0 := hide h0
  have HB2 := hide hb2
  clear hv hlv hbs hR hE hb2 h0 hq q0 q1 q2
  go_enter Tryd.func13, Tryd.ntmps13
  go_wp2_with fail
  go_loopw [7] (fun iv wr => ∃ i : Nat, i ≤ bs.length + 1 ∧ iv = .int .i64 i ∧ BR wr bs.length (w.heap.size + 1) (frm l i) ∧ wr.cell? ⟨w.heap.size, 0, none⟩ = some (.bool l) ∧ wr.cell? ⟨w.heap.size, 1, none⟩ = some (.bool r) ∧ wr.cell? ⟨w.heap.size, 2, none⟩ = some (.slice a xs.length cp) ∧ w.heap.size + 2 ≤ wr.heap.size ∧ Below w.heap.size w wr) (fun iv _ => bs.length + 1 - (intOf iv).toNat)
  case atStart => exact ⟨0, Nat.zero_le _, rfl, (unhide H0).same (fun j _ => by simp [frm]), unhide HQ0, unhide HQ1, unhide HQ2, by omega, unhide HB2⟩
  case round =>
    clear H0 HQ0 HQ1 HQ2 HB2 hmk hz0
    obtain ⟨i, hi, rfl, hG, q0, q1, q2, hz, hB⟩ := hrel
    have HG := hide hG
    have HB := hide hB
    by_cases hlt : i < bs.length + 1
    · have hlt' : (i : Int) ≤ (bs.length : Int) := by omega
      have hlt2 : (i : Int) < (bs.length : Int) + 1 := by omega
      have d2 := World.rowIs.cell hG hlt
      have f2 := World.rowIs.frozen hG i
      clear hG hB
      have hFIN : ∀ x : Bool, x = (decide (i = 0) || !l) → ∀ W : World, W = wr.setCell ⟨w.heap.size + 1, i, none⟩ (.bool x) → ∃ i' : Nat, i' ≤ bs.length + 1 ∧ (Value.int .i64 ((i : Int) + 1)) = .int .i64 i' ∧ BR W bs.length (w.heap.size + 1) (frm l i') ∧ W.cell? ⟨w.heap.size, 0, none⟩ = some (.bool l) ∧ W.cell? ⟨w.heap.size, 1, none⟩ = some (.bool r) ∧ W.cell? ⟨w.heap.size, 2, none⟩ = some (.slice a xs.length cp) ∧ w.heap.size + 2 ≤ W.heap.size ∧ Below w.heap.size w W := by
        intro x hx W hW
        subst hW hx
        refine ⟨i + 1, by omega, by simp, ?_, ?_, ?_, ?_, by rw [sz_put]; exact hz, bput (unhide HB) (by omega) _⟩
        · refine World.rowIs.congr (World.rowIs.set (unhide HG) i _) (fun j hj => ?_)
          by_cases e : j = i
          · subst e; simp [frm]
          · have : (j < i + 1) ↔ (j < i) := by omega
            simp [e, this, frm]
        · rw [put_other (Or.inl (by omega))]; exact q0
        · rw [put_other (Or.inl (by omega))]; exact q1
        · rw [put_other (Or.inl (by omega))]; exact q2
      have HFIN := hide hFIN
      clear hFIN
      by_cases h0 : i = 0
      · subst h0
        have HR1 := hide (unhide HFIN true (by simp))
        clear HFIN
        go_wp2
        go_roundw
        case rel => exact unhide HR1 _ rfl
        case measure => simp [intOf]
      · have h0' : ((i : Int) == 0) = false := by rw [beq_eq_false_iff_ne]; omega
        have HR1 := hide (unhide HFIN (!l) (by simp [h0]))
        clear HFIN
        go_wp2
        go_roundw
        case rel => exact unhide HR1 _ rfl
        case measure => simp [intOf]; omega
    · have e : i = bs.length + 1 := by omega
      subst e
      clear hG hB
      have HE1 := hide (unhide HE (.slice a xs.length cp) (.slice la bs.length lc) (w.heap.size + 1) _ wr ((unhide Hv).below (unhide HB) (Nat.le_refl _)) hlen ((unhide Hlv).below (unhide HB) (Nat.le_refl _)) (unhide Hbs) (unhide HG))
      go_wp2_with fail
      refine (unhide HE1).mono ?_
      rintro e w1 ⟨g1, G1, rfl, hg1, hr1, he1, hb1⟩
      have HB1 : Hid (Below w.heap.size w w1) := (unhide HB).trans (hb1.mono (by omega))
      have q1' : w1.cell? ⟨w.heap.size, 1, none⟩ = some (.bool r) := (hb1.cell (p := ⟨w.heap.size, 1, none⟩) (by show w.heap.size < _; omega)).trans q1
      have HR1 := hide hr1
      have HM : Hid (MatchP bs.length l r R ↔ ∃ j, j ≤ bs.length ∧ G1 j = true ∧ (j = bs.length ∨ r = false)) := by
        constructor
        · rintro ⟨i, j, h1, h2, h3⟩
          have := unhide HR _ _ h2
          exact ⟨j, this.2, (he1 j this.2).2 ⟨i, (frm_all (by omega)).2 h1, h2⟩, h3⟩
        · rintro ⟨j, h1, h2, h3⟩
          obtain ⟨i, h4, h5⟩ := (he1 j h1).1 h2
          have := unhide HR _ _ h5
          exact ⟨i, j, (frm_all (by omega)).1 h4, h5, h3⟩
      have HM2 := HM
      clear hr1 he1 hb1 q0 q1 q2 HE1 HG HB
      go_wp2_with fail
      go_loop [9] (fun iv => ∃ j : Nat, j ≤ bs.length + 1 ∧ iv = .int .i64 j ∧ ∀ k, k < j → ¬ (G1 k = true ∧ (k = bs.length ∨ r = false))) (fun iv => bs.length + 1 - (intOf iv).toNat)
      case atStart => exact ⟨0, Nat.zero_le _, rfl, fun k hk => absurd hk (Nat.not_lt_zero _)⟩
      case round =>
        obtain ⟨j, hj, rfl, hno⟩ := hrel
        have HNO := hide hno
        clear hno
        by_cases hlt2 : j < bs.length + 1
        · have hlt' : (j : Int) ≤ (bs.length : Int) := by omega
          have hlt3 : (j : Int) < (bs.length : Int) + 1 := by omega
          have d1 := World.rowIs.cell (unhide HR1) hlt2
          have HYES : Hid (G1 j = true → (j = bs.length ∨ r = false) → RetB (.returned (.bool true)) (MatchP bs.length l r R) ∧ Below w.heap.size w w1) := fun h1 h2 => ⟨⟨true, rfl, by rw [unhide HM2]; exact ⟨fun _ => ⟨j, by omega, h1, h2⟩, fun _ => rfl⟩⟩, unhide HB1⟩
          have HNX : Hid (¬ (G1 j = true ∧ (j = bs.length ∨ r = false)) → ∀ k, k < j + 1 → ¬ (G1 k = true ∧ (k = bs.length ∨ r = false))) := fun h k hk => by
            by_cases e : k = j
            · subst e; exact h
            · exact unhide HNO k (by omega)
          cases hg : G1 j with
          | false =>
            rw [hg] at d1
            have HX := hide (unhide HNX (by rw [hg]; simp))
            clear hg HYES HNX
            go_wp2
            go_round
            case rel => exact ⟨j + 1, by omega, by go_num, unhide HX⟩
            case measure => simp [intOf]; omega
          | true =>
            rw [hg] at d1
            by_cases hjn : j = bs.length
            · have HX := hide (unhide HYES hg (Or.inl hjn))
              subst hjn
              clear hg HYES HNX
              go_wp2
              go_ret
              exact unhide HX
            · have hjn' : ((j : Int) == (bs.length : Int)) = false := by rw [beq_eq_false_iff_ne]; omega
              cases r with
              | false =>
                have HX := hide (unhide HYES hg (Or.inr rfl))
                clear hg HYES HNX hjn
                go_wp2
                go_ret
                exact unhide HX
              | true =>
                have HX := hide (unhide HNX (by rw [hg]; simp [hjn]))
                clear hg HYES HNX hjn
                go_wp2
                go_round
                case rel => exact ⟨j + 1, by omega, by go_num, unhide HX⟩
                case measure => simp [intOf]; omega
        · have HX : Hid (RetB (.returned (.bool false)) (MatchP bs.length l r R) ∧ Below w.heap.size w w1) := ⟨⟨false, rfl, by
            rw [unhide HM2]
            constructor
            · intro h; cases h
            · rintro ⟨k, h1, h2⟩; exact absurd h2 (unhide HNO k (by omega))⟩, unhide HB1⟩
          clear HNO
          go_wp2
          go_ret
          exact unhide HX

end Go.Proofs.YtfdkdjngeomcdaaDoor

namespace Go.Proofs.YtfdkdjngeomcdaaDoor
open Go.RowKit

/-- The pattern is valid, the line is short enough and among its strings. -/
def MatchA (l r : Bool) (xs : List El) (bs : List Int) : Prop := ValidT xs ∧ bs.length ≤ 20000 ∧ ∃ R, SegL bs.length (hsL bs) xs R ∧ MatchP bs.length l r R
theorem matchA_iff {l r : Bool} {xs : List El} {bs : List Int} {R : Rl} (h1 : ValidT xs) (h2 : bs.length ≤ 20000) (h3 : SegL bs.length (hsL bs) xs R) : MatchA l r xs bs ↔ MatchP bs.length l r R :=
  ⟨fun ⟨_, _, _, h4, h5⟩ => SegL.one h4 h3 ▸ h5, fun h => ⟨h1, h2, R, h3, h⟩⟩

set_option maxHeartbeats 4000000 in
set_option maxRecDepth 100000 in
theorem specMatch_any (l r : Bool) (v lv : Value) (xs : List El) (bs : List Int) (w : World) (hv : ElsAt 0 w.heap.size w v xs) (hlv : SlAt mB 0 0 w.heap.size w lv bs) (hb : ∀ x ∈ bs, 0 ≤ x ∧ x ≤ 255) (hl : bs.length ≤ 1048576) :
    Calls Tryd.prog 5 #[.agg #[.bool l, .bool r, v], lv] w fun e w' => RetB e (MatchA l r xs bs) ∧ Below w.heap.size w w' := by
  obtain ⟨a, cp, rfl, -, -⟩ := id hv
  obtain ⟨la, lc, rfl, -, -⟩ := id hlv
  have Hv := hide hv
  have Hlv := hide hlv
  have Hb := hide hb
  have hb0 := below1 w (.cells #[.bool l, .bool r, .slice a xs.length cp] 30)
  have hz0 : (w.alloc (.cells #[.bool l, .bool r, .slice a xs.length cp] 30)).heap.size = w.heap.size + 1 := sz_alloc _ _
  have HC : Hid (∀ W, Below (w.heap.size + 1) (w.alloc (.cells #[.bool l, .bool r, .slice a xs.length cp] 30)) W → W.cell? ⟨w.heap.size, 0, none⟩ = some (.bool l) ∧ W.cell? ⟨w.heap.size, 1, none⟩ = some (.bool r) ∧ W.cell? ⟨w.heap.size, 2, none⟩ = some (.slice a xs.length cp)) := fun W hW =>
    ⟨(hW.cell (p := ⟨w.heap.size, 0, none⟩) (Nat.lt_succ_self _)).trans ((pushd_alloc w _).news 0 _ rfl), (hW.cell (p := ⟨w.heap.size, 1, none⟩) (Nat.lt_succ_self _)).trans ((pushd_alloc w _).news 1 _ rfl), (hW.cell (p := ⟨w.heap.size, 2, none⟩) (Nat.lt_succ_self _)).trans ((pushd_alloc w _).news 2 _ rfl)⟩
  clear hv hlv hb
  go_enter Tryd.func5, Tryd.ntmps5
  go_wp2_with fail
  refine (specValid_any l r _ xs _ ((unhide Hv).below hb0 (Nat.le_refl _))).mono ?_
  rintro e w1 ⟨hret, hb1⟩
  have HB1 : Hid (Below w.heap.size w w1) := hb0.trans (hb1.mono (by omega))
  obtain ⟨k0, k1, k2⟩ := unhide HC w1 (hb1.mono (by omega))
  clear hb1 hb0 HC hz0
  rcases hret.cases with ⟨rfl, hok⟩ | ⟨rfl, hbad⟩
  · by_cases hle : bs.length ≤ 20000
    · obtain ⟨R, hR, hE⟩ := en_valid bs hok
      have HM := hide (matchA_iff (l := l) (r := r) hok hle hR)
      have HL2 := hide (l2match_any l r (.slice a xs.length cp) (.slice la bs.length lc) xs bs R w1 ((unhide Hv).below (unhide HB1) (Nat.le_refl _)) hok.1.2 ((unhide Hlv).below (unhide HB1) (Nat.le_refl _)) ⟨hle, unhide Hb⟩ hR.2 hE)
      have hle' : (bs.length : Int) ≤ 20000 := by omega
      have hle2 : ¬ (20000 : Int) < (bs.length : Int) := by omega
      clear hok hR hE hret
      go_wp2_with fail
      refine (unhide HL2).mono ?_
      rintro e w2 ⟨⟨x, rfl, hx⟩, hb2⟩
      have HX : Hid (RetB (.returned (.bool x)) (MatchA l r xs bs) ∧ Below w.heap.size w w2) := ⟨⟨x, rfl, hx.trans (unhide HM).symm⟩, (unhide HB1).trans (hb2.mono (unhide HB1).size)⟩
      clear hx hb2 HL2 HM
      go_wp2
      go_ret
      exact unhide HX
    · have hgt : (20000 : Int) < (bs.length : Int) := by omega
      have HX : Hid (RetB (.returned (.bool false)) (MatchA l r xs bs) ∧ Below w.heap.size w w1) := ⟨⟨false, rfl, ⟨fun h => (by cases h), fun h => absurd h.2.1 hle⟩⟩, unhide HB1⟩
      clear hok hret
      go_wp2
      go_ret
      exact unhide HX
  · have HX : Hid (RetB (.returned (.bool false)) (MatchA l r xs bs) ∧ Below w.heap.size w w1) := ⟨⟨false, rfl, ⟨fun h => (by cases h), fun h => absurd h.1 hbad⟩⟩, unhide HB1⟩
    clear hbad hret
    go_wp2
    go_ret
    exact unhide HX

end Go.Proofs.YtfdkdjngeomcdaaDoor

namespace Go.Proofs.YtfdkdjngeomcdaaDoor
open Go.RowKit

theorem num_of {n : Nat} {w : World} {v : Value} {xs : List El} (h : ElsAt 0 n w v xs) : Num xs := by
  obtain ⟨a, cap, -, -, hc⟩ := h
  intro i
  by_cases hi : i < xs.length
  · obtain ⟨b, off, -, -, -, hel⟩ := hc (by omega)
    obtain ⟨i1, i2, i3, s, -, -, -, -, a', c', -, -, hr, -⟩ := hel i hi
    exact ⟨i1, i2, i3, hr⟩
  · rw [List.getElem?_eq_none (by omega)]
    simp [dE, In64]
theorem set_le {xs : List El} {m : Nat} (h : bulk xs ≤ m) : ∀ i : Nat, (xs[i]?.getD dE).set.length ≤ m := by
  intro i
  by_cases hi : i < xs.length
  · have h1 := bulk_take_succ xs i hi
    have hb : ∀ (l : List El) (j : Nat), bulk (l.take j) ≤ bulk l := by
      intro l
      induction l with
      | nil => intro j; simp [bulk]
      | cons x r ih => intro j; cases j with
        | zero => simp [bulk]
        | succ j => have := ih j; simp only [List.take_succ_cons, bulk]; omega
    have h2 := hb xs (i + 1)
    omega
  · rw [List.getElem?_eq_none (by omega)]
    simp [dE]

theorem ElsF.keep {S : Nat → Prop} {m : Nat} {w w' : World} {v : Value} {xs : List El} (h : ElsF S w v xs) (hb : Below m w w') (hs : ∀ k, S k → k < m) : ElsF S w' v xs := h.same (fun k hk => hb.block k (hs k hk))

end Go.Proofs.YtfdkdjngeomcdaaDoor
