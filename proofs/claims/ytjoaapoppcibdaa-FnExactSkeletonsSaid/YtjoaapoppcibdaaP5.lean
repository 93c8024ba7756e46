import Derived.Test.YtjoaapoppcibdaaP4
import Derived.RangeFuncBox
import Derived.Test.YtjoaapoppcibdaaP3
namespace Go.Proofs.Ytjoaapoppcibdaa
open Go.RowKit

end Go.Proofs.Ytjoaapoppcibdaa

namespace Go.Proofs.Ytjoaapoppcibdaa
open Go.RowKit

theorem asc_le {xs : List Int} (h : Asc xs) {i j : Nat} (hij : i ≤ j) (hj : j < xs.length) : xs[i]?.getD 0 ≤ xs[j]?.getD 0 := by
  by_cases e : i = j
  · subst e; exact Int.le_refl _
  · exact Int.le_of_lt (asc_get h (by omega) hj)

/-- What a query is true of. -/
def EvalP (xss : List (List Int)) (ts : List Int) : Prop := ∃ k : Nat, k < xss.length ∧ ∀ z, z ∈ xss[k]?.getD [] → z ∈ ts

end Go.Proofs.Ytjoaapoppcibdaa

namespace Go.Proofs.Ytjoaapoppcibdaa
open Go.RowKit

/-- A row of its own of lists that lie somewhere. -/
structure LR (base : Nat) (w : World) (v : Value) (ps : List (Cl Int)) : Prop where
  own : w.ownsRow base 52 1 v ps.length (ps.map Cl.v)
  ok : ∀ p ∈ ps, p.ok mI 0 3 w
theorem LR.nil {base : Nat} {w : World} : LR base w (.slice none 0 0) [] := ⟨World.ownsRow_nil _ _ _ _, by simp⟩
theorem LL.lr {base : Nat} {w : World} {v : Value} {ps : List (Cl Int)} (h : LL mI 0 3 52 base w v ps) : LR base w v ps := ⟨h.own, h.ok⟩
theorem LR.keep {base m : Nat} {w w' : World} {v : Value} {ps : List (Cl Int)} (h : LR base w v ps) (hb : Below m w w') (hm : w.heap.size ≤ m) : LR base w' v ps := ⟨own_keep h.own hb hm, fun p hp => (h.ok p hp).below hb hm⟩
theorem ok_not_row {base : Nat} {w : World} {v : Value} {n : Nat} {vs : List Value} (h : w.ownsRow base 52 1 v n vs) {q : Cl Int} (hq : q.ok mI 0 3 w) (hp : 0 < q.xs.length) : some q.b ≠ v.ownBlock := by
  intro e1
  obtain ⟨a, cap, -, -, hc⟩ := hq
  obtain ⟨off, -, ⟨c, h1⟩, -⟩ := hc hp
  rcases h.2 with ⟨rfl, _⟩ | ⟨g, cap', cur, rfl, _, hgb, _⟩
  · simp [Value.ownBlock] at e1
  · obtain rfl : q.b = g := by simpa [Value.ownBlock] using e1
    rw [h1] at hgb
    simp at hgb
/-- What lies, lies on behind an append to a row of lists. -/
theorem ok_app {base : Nat} {w W w' : World} {v : Value} {n : Nat} {vs : List Value} {o : Obj} (h : w.ownsRow base 52 1 v n vs) (hP : Pushd w W o) (hg : W.grownBy w' v.ownBlock) {q : Cl Int} (hq : q.ok mI 0 3 w) : q.ok mI 0 3 w' :=
  hq.same (fun hq0 => by
    have hlt := hq.lt hq0
    rw [hg.block q.b (by rw [hP.size]; omega) (ok_not_row h hq hq0), hP.old hlt])
theorem LR.app {base : Nat} {w W w' : World} {v v' : Value} {ps : List (Cl Int)} {p : Cl Int} {o : Obj} (h : LR base w v ps) (hbase : base ≤ w.heap.size) (hp : p.ok mI 0 3 w)
    (hP : Pushd w W o) (h1 : w'.ownsRow base 52 1 v' (ps.length + 1) (ps.map Cl.v ++ [p.v])) (hg : W.grownBy w' v.ownBlock) : LR base w' v' (ps ++ [p]) ∧ Below base w w' := by
  refine ⟨⟨by rw [List.length_append, List.map_append]; exact h1, fun q hq => ?_⟩, (hP.below.mono hbase).grown hg (by rw [hP.size]; omega) (fun k hk => (h.own.lt k hk).1)⟩
  rcases List.mem_append.1 hq with hq | hq
  · exact ok_app h.own hP hg (h.ok q hq)
  · rw [List.mem_singleton] at hq
    subst hq
    exact ok_app h.own hP hg hp
theorem LR.at {base : Nat} {w : World} {v : Value} {ps : List (Cl Int)} (h : LR base w v ps) : SsAt mI 0 w.heap.size w v (ps.map Cl.xs) := by
  rcases h.own.2 with ⟨rfl, hz⟩ | ⟨g, cap, cur, rfl, hbg, hg, hnc, hcm, hcs, htake⟩
  · have : ps = [] := List.eq_nil_of_length_eq_zero hz
    subst this
    exact ⟨none, 0, rfl, ⟨Nat.le_refl _, Nat.zero_le _⟩, fun h => absurd h (by simp)⟩
  · have hgl : g < w.heap.size := (h.own.lt g rfl).2
    refine ⟨some ⟨g, 0, none⟩, cap, by rw [List.length_map], ⟨by rw [List.length_map]; exact hnc, hcm⟩, fun _ => ⟨g, 0, rfl, hgl, fun i hi => ?_⟩⟩
    rw [List.length_map] at hi
    have hm : ps[i] ∈ ps := List.getElem_mem hi
    refine ⟨(ps[i]).v, ?_, ?_, (h.ok _ hm).cap⟩
    · rw [Nat.zero_add, h.own.cellAt i (by omega), List.getElem?_map, List.getElem?_eq_getElem hi]
      rfl
    · rw [List.getElem?_map, List.getElem?_eq_getElem hi]
      exact (h.ok _ hm).at
theorem LL.of_sub {base' : Nat} {w : World} {v : Value} {ps qs : List (Cl Int)} (h : LR base' w v ps) (hs : ps.Sublist qs) (hl : ∀ p ∈ qs, 0 < p.xs.length → base' ≤ p.b) (ha : ApartC qs) : LL mI 0 3 52 base' w v ps :=
  ⟨h.own, h.ok, fun p hp => hl p (hs.subset hp), List.Pairwise.sublist hs ha⟩

/-- No other list has all its numbers in c. -/
def mn (cs : List (List Int)) (c : List Int) : Bool := cs.all (fun d => decide (d = c) || !(d.all (fun z => decide (z ∈ c))))
theorem mn_iff {cs : List (List Int)} {c : List Int} : mn cs c = true ↔ ∀ d, d ∈ cs → d ≠ c → ¬ ∀ z, z ∈ d → z ∈ c := by
  unfold mn
  simp only [List.all_eq_true, Bool.or_eq_true, decide_eq_true_eq, Bool.not_eq_true']
  constructor
  · intro h d hd hne hall
    rcases h d hd with e | e
    · exact hne e
    · rw [List.all_eq_false] at e
      obtain ⟨z, hz, hn⟩ := e
      exact hn (by simpa using hall z hz)
  · intro h d hd
    by_cases e : d = c
    · exact Or.inl e
    · refine Or.inr ?_
      rw [List.all_eq_false]
      have := h d hd e
      by_cases ex : ∃ z, z ∈ d ∧ z ∉ c
      · obtain ⟨z, hz, hn⟩ := ex
        exact ⟨z, hz, by simpa using hn⟩
      · exact absurd (fun z hz => by
          by_cases hc : z ∈ c
          · exact hc
          · exact absurd ⟨z, hz, hc⟩ ex) this

structure NormV (xss rs : List (List Int)) : Prop where
  ex : ∃ cs, LAsc cs ∧ (∀ z, z ∈ cs ↔ ∃ xs, xs ∈ xss ∧ Ord xs z) ∧ rs = cs.filter (mn cs)
theorem NormV.uniq {xss rs rs' : List (List Int)} (h : NormV xss rs) (k : NormV xss rs') : rs = rs' := by
  obtain ⟨cs, h1, h2, rfl⟩ := h.ex
  obtain ⟨ds, k1, k2, rfl⟩ := k.ex
  rw [lasc_uniq h1 k1 (fun z => (h2 z).trans (k2 z).symm)]

/-- What stands in order, of lists each of which is put into order. -/
structure Each (xss : List (List Int)) (ps : List (Cl Int)) : Prop where
  len : ps.length = xss.length
  ord : ∀ i : Nat, i < ps.length → Ord (xss[i]?.getD []) (ps[i]?.getD dC).xs
  tot : tot (ps.map Cl.xs) ≤ tot xss
theorem tot_app {α : Type} (xs : List (List α)) (x : List α) : tot (xs ++ [x]) = tot xs + x.length := by
  induction xs with
  | nil => simp [Go.Proofs.Ytjoaapoppcibdaa.tot]
  | cons y ys ih => simp only [List.cons_append, Go.Proofs.Ytjoaapoppcibdaa.tot, ih]; omega
theorem Each.nil : Each [] [] := ⟨rfl, fun i h => by simp at h, by simp [Go.Proofs.Ytjoaapoppcibdaa.tot]⟩
theorem Each.next {xss : List (List Int)} {n : Nat} {ps : List (Cl Int)} {p : Cl Int} (h : Each (xss.take n) ps) (hn : n < xss.length) (ho : Ord (xss[n]?.getD []) p.xs) (hl : p.xs.length ≤ (xss[n]?.getD []).length) : Each (xss.take (n + 1)) (ps ++ [p]) := by
  have hlen := h.len
  simp only [List.length_take] at hlen
  refine ⟨by simp; omega, fun i hi => ?_, ?_⟩
  · rw [List.length_append, List.length_singleton] at hi
    by_cases e : i = n
    · subst e
      have e1 : (xss.take (i + 1))[i]?.getD [] = xss[i]?.getD [] := by rw [List.getElem?_take, if_pos (by omega)]
      have e2 : (ps ++ [p])[i]?.getD dC = p := by rw [List.getElem?_append_right (by omega), show i - ps.length = 0 by omega]; rfl
      rw [e1, e2]
      exact ho
    · have := h.ord i (by omega)
      rw [List.getElem?_take, if_pos (by omega)] at this
      rw [List.getElem?_take, if_pos (by omega), List.getElem?_append_left (by omega)]
      exact this
  · have h1 := h.tot
    rw [List.map_append, List.map_singleton, tot_app, tot_step xss n hn]
    omega
theorem Each.mem {xss : List (List Int)} {ps : List (Cl Int)} (h : Each xss ps) (z : List Int) : z ∈ ps.map Cl.xs ↔ ∃ xs, xs ∈ xss ∧ Ord xs z := by
  constructor
  · intro hz
    obtain ⟨i, hi, e⟩ := List.mem_iff_getElem.1 hz
    simp only [List.length_map] at hi
    have := h.ord i hi
    have hl := h.len
    have e1 : (ps[i]?.getD dC).xs = z := by rw [← e]; simp [hi]
    rw [e1] at this
    exact ⟨_, by rw [List.getElem?_eq_getElem (by omega)]; exact List.getElem_mem _, this⟩
  · rintro ⟨xs, hx, ho⟩
    obtain ⟨i, hi, e⟩ := List.mem_iff_getElem.1 hx
    have hl := h.len
    have h1 := h.ord i (by omega)
    have e1 : xss[i]?.getD [] = xs := by rw [← e]; simp [hi]
    rw [e1] at h1
    rw [ho.uniq h1, List.getElem?_eq_getElem (by omega)]
    exact List.mem_map_of_mem (List.getElem_mem _)

end Go.Proofs.Ytjoaapoppcibdaa

namespace Go.Proofs.Ytjoaapoppcibdaa
open Go.RowKit

/-- What l3add makes of ps. -/
def AddR (ps : List (Cl Int)) (p : Cl Int) (ps' : List (Cl Int)) : Prop :=
  (ps' = ps ∧ (50 < ps.length ∨ p.xs ∈ ps.map Cl.xs)) ∨ (ps' = ps ++ [p] ∧ ps.length ≤ 50 ∧ p.xs ∉ ps.map Cl.xs)
theorem AddR.out {L : List (List Int)} {ps ps' : List (Cl Int)} {p : Cl Int} (h : AddR ps p ps') (k : OutS L (ps.map Cl.xs)) : OutS (L ++ [p.xs]) (ps'.map Cl.xs) := by
  rcases h with ⟨rfl, h | h⟩ | ⟨rfl, h1, h2⟩
  · exact k.full (by rw [List.length_map]; exact h) _
  · exact k.known h
  · rw [List.map_append]
    exact k.new (by rw [List.length_map]; exact h1) h2

set_option maxHeartbeats 4000000 in
set_option maxRecDepth 100000 in
theorem l3add_any (base : Nat) (v : Value) (ps : List (Cl Int)) (p : Cl Int) (w : World) (h : LR base w v ps) (hbase : base ≤ w.heap.size) (hp : p.ok mI 0 3 w) (hlen : ps.length ≤ 51) :
    Calls Try.prog 33 #[v, p.v] w fun e w' => ∃ v' ps', e = .returned v' ∧ AddR ps p ps' ∧ LR base w' v' ps' ∧ Below base w w' := by
  obtain ⟨i0, hi, hz0, hz1, hz2⟩ := info_parts Try.zinIntS
  have H := hide h
  have HA := hide h.at
  have Hp := hide hp
  obtain ⟨va, vc, rfl⟩ := own_is h.own
  obtain ⟨pa, pc, e1⟩ : ∃ a c, p.v = .slice a p.xs.length c := by obtain ⟨a, c, e, -⟩ := hp; exact ⟨a, c, e⟩
  have E1 := hide e1
  have SP := hide hp.at
  rw [e1] at SP
  rw [e1]
  clear h hp e1
  by_cases h50 : 50 < ps.length
  · have h50' : (50 : Int) < (ps.length : Int) := by omega
    go_enter Try.func33, Try.ntmps33
    go_wp2
    go_ret
    exact ⟨_, ps, rfl, Or.inl ⟨rfl, Or.inl h50⟩, unhide H, Below.refl _ _⟩
  · have h50' : ¬ (50 : Int) < (ps.length : Int) := by omega
    go_enter Try.func33, Try.ntmps33
    go_wp2_with fail
    refine (l3member_any _ _ (ps.map Cl.xs) p.xs _ (unhide HA) (unhide SP)).mono ?_
    rintro e w1 ⟨hret, q1, hw1⟩
    have H1 : LR base w1 (.slice va ps.length vc) ps := by rw [hw1]; exact ⟨(unhide H).own, (unhide H).ok⟩
    have Hp1 : Hid (p.ok mI 0 3 w1) := by rw [hw1]; exact unhide Hp
    have hB1 : Below base w w1 := by rw [hw1]; exact below_drewN (Below.refl _ _) q1
    have hz1' : base ≤ w1.heap.size := Nat.le_trans hbase hB1.size
    have HH1 := hide H1
    clear hw1 H1
    rcases hret.cases with ⟨rfl, hm⟩ | ⟨rfl, hm⟩
    · have Hm := hide hm
      clear hm hret
      go_wp2
      go_ret
      exact ⟨_, ps, rfl, Or.inl ⟨rfl, Or.inr (unhide Hm)⟩, unhide HH1, hB1⟩
    · have Hm := hide hm
      clear hm hret
      have Hst : Hid (∀ (w' : World) (v' : Value), w'.ownsRow base 52 1 v' (ps.length + 1) (ps.map Cl.v ++ [.slice pa p.xs.length pc]) → (w1.alloc (.cells #[.slice pa p.xs.length pc] 52)).grownBy w' (Value.slice va ps.length vc).ownBlock → LR base w' v' (ps ++ [p]) ∧ Below base w1 w') := fun w' v' g1 g2 =>
        (unhide HH1).app hz1' (unhide Hp1) (pushd_alloc w1 _) (by rw [unhide E1]; exact g1) g2
      go_wp2_with (at_builtin; refine wpList_append_own _ rfl _ _ 26 rfl base 52 i0 (.slice none 0 0) 1 24 Try.underlying26 hi hz0 hz1 hz2 rfl (by decide) _ _ _ rfl (World.ownsRow.alloc (w := w1) (unhide HH1).own _) ⟨w1.heap.size, 0, none⟩ 1 1 [.slice pa p.xs.length pc] rfl rfl ?_ ?_ ?_ ?_ ?_ ?_)
      · exact cell_1 (by simp)
      · intro u hu; simp at hu; subst hu; rfl
      · unfold maxLen; omega
      · omega
      · rw [sz_alloc]; omega
      intro v3 w3 h5 hg5 _
      have h3 := hide (unhide Hst w3 v3 h5 hg5)
      obtain ⟨g3, cap3, rfl⟩ := ownsRow_succ h5
      clear h5 hg5
      go_wp2
      go_ret
      exact ⟨_, _, rfl, Or.inr ⟨rfl, by omega, unhide Hm⟩, (unhide h3).1, hB1.trans (unhide h3).2⟩

set_option maxHeartbeats 4000000 in
set_option maxRecDepth 100000 in
theorem l3gap_any (w : World) :
    Calls Try.prog 32 #[] w fun e w' => ∃ v', e = .returned v' ∧ (∃ p : Cl Int, p.xs = [256] ∧ LR w.heap.size w' v' [p]) ∧ Below w.heap.size w w' := by
  go_enter Try.func32, Try.ntmps32
  go_wp2
  go_ret
  have hb2 := below2 w (.cells #[.int .i64 256] 3) (.cells #[.slice (some ⟨w.heap.size, 0, none⟩) 1 1] 52)
  have hblk : ((w.alloc (.cells #[.int .i64 256] 3)).alloc (.cells #[.slice (some ⟨w.heap.size, 0, none⟩) 1 1] 52)).heap[w.heap.size]? = some (.cells #[.int .i64 256] 3 (0, 0)) := by
    rw [(pushd_alloc _ _).old (by rw [sz_alloc]; omega), (pushd_alloc w _).new]
  have hblk2 : ((w.alloc (.cells #[.int .i64 256] 3)).alloc (.cells #[.slice (some ⟨w.heap.size, 0, none⟩) 1 1] 52)).heap[w.heap.size + 1]? = some (.cells #[.slice (some ⟨w.heap.size, 0, none⟩) 1 1] 52 (0, 0)) := by
    have := (pushd_alloc (w.alloc (.cells #[.int .i64 256] 3)) (.cells #[.slice (some ⟨w.heap.size, 0, none⟩) 1 1] 52)).new
    rwa [sz_alloc] at this
  refine ⟨_, rfl, ⟨⟨.slice (some ⟨w.heap.size, 0, none⟩) 1 1, [256], w.heap.size⟩, rfl, ⟨rfl, Or.inr ⟨w.heap.size + 1, 1, _, rfl, by omega, hblk2, Nat.le_refl _, by unfold maxLen; omega, rfl, rfl⟩⟩, fun q hq => ?_⟩, hb2⟩
  rw [List.mem_singleton.1 hq]
  refine ⟨some ⟨w.heap.size, 0, none⟩, 1, rfl, ⟨Nat.le_refl _, by unfold maxLen; omega⟩, fun _ => ⟨0, rfl, ⟨_, hblk⟩, fun i hi => ?_⟩⟩
  obtain rfl : i = 0 := by have : i < 1 := hi; omega
  simp [World.cell?, hblk]
  rfl

end Go.Proofs.Ytjoaapoppcibdaa

namespace Go.Proofs.Ytjoaapoppcibdaa
open Go.RowKit

set_option maxHeartbeats 4000000 in
set_option maxRecDepth 100000 in
theorem l3cut_any (base : Nat) (v : Value) (ps : List (Cl Int)) (L : List (List Int)) (w : World) (h : LR base w v ps) (hbase : base ≤ w.heap.size) (k : OutS L (ps.map Cl.xs)) :
    Calls Try.prog 35 #[v] w fun e w' => ∃ v' ps' S, e = .returned v' ∧ CutR L S ∧ (ps'.map Cl.xs).Perm S ∧ LR base w' v' ps' ∧ Below w.heap.size w w' := by
  have H := hide h
  have HK := hide k
  have hlen := k.len
  rw [List.length_map] at hlen
  obtain ⟨va, vc, rfl⟩ := own_is h.own
  clear h k
  by_cases h50 : 50 < ps.length
  · have h50' : (50 : Int) < (ps.length : Int) := by omega
    go_enter Try.func35, Try.ntmps35
    go_wp2_with fail
    refine (l3gap_any _).mono ?_
    rintro e w1 ⟨v1, rfl, ⟨p, hp, hlr⟩, hb1⟩
    have hlow : Hid (LR base w1 v1 [p]) := ⟨own_low hlr.own hbase, hlr.ok⟩
    obtain ⟨ga, gc, rfl⟩ := own_is hlr.own
    clear hlr
    go_wp2
    go_ret
    exact ⟨_, [p], [[256]], rfl, (unhide HK).gap (Or.inl (by rw [List.length_map]; exact h50)), by rw [List.map_singleton, hp], unhide hlow, hb1⟩
  · have h50' : ¬ (50 : Int) < (ps.length : Int) := by omega
    go_enter Try.func35, Try.ntmps35
    go_wp2_with fail
    go_loop [3] (fun iv => ∃ i : Nat, i ≤ ps.length ∧ iv = .int .i64 i ∧ ∀ j : Nat, j < i → (ps[j]?.getD dC).xs.length ≤ 60) (fun iv => ps.length - (intOf iv).toNat)
    case atStart => exact ⟨0, Nat.zero_le _, rfl, fun j hj => absurd hj (Nat.not_lt_zero _)⟩
    case round =>
      obtain ⟨i, hi, rfl, hin⟩ := hrel
      have Hin := hide hin
      clear hin
      by_cases hlt : i < ps.length
      · have hlt' : (i : Int) < (ps.length : Int) := by omega
        obtain ⟨g, cap', e, hcl⟩ := own_at_s (unhide H).own (by omega)
        cases e
        have hm : ps[i]?.getD dC ∈ ps := by rw [List.getElem?_eq_getElem hlt]; exact List.getElem_mem _
        have hx : w.cell? ⟨g, i, none⟩ = some (ps[i]?.getD dC).v := by
          rw [hcl i hlt, List.getElem?_map, List.getElem?_eq_getElem hlt]
          rfl
        have hok := (unhide H).ok _ hm
        obtain ⟨pa, pc, e1⟩ : ∃ a c, (ps[i]?.getD dC).v = .slice a (ps[i]?.getD dC).xs.length c := by obtain ⟨a, c, e, -⟩ := hok; exact ⟨a, c, e⟩
        rw [e1] at hx
        have Hov : Hid (60 < (ps[i]?.getD dC).xs.length → CutR L [[256]]) := fun h => (unhide HK).gap (Or.inr ⟨_, List.mem_map_of_mem hm, h⟩)
        have Hnx : Hid ((ps[i]?.getD dC).xs.length ≤ 60 → ∀ j : Nat, j < i + 1 → (ps[j]?.getD dC).xs.length ≤ 60) := fun h j hj => by
          by_cases e : j = i
          · subst e; exact h
          · exact unhide Hin j (by omega)
        clear hcl hm hok e1 Hin
        generalize ps[i]?.getD dC = p at *
        by_cases hl : 60 < p.xs.length
        · have hl' : (60 : Int) < (p.xs.length : Int) := by omega
          have HQ := hide (unhide Hov hl)
          clear Hov Hnx
          go_wp2_with fail
          refine (l3gap_any _).mono ?_
          rintro e w1 ⟨v1, rfl, ⟨p', hp, hlr⟩, hb1⟩
          have hlow : Hid (LR base w1 v1 [p']) := ⟨own_low hlr.own hbase, hlr.ok⟩
          obtain ⟨ga, gc, rfl⟩ := own_is hlr.own
          clear hlr
          go_wp2
          go_ret
          exact ⟨_, [p'], [[256]], rfl, unhide HQ, by rw [List.map_singleton, hp], unhide hlow, hb1⟩
        · have hl' : ¬ (60 : Int) < (p.xs.length : Int) := by omega
          have HQ := hide (unhide Hnx (by omega))
          clear Hov Hnx
          go_wp2
          go_round
          case rel => exact ⟨i + 1, by omega, by go_num, unhide HQ⟩
          case measure => simp [intOf]; omega
      · obtain rfl : i = ps.length := by omega
        obtain ⟨S, h1, h2⟩ := (unhide HK).fit (fun h => by
          rcases h with h | ⟨x, hx, h⟩
          · rw [List.length_map] at h; omega
          · obtain ⟨q, hq, rfl⟩ := List.mem_map.1 hx
            obtain ⟨j, hj, e⟩ := List.mem_iff_getElem.1 hq
            have := unhide Hin j hj
            rw [List.getElem?_eq_getElem hj, e] at this
            have : q.xs.length ≤ 60 := this
            omega)
        have H1 := hide h1
        have H2 := hide h2
        clear h1 h2
        go_wp2
        go_ret
        exact ⟨_, rfl, ps, S, unhide H1, unhide H2, unhide H, Below.refl _ _⟩

end Go.Proofs.Ytjoaapoppcibdaa
