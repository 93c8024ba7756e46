import Derived.Test.YtjjmgegbeccjoaaPk7
import Derived.Test.YtjjmgegbeccjoaaPk15
import Derived.RegionTactic
import Derived.BigRegion
import Derived.Test.YtjjmgegbeccjoaaPk13
import Derived.Test.YtjjmgegbeccjoaaPk9
import Derived.Deep.AppendLies
import Derived.Deep.RegionLaw
namespace Go.Proofs.Ytjjmgegbeccjoaa
open Go.RowKit

theorem Try.info48 : (Try.prog.info? 48).map (fun i => (i.zero, i.size, i.bytes)) = some (some .nilIface, 1, 16) := by kernel_rfl

/-- The values of a stack of trees. -/
def NVals : List (List El × Int) → List Value → Prop
  | [], [] => True
  | t :: ts, u :: us => SzV u t.2 ∧ NVals ts us
  | _, _ => False

theorem NVals.len : ∀ {ts : List (List El × Int)} {us : List Value}, NVals ts us → ts.length = us.length
  | [], [], _ => rfl
  | _ :: _, _ :: _, h => by simp [NVals.len h.2]
  | [], _ :: _, h => h.elim
  | _ :: _, [], h => h.elim

theorem NVals.append : ∀ {a b : List (List El × Int)} {us vs : List Value}, NVals a us → NVals b vs → NVals (a ++ b) (us ++ vs)
  | [], _, [], _, _, k => k
  | _ :: _, _, _ :: _, _, h, k => ⟨h.1, NVals.append h.2 k⟩
  | [], _, _ :: _, _, h, _ => h.elim
  | _ :: _, _, [], _, h, _ => h.elim

theorem NVals.split : ∀ {a b : List (List El × Int)} {us : List Value}, NVals (a ++ b) us → ∃ u v, us = u ++ v ∧ NVals a u ∧ NVals b v
  | [], _, us, h => ⟨[], us, rfl, trivial, h⟩
  | _ :: _, _, y :: _, h => by
    obtain ⟨u, v, rfl, hu, hv⟩ := NVals.split h.2
    exact ⟨y :: u, v, rfl, ⟨h.1, hu⟩, hv⟩
  | _ :: _, _, [], h => h.elim

theorem NVals.one {t : List El × Int} {us : List Value} (h : NVals [t] us) : ∃ u, us = [u] ∧ SzV u t.2 := by
  match us, h with
  | [u], h => exact ⟨u, rfl, h.1⟩
theorem NVals.two {s t : List El × Int} {us : List Value} (h : NVals [s, t] us) : ∃ u v, us = [u, v] ∧ SzV u s.2 ∧ SzV v t.2 := by
  match us, h with
  | [u, v], h => exact ⟨u, v, rfl, h.1, h.2.1⟩

/-- What pushElement leaves. -/
def Pushed (base : Nat) (w w' : World) (e : Ending) (st : List (List El × Int)) (x : El) : Prop :=
  ∃ v' vals' st', e = .returned v' ∧ w'.ownsRow base 48 1 v' vals'.length vals' ∧ PushR st x st' ∧ NVals st' vals' ∧ Below base w w'

theorem cell_one {W : World} {N : Nat} {u : Value} (h : W.cell? ⟨N, 0, none⟩ = some u) : ∀ (j : Nat) (y : Value), [u][j]? = some y → W.cell? ((⟨N, 0, none⟩ : Addr).add j) = some y := by
  intro j y hj
  match j, hj with
  | 0, hj => simp at hj; subst hj; exact h

theorem pushed_mk {base : Nat} {w W w' : World} {v' v0 : Value} {n : Nat} {xs : List Value} {u : Value} {st st' : List (List El × Int)} {x : El} (hW : Below base w W) (hB : base ≤ W.heap.size) (h0 : W.ownsRow base 48 1 v0 n xs)
    (hg : W.grownBy w' v0.ownBlock) (h1 : w'.ownsRow base 48 1 v' (n + 1) (xs ++ [u])) (hp : PushR st x st') (hn : NVals st' (xs ++ [u])) : Pushed base w w' (.returned v') st x := by
  have hl := h1.1
  rw [Nat.mul_one] at hl
  refine ⟨v', xs ++ [u], st', rfl, by rw [hl]; exact h1, hp, hn, hW.grown hg hB (fun k hk => ?_)⟩
  exact (h0.lt k hk).1

theorem grown_of_below {m : Nat} {w w' : World} (h : Below m w w') (hm : w.heap.size ≤ m) : w.grownBy w' none := ⟨h.os, h.tape, h.output, h.size, fun k hk _ => h.block k (by omega)⟩

theorem own_below {base n m : Nat} {w w' : World} {v : Value} {xs : List Value} (h : w.ownsRow base 48 1 v n xs) (hb : Below m w w') (hm : w.heap.size ≤ m) : w'.ownsRow base 48 1 v n xs :=
  h.kept (grown_of_below hb hm) (by cases v.ownBlock <;> simp)


theorem drew_own {base n : Nat} {w : World} {v : Value} {xs : List Value} {q : Nat} (h : w.ownsRow base 48 1 v n xs) : (w.drewN q).ownsRow base 48 1 v n xs := h

theorem sz_drewN (w : World) (q : Nat) : (w.drewN q).heap.size = w.heap.size := rfl


theorem validElement_iff {x : El} : ElOk x ↔ (x.kind = 1 ∧ Canon x.set ∧ x.mn = 0 ∧ x.mx = 0) ∨ ((x.kind = 0 ∨ x.kind = 2 ∨ x.kind = 3) ∧ x.set.length = 0 ∧ x.mn = 0 ∧ x.mx = 0) ∨ (x.kind = 4 ∧ x.set.length = 0 ∧ BdOk x.mn x.mx) := Iff.rfl


theorem own_len {base n : Nat} {w : World} {v : Value} {vals : List Value} (hown : w.ownsRow base 48 1 v n vals) (h : 0 < n) : ∃ g cap, v = .slice (some ⟨g, 0, none⟩) n cap ∧ n ≤ cap ∧ cap ≤ maxLen := by
  rcases hown.2 with ⟨rfl, hn⟩ | ⟨g, cap, cur, rfl, hbg, hg, hnc, hcm, hcs, htake⟩
  · omega
  · exact ⟨g, cap, rfl, hnc, hcm⟩


/-- A list of elements, its value and its blocks. -/
structure Pt where
  P : List El
  s : Value
  T : Nat → Prop
theorem Try.zinOpS : (Try.prog.info? 23).map (fun i => (i.zero, i.size, i.bytes)) = some (some (.slice none 0 0), 1, 24) := by kernel_rfl

/-- v is a slice of its own, from block base on, of these lists. -/
structure PGrow (base : Nat) (w : World) (v : Value) (ps : List Pt) : Prop where
  own : w.ownsRow base 23 1 v ps.length (ps.map Pt.s)
  els : ∀ p ∈ ps, ElsF p.T w p.s p.P
  blk : ∀ p ∈ ps, ∀ k, p.T k → k < w.heap.size ∧ v.ownBlock ≠ some k
theorem PGrow.nil (base : Nat) (w : World) : PGrow base w (.slice none 0 0) [] := ⟨World.ownsRow_nil _ _ _ _, by simp, by simp⟩
theorem PGrow.keep {base m : Nat} {w w' : World} {v : Value} {ps : List Pt} (h : PGrow base w v ps) (hb : Below m w w') (hm : w.heap.size ≤ m) : PGrow base w' v ps :=
  ⟨own_keep h.own hb hm, fun p hp => (h.els p hp).same (fun k hk => hb.block k (by have := (h.blk p hp k hk).1; omega)), fun p hp k hk => ⟨by have h1 := (h.blk p hp k hk).1; have h2 := hb.size; omega, (h.blk p hp k hk).2⟩⟩

theorem ElsF.one {S : Nat → Prop} {w : World} {v : Value} {xs : List El} (h : ElsF S w v xs) : v.oneCell' = true := by
  obtain ⟨a, cap, rfl, -⟩ := h
  rfl

/-- Parts, joined by cat, leftmost first. -/
def catE : El := ⟨2, [], 0, 0⟩
def jn : List (List El) → List El
  | [] => []
  | p :: r => r.foldl (fun acc q => acc ++ q ++ [catE]) p
theorem jn_one (p : List El) : jn [p] = p := rfl
theorem jn_snoc {ps : List (List El)} (h : ps ≠ []) (q : List El) : jn (ps ++ [q]) = jn ps ++ q ++ [catE] := by
  cases ps with
  | nil => exact absurd rfl h
  | cons p r => simp [jn, List.foldl_append]

def optE (X : List El) : List El := X ++ [⟨0, [], 0, 0⟩] ++ [⟨3, [], 0, 0⟩]
/-- The parts of a repetition that is written out. -/
def partsX (X : List El) (mn mx : Int) : List (List El) :=
  if mx = -1 then List.replicate (mn - 1).toNat X ++ [X ++ [⟨4, [], if 1 < mn then 1 else mn, -1⟩]]
  else List.replicate mn.toNat X ++ List.replicate (mx - mn).toNat (optE X)
def repX (X : List El) (mn mx : Int) : List El := if mx = 0 then [⟨0, [], 0, 0⟩] else jn (partsX X mn mx)


theorem own_at_g {base n e : Nat} {w : World} {v : Value} {xs : List Value} (h : w.ownsRow base e 1 v n xs) (hp : 0 < n) : ∃ g cap, v = .slice (some ⟨g, 0, none⟩) n cap ∧ ∀ j : Nat, j < n → w.cell? ⟨g, j, none⟩ = xs[j]? := by
  rcases h.2 with ⟨rfl, hz⟩ | ⟨g, cap, cur, rfl, hbg, hg, hnc, hcm, hcs, htake⟩
  · omega
  · exact ⟨g, cap, rfl, fun j hj => h.cellAt j (by omega)⟩
theorem jn_len (ps : List (List El)) (h : ∀ p ∈ ps, p.length ≤ 3002) : (jn ps).length ≤ ps.length * 3003 := by
  cases ps with
  | nil => simp [jn]
  | cons p r =>
    have key : ∀ (r : List (List El)) (acc : List El), (∀ p ∈ r, p.length ≤ 3002) → (r.foldl (fun acc q => acc ++ q ++ [catE]) acc).length ≤ acc.length + r.length * 3003 := by
      intro r
      induction r with
      | nil => intro acc _; simp
      | cons q r ih =>
        intro acc hq
        have h1 := ih (acc ++ q ++ [catE]) (fun p hp => hq p (by simp [hp]))
        have h2 := hq q (by simp)
        simp only [List.foldl_cons, List.length_cons, List.length_append, List.length_nil] at h1 ⊢
        omega
    have h1 := key r p (fun q hq => h q (by simp [hq]))
    have h2 := h p (by simp)
    simp only [jn, List.length_cons]
    omega
theorem jn_nice (ps : List (List El)) (h : ∀ p ∈ ps, Nice p) : Nice (jn ps) := by
  cases ps with
  | nil => exact Nice.nil
  | cons p r =>
    have key : ∀ (r : List (List El)) (acc : List El), Nice acc → (∀ p ∈ r, Nice p) → Nice (r.foldl (fun acc q => acc ++ q ++ [catE]) acc) := by
      intro r
      induction r with
      | nil => intro acc h _; exact h
      | cons q r ih =>
        intro acc ha hq
        exact ih _ ((ha.app (hq q (by simp))).app (Nice.op 2 0 0 (by simp [In64]) (by simp [In64]) (by simp [In64]))) (fun p hp => hq p (by simp [hp]))
    exact key r p (h p (by simp)) (fun q hq => h q (by simp [hq]))
theorem jn_next {ps : List Pt} {k : Nat} (h : k < ps.length) : jn ((ps.take (k + 1)).map Pt.P) = if k = 0 then (ps[k]).P else jn ((ps.take k).map Pt.P) ++ (ps[k]).P ++ [catE] := by
  rw [List.take_succ_eq_append_getElem h, List.map_append]
  by_cases e : k = 0
  · subst e; simp [jn]
  · rw [if_neg e]
    exact jn_snoc (by intro q; have := congrArg List.length q; rw [List.length_map, List.length_take, List.length_nil] at this; omega) _


/-- The nodes joined by cat, leftmost first. -/
def jV : List Value → Value
  | [] => undef
  | p :: r => r.foldl cV p
theorem foldV (r : List Value) : ∀ p : Value, (∃ T x, p = .iface T x) → ∃ T x, r.foldl cV p = .iface T x := by
  induction r with
  | nil => intro p h; exact h
  | cons q r ih => intro p _; exact ih (cV p q) ⟨_, _, rfl⟩
theorem foldV_next (r : List Value) (p : Value) (j : Nat) (h : j < r.length) : (r.take (j + 1)).foldl cV p = cV ((r.take j).foldl cV p) r[j] := by
  rw [List.take_succ_eq_append_getElem h, List.foldl_append]; rfl

set_option maxHeartbeats 1000000 in
theorem joinParts_any (base : Nat) (v p : Value) (r : List Value) (w : World) (hown : w.ownsRow base 48 1 v (r.length + 1) (p :: r)) (hif : ∀ u ∈ p :: r, ∃ T x, u = .iface T x) (hl : r.length ≤ 1000000) :
    Calls Try.prog 53 #[v] w fun e w' => e = .returned (jV (p :: r)) ∧ w' = w := by
  obtain ⟨g, cap, rfl, hcell⟩ := own_at_g hown (by omega)
  have hcap : r.length + 1 ≤ cap := by
    rcases hown.2 with ⟨e, -⟩ | ⟨g', cap', cur, e, -, -, hnc, -⟩
    · simp at e
    · simp only [Value.slice.injEq] at e
      rw [e.2.2]; exact hnc
  have hx0 : w.cell? ⟨g, 0, none⟩ = some p := hcell 0 (by omega)
  have hxs : Hid (∀ j : Nat, (h : j < r.length) → w.cell? ⟨g, 1 + j, none⟩ = some r[j]) := fun j h => by
    rw [hcell (1 + j) (by omega), Nat.add_comm 1 j, List.getElem?_cons_succ, List.getElem?_eq_getElem h]
  obtain ⟨T0, x0, rfl⟩ := hif p (by simp)
  have Hif := hide hif
  have hcI : ((r.length + 1 : Nat) : Int) ≤ (cap : Int) := by omega
  clear hcell hown hif
  by_cases hc1 : cap = 1
  · subst hc1
    obtain rfl : r = [] := List.eq_nil_of_length_eq_zero (by omega)
    go_enter Try.func53, Try.ntmps53
    go_wp2
    go_loop [3, 12] (fun q i => q = .iface T0 x0 ∧ i = .int .i64 0) (fun _ _ => 0)
    case atStart => exact ⟨rfl, rfl⟩
    case round =>
      obtain ⟨rfl, rfl⟩ := hrel
      go_wp2
      go_ret
      exact ⟨rfl, rfl⟩
  · go_enter Try.func53, Try.ntmps53
    go_wp2
    go_loop [3, 12] (fun q i => ∃ j : Nat, j ≤ r.length ∧ i = .int .i64 (j : Int) ∧ q = (r.take j).foldl cV (.iface T0 x0)) (fun _ i => r.length - (intOf i).toNat)
    case atStart => exact ⟨0, Nat.zero_le _, rfl, rfl⟩
    case round =>
      obtain ⟨j, hj, rfl, hq⟩ := hrel
      obtain ⟨T1, x1, e1⟩ := foldV (r.take j) _ ⟨T0, x0, rfl⟩
      by_cases hlt : j < r.length
      · have hx := unhide hxs j hlt
        obtain ⟨T2, x2, e2⟩ := unhide Hif r[j] (by simp)
        have Hn := hide (foldV_next r (.iface T0 x0) j hlt)
        rw [e1] at hq Hn
        rw [e2] at hx Hn
        subst hq
        have hlt' : (j : Int) < (r.length : Int) := by omega
        clear e1 e2
        go_wp2
        go_round
        case rel => exact ⟨j + 1, by omega, by go_num, by rw [unhide Hn]; rfl⟩
        case measure => simp [intOf]; omega
      · obtain rfl : j = r.length := by omega
        rw [List.take_length] at hq e1
        have He := hide e1
        rw [e1] at hq
        subst hq
        clear e1
        go_wp2
        go_ret
        exact ⟨by rw [← unhide He]; rfl, rfl⟩


theorem joinParts_l (base n : Nat) (v : Value) (vals : List Value) (w : World) (hown : w.ownsRow base 48 1 v n vals) (hn : 0 < n) (hif : ∀ u ∈ vals, ∃ T x, u = .iface T x) (hl : n ≤ 1000000) :
    Calls Try.prog 53 #[v] w fun e w' => e = .returned (jV vals) ∧ w' = w := by
  have h1 := hown.1
  rw [Nat.mul_one] at h1
  cases vals with
  | nil => simp at h1; omega
  | cons p r =>
    have e : n = r.length + 1 := by rw [← h1]; rfl
    subst e
    exact joinParts_any base v p r w hown hif (by omega)

def partsV (U : Value) (mn mx : Int) : List Value :=
  if mx = -1 then List.replicate (mn - 1).toNat U ++ [rV U (if 1 < mn then 1 else mn) (-1)]
  else List.replicate mn.toNat U ++ List.replicate (mx - mn).toNat (aV U eV)
def repV (U : Value) (mn mx : Int) : Value := if mx = 0 then eV else jV (partsV U mn mx)

theorem own_of_below {base n m e size : Nat} {w w' : World} {v : Value} {xs : List Value} (h : w.ownsRow base e size v n xs) (hb : Below m w w') (hm : w.heap.size ≤ m) : w'.ownsRow base e size v n xs := own_keep h hb hm

theorem own_base {b b' e size n : Nat} {w : World} {v : Value} {xs : List Value} (h : w.ownsRow b e size v n xs) (hb : b = b') : w.ownsRow b' e size v n xs := hb ▸ h

end Go.Proofs.Ytjjmgegbeccjoaa
