import Derived.Test.YtkajdhliejjohaaP5
import Derived.Test.YtkajdhliejjohaaP2
import Derived.Deep.RegionWith
import Derived.Test.YtkajdhliejjohaaP3
namespace Go.Proofs.Ytkajdhliejjohaa
open Go.RowKit

def lenV (v : Value) : Nat := match v with | .slice _ n _ => n | _ => 0

theorem Bytes.drop {bs : List Int} (h : Bytes bs) (k : Nat) : Bytes (bs.drop k) := fun i => by
  rw [drop_get]
  exact h (k + i)

end Go.Proofs.Ytkajdhliejjohaa

namespace Go.Proofs.Ytkajdhliejjohaa
open Go.RowKit

theorem LB.footR {base : Nat} {w : World} {v : Value} {ps : List (Cl Int)} (h : LB base w v ps) : SsF mB 0 (Rng base w.heap.size) w v (ps.map Cl.xs) := by
  refine h.foot (by decide) ?_
  have h1 := own_cap h.own
  obtain ⟨a, c, rfl⟩ := own_is h.own
  have := h1.le
  omega

end Go.Proofs.Ytkajdhliejjohaa

namespace Go.Proofs.Ytkajdhliejjohaa
open Go.RowKit

theorem SameB.put {lo n : Nat} {a w : World} (h : SameB lo n a w) {b o : Nat} (hb : b < lo ∨ n ≤ b) (u : Value) : SameB lo n a (w.setCell ⟨b, o, none⟩ u) :=
  fun k h1 h2 => (Below.heap_setCell _ _ _ _ (by show k ≠ b; omega)).trans (h k h1 h2)

/-- A block of four cells. -/
def Row4 (w : World) (b : Nat) (t : TypeId) (c0 c1 c2 c3 : Value) : Prop := w.rowIs b t 4 (fun j => [c0, c1, c2, c3].getD j undef)
theorem Row4.new (w : World) (t : TypeId) (c0 c1 c2 c3 : Value) : Row4 (w.alloc (.cells #[c0, c1, c2, c3] t)) w.heap.size t c0 c1 c2 c3 :=
  World.rowIs_alloc w #[c0, c1, c2, c3] t _ (fun i hi => by
    match i, hi with
    | 0, _ => rfl
    | 1, _ => rfl
    | 2, _ => rfl
    | 3, _ => rfl)
theorem Row4.alloc {w : World} {b : Nat} {t : TypeId} {c0 c1 c2 c3 : Value} (h : Row4 w b t c0 c1 c2 c3) (o : Obj) : Row4 (w.alloc o) b t c0 c1 c2 c3 := World.rowIs.alloc h o
theorem Row4.below {w w' : World} {b m : Nat} {t : TypeId} {c0 c1 c2 c3 : Value} (h : Row4 w b t c0 c1 c2 c3) (hb : Below m w w') (hm : b < m) : Row4 w' b t c0 c1 c2 c3 := World.rowIs.of_block h (hb.block b hm)
theorem Row4.other {w : World} {b b' o : Nat} {t : TypeId} {c0 c1 c2 c3 u : Value} (h : Row4 w b t c0 c1 c2 c3) (hb : b ≠ b') : Row4 (w.setCell ⟨b', o, none⟩ u) b t c0 c1 c2 c3 := World.rowIs.setOther h hb u
theorem Row4.put0 {w : World} {b : Nat} {t : TypeId} {c0 c1 c2 c3 u : Value} (h : Row4 w b t c0 c1 c2 c3) : Row4 (w.setCell ⟨b, 0, none⟩ u) b t u c1 c2 c3 := (World.rowIs.set h 0 u).congr (fun i hi => by
    match i, hi with
    | 0, _ => rfl
    | 1, _ => rfl
    | 2, _ => rfl
    | 3, _ => rfl)
theorem Row4.put1 {w : World} {b : Nat} {t : TypeId} {c0 c1 c2 c3 u : Value} (h : Row4 w b t c0 c1 c2 c3) : Row4 (w.setCell ⟨b, 1, none⟩ u) b t c0 u c2 c3 := (World.rowIs.set h 1 u).congr (fun i hi => by
    match i, hi with
    | 0, _ => rfl
    | 1, _ => rfl
    | 2, _ => rfl
    | 3, _ => rfl)
theorem Row4.put2 {w : World} {b : Nat} {t : TypeId} {c0 c1 c2 c3 u : Value} (h : Row4 w b t c0 c1 c2 c3) : Row4 (w.setCell ⟨b, 2, none⟩ u) b t c0 c1 u c3 := (World.rowIs.set h 2 u).congr (fun i hi => by
    match i, hi with
    | 0, _ => rfl
    | 1, _ => rfl
    | 2, _ => rfl
    | 3, _ => rfl)
/-- What the walk asks of it. -/
theorem Row4.facts {w : World} {b : Nat} {t : TypeId} {c0 c1 c2 c3 : Value} (h : Row4 w b t c0 c1 c2 c3) :
    w.cell? ⟨b, 0, none⟩ = some c0 ∧ w.cell? ⟨b, 1, none⟩ = some c1 ∧ w.cell? ⟨b, 2, none⟩ = some c2 ∧ w.cell? ⟨b, 3, none⟩ = some c3 ∧ w.frozen? ⟨b, 0, none⟩ = false ∧ w.frozen? ⟨b, 1, none⟩ = false ∧ w.frozen? ⟨b, 2, none⟩ = false ∧ w.frozen? ⟨b, 3, none⟩ = false :=
  ⟨World.rowIs.cell h (i := 0) (by omega), World.rowIs.cell h (i := 1) (by omega), World.rowIs.cell h (i := 2) (by omega), World.rowIs.cell h (i := 3) (by omega), World.rowIs.frozen h 0, World.rowIs.frozen h 1, World.rowIs.frozen h 2, World.rowIs.frozen h 3⟩

end Go.Proofs.Ytkajdhliejjohaa

namespace Go.Proofs.Ytkajdhliejjohaa
open Go.RowKit

set_option maxHeartbeats 1000000 in
theorem l2inList_any (v : Value) (xs : List Int) (k : Int) (w : World) (hv : SlAt mI 0 0 w.heap.size w v xs) :
    Calls Try.prog 40 #[v, .int .i64 k] w fun e w' => RetB e (k ∈ xs) ∧ ∃ q, w' = w.drewN q := by
  obtain ⟨a, cap, rfl, hl, hc⟩ := hv
  unfold maxLen at hl
  go_enter Try.func40, Try.ntmps40
  go_wp2
  go_loopw [5] (fun i wr => (∃ m : Nat, m ≤ xs.length ∧ i = .int .i64 m ∧ ∀ j : Nat, j < m → xs[j]?.getD 0 ≠ k) ∧ ∃ q, wr = w.drewN q) (fun i _ => xs.length - (intOf i).toNat)
  case atStart => exact ⟨⟨0, Nat.zero_le _, rfl, fun i hi => absurd hi (Nat.not_lt_zero _)⟩, 0, rfl⟩
  case round =>
    obtain ⟨⟨m, hm, rfl, hp⟩, q, rfl⟩ := hrel
    have Hp := hide hp
    clear hp
    by_cases hlt : m < xs.length
    · have hlt' : (m : Int) < (xs.length : Int) := by omega
      obtain ⟨b, off, rfl, -, -, hcell⟩ := hc (by omega)
      have hx := hcell m hlt
      unfold mI at hx
      clear hcell hc
      by_cases he : xs[m]?.getD 0 = k
      · have HN : Hid (k ∈ xs) := mem_get.2 ⟨m, hlt, he⟩
        rw [he] at hx
        clear he
        go_wp2
        go_ret
        exact ⟨RetB.yes (unhide HN), _, rfl⟩
      · have HN : Hid (∀ j : Nat, j < m + 1 → xs[j]?.getD 0 ≠ k) := fun j hj => by
          by_cases e : j = m
          · subst e; exact he
          · exact unhide Hp j (by omega)
        generalize xs[m]?.getD 0 = u at *
        have he' : (u == k) = false := by simp [he]
        go_wp2
        go_roundw
        case rel => exact ⟨⟨m + 1, by omega, by go_num, unhide HN⟩, _, rfl⟩
        case measure => simp [intOf]; omega
    · obtain rfl : m = xs.length := by omega
      have HN : Hid (k ∉ xs) := fun h => by
        obtain ⟨j, hj, e⟩ := mem_get.1 h
        exact unhide Hp j hj e
      clear hc
      go_wp2
      go_ret
      exact ⟨RetB.no (unhide HN), _, rfl⟩

theorem l2in_yes (v : Value) (xs : List Int) (k : Int) (N : Nat) (w : World) (hv : SlAt mI 0 0 N w v xs) (hN : N ≤ w.heap.size) (hk : k ∈ xs) :
    Calls Try.prog 40 #[v, .int .i64 k] w fun e w' => e = .returned (.bool true) ∧ ∃ q, w' = w.drewN q :=
  (l2inList_any v xs k w (hv.mono (Nat.le_refl _) hN)).mono (fun e w' ⟨h1, h2⟩ => by
    rcases h1.cases with ⟨h, -⟩ | ⟨-, h⟩
    · exact ⟨h, h2⟩
    · exact absurd hk h)
theorem l2in_no (v : Value) (xs : List Int) (k : Int) (N : Nat) (w : World) (hv : SlAt mI 0 0 N w v xs) (hN : N ≤ w.heap.size) (hk : k ∉ xs) :
    Calls Try.prog 40 #[v, .int .i64 k] w fun e w' => e = .returned (.bool false) ∧ ∃ q, w' = w.drewN q :=
  (l2inList_any v xs k w (hv.mono (Nat.le_refl _) hN)).mono (fun e w' ⟨h1, h2⟩ => by
    rcases h1.cases with ⟨-, h⟩ | ⟨h, -⟩
    · exact absurd h hk
    · exact ⟨h, h2⟩)

/-- The positions of the lines that hold k. -/
def PostR (base : Int) (xss : List (List Int)) (k : Int) (l : List Int) : Prop := Asc l ∧ ∀ x, x ∈ l ↔ ∃ i : Nat, i < xss.length ∧ x = base + i ∧ k ∈ tr (xss[i]?.getD [])
/-- The keys and the posting lists of a segment. -/
structure SegR (base : Int) (xss : List (List Int)) (ks : List Int) (pss : List (List Int)) : Prop where
  keys : Ord (allT xss) ks
  len : pss.length = ks.length
  post : ∀ j : Nat, j < ks.length → PostR base xss (ks[j]?.getD 0) (pss[j]?.getD [])
theorem SegR.uniq {base : Int} {xss : List (List Int)} {ks ks' : List Int} {pss pss' : List (List Int)} (h : SegR base xss ks pss) (h' : SegR base xss ks' pss') : ks = ks' ∧ pss = pss' := by
  obtain rfl := h.keys.uniq h'.keys
  refine ⟨rfl, List.ext_getElem (h.len.trans h'.len.symm) (fun j h1 h2 => ?_)⟩
  have a := h.post j (by rw [← h.len]; exact h1)
  have b := h'.post j (by rw [← h.len]; exact h1)
  rw [List.getElem?_eq_getElem h1] at a
  rw [List.getElem?_eq_getElem h2] at b
  exact asc_uniq a.1 b.1 (fun z => (a.2 z).trans (b.2 z).symm)

theorem Row4.put3 {w : World} {b : Nat} {t : TypeId} {c0 c1 c2 c3 u : Value} (h : Row4 w b t c0 c1 c2 c3) : Row4 (w.setCell ⟨b, 3, none⟩ u) b t c0 c1 c2 u := (World.rowIs.set h 3 u).congr (fun i hi => by
    match i, hi with
    | 0, _ => rfl
    | 1, _ => rfl
    | 2, _ => rfl
    | 3, _ => rfl)

/-- The part of a posting list that is made. -/
def PostP (base : Int) (xss : List (List Int)) (k : Int) (n : Nat) (l : List Int) : Prop := Asc l ∧ ∀ x, x ∈ l ↔ ∃ i : Nat, i < n ∧ x = base + i ∧ k ∈ tr (xss[i]?.getD [])
theorem PostP.yes {base k : Int} {xss : List (List Int)} {n : Nat} {l : List Int} (h : PostP base xss k n l) (hk : k ∈ tr (xss[n]?.getD [])) : PostP base xss k (n + 1) (l ++ [base + n]) := by
  refine ⟨List.pairwise_append.2 ⟨h.1, List.pairwise_singleton _ _, fun a ha b hb => ?_⟩, fun x => ?_⟩
  · rw [List.mem_singleton] at hb
    obtain ⟨i, hi, rfl, -⟩ := (h.2 a).1 ha
    omega
  · rw [List.mem_append, h.2 x, List.mem_singleton]
    constructor
    · rintro (⟨i, hi, e, hm⟩ | e)
      · exact ⟨i, by omega, e, hm⟩
      · exact ⟨n, by omega, e, hk⟩
    · rintro ⟨i, hi, e, hm⟩
      by_cases q : i < n
      · exact Or.inl ⟨i, q, e, hm⟩
      · obtain rfl : i = n := by omega
        exact Or.inr e
theorem PostP.no {base k : Int} {xss : List (List Int)} {n : Nat} {l : List Int} (h : PostP base xss k n l) (hk : k ∉ tr (xss[n]?.getD [])) : PostP base xss k (n + 1) l := by
  refine ⟨h.1, fun x => ?_⟩
  rw [h.2 x]
  constructor
  · rintro ⟨i, hi, e, hm⟩
    exact ⟨i, by omega, e, hm⟩
  · rintro ⟨i, hi, e, hm⟩
    refine ⟨i, ?_, e, hm⟩
    by_cases q : i = n
    · subst q; exact absurd hm hk
    · omega

/-- The trigrams of the first n lines. -/
def TrisP (xss : List (List Int)) (n : Nat) (ps : List (Cl Int)) : Prop := ps.length = n ∧ ∀ i : Nat, i < n → ∀ z, z ∈ ((ps.map Cl.xs)[i]?.getD []) ↔ z ∈ tr (xss[i]?.getD [])
theorem TrisP.step {xss : List (List Int)} {n : Nat} {ps : List (Cl Int)} {p : Cl Int} (h : TrisP xss n ps) (hp : ∀ z, z ∈ p.xs ↔ z ∈ tr (xss[n]?.getD [])) : TrisP xss (n + 1) (ps ++ [p]) := by
  refine ⟨by rw [List.length_append, h.1]; rfl, fun i hi => ?_⟩
  by_cases e : i < n
  · rw [List.map_append, List.getElem?_append_left (by rw [List.length_map, h.1]; exact e)]
    exact h.2 i e
  · obtain rfl : i = n := by omega
    rw [List.map_append, List.getElem?_append_right (by rw [List.length_map, h.1]; exact Nat.le_refl _), List.length_map, h.1]
    simpa using hp

/-- One list of ints of its own more. -/
theorem LI.push {base : Nat} {w V wr : World} {ov lv : Value} {ps : List (Cl Int)} {ls : List Int} (Hll : LL mI 0 3 25 base V ov ps) (hbV : base ≤ V.heap.size) (hbl : Below V.heap.size V wr) (hb : Below base w V) (Hown : wr.ownsRow V.heap.size 3 1 lv ls.length (ls.map mI))
    (w' : World) (v' : Value) (g1 : w'.ownsRow base 25 1 v' (ps.length + 1) (ps.map Cl.v ++ [lv])) (g2 : (wr.alloc (.cells #[lv] 25)).grownBy w' ov.ownBlock) : ∃ p : Cl Int, p.xs = ls ∧ LL mI 0 3 25 base w' v' (ps ++ [p]) ∧ Below base w w' := by
  obtain ⟨pb, hp, hplo⟩ := own_cl Hown
  have hz := hbl.size
  obtain ⟨r1, r2⟩ := (Hll.keep hbl (Nat.le_refl _)).app (by decide) (by omega) hp (fun h => Nat.le_trans hbV (hplo h)) (fun q hq hq0 hp0 e => by
    have h1 := (Hll.ok q hq).lt hq0
    have h2 := hplo hp0
    rw [e] at h1
    exact absurd h1 (Nat.not_lt.2 h2)) (pushd_alloc wr _) g1 g2
  exact ⟨_, rfl, r1, (hb.trans (hbl.mono hbV)).trans r2⟩
theorem LI.footR {base : Nat} {w : World} {v : Value} {ps : List (Cl Int)} (h : LL mI 0 3 25 base w v ps) : SsF mI 0 (Rng base w.heap.size) w v (ps.map Cl.xs) := by
  refine h.foot (by decide) ?_
  have h1 := own_cap h.own
  obtain ⟨a, c, rfl⟩ := own_is h.own
  have := h1.le
  omega
theorem LI.at {base : Nat} {w : World} {v : Value} {ps : List (Cl Int)} (h : LL mI 0 3 25 base w v ps) : SsAt mI 0 w.heap.size w v (ps.map Cl.xs) := by
  refine (h.foot (by decide) ?_).all (Nat.le_refl _)
  have h1 := own_cap h.own
  obtain ⟨a, c, rfl⟩ := own_is h.own
  have := h1.le
  omega

theorem LL.putlo {α : Type} {mk : α → Value} {d : α} {e te : TypeId} {base B o : Nat} {w : World} {v u : Value} {ps : List (Cl α)} (h : LL mk d e te base w v ps) (hB : B < base) : LL mk d e te base (w.setCell ⟨B, o, none⟩ u) v ps := by
  have hg : w.grownBy (w.setCell ⟨B, o, none⟩ u) (some B) := ⟨rfl, rfl, rfl, by rw [sz_put]; exact Nat.le_refl _, fun k _ hk => Below.heap_setCell _ _ _ k (fun e => hk (by rw [e]))⟩
  refine ⟨h.own.kept hg ?_, fun p hp => (h.ok p hp).same (fun hp0 => Below.heap_setCell _ _ _ _ (by have := h.lo p hp hp0; show p.b ≠ B; omega)), h.lo, h.apart⟩
  rcases h.own.2 with ⟨rfl, _⟩ | ⟨g, cap, cur, rfl, hbg, _⟩
  · exact Or.inl rfl
  · refine Or.inr (fun e => ?_)
    have : g = B := by simpa [Value.ownBlock] using e
    omega

/-- While the posting lists are made: the first m are. -/
structure PInv (base : Int) (xss : List (List Int)) (ks : List Int) (B n2 n3 n4 : Nat) (w1 wr : World) (lv kv tv : Value) (tss : List (List Int)) (m : Nat) (pv : Value) (qs : List (Cl Int)) : Prop where
  len : qs.length = m
  post : ∀ i : Nat, i < m → PostR base xss (ks[i]?.getD 0) ((qs.map Cl.xs)[i]?.getD [])
  box : Row4 wr B 28 (.int .i64 base) lv kv pv
  ll : LL mI 0 3 25 n4 wr pv qs
  bel : Below w1.heap.size w1 wr
  keys : SlW mI 0 (B + 1) n2 wr kv ks
  tris : SsF mI 0 (Rng n3 n4) wr tv tss
  size : n4 ≤ wr.heap.size

theorem PInv.step {base : Int} {xss tss : List (List Int)} {ks : List Int} {n2 n3 n4 m : Nat} {w1 V w7 : World} {lv kv tv pv v7 : Value} {qs : List (Cl Int)} {p : Cl Int} (h : PInv base xss ks w1.heap.size n2 n3 n4 w1 V lv kv tv tss m pv qs) (h1 : w1.heap.size < n3) (h2 : n2 ≤ n3) (h3 : n3 ≤ n4)
    (hp : PostR base xss (ks[m]?.getD 0) p.xs) (hll : LL mI 0 3 25 n4 w7 v7 (qs ++ [p])) (hb : Below n4 V w7) : PInv base xss ks w1.heap.size n2 n3 n4 w1 (w7.setCell ⟨w1.heap.size, 3, none⟩ v7) lv kv tv tss (m + 1) v7 (qs ++ [p]) := by
  have hz := hb.size
  have hs := h.size
  refine ⟨by rw [List.length_append, h.len]; rfl, fun i hi => ?_, (h.box.below hb (by omega)).put3, hll.putlo (by omega), bput (h.bel.trans (hb.mono (by omega))) (Nat.le_refl _) _, ?_, ?_, by rw [sz_put]; omega⟩
  · by_cases e : i < m
    · rw [List.map_append, List.getElem?_append_left (by rw [List.length_map, h.len]; exact e)]
      exact h.post i e
    · obtain rfl : i = m := by omega
      rw [List.map_append, List.getElem?_append_right (by rw [List.length_map, h.len]; exact Nat.le_refl _), List.length_map, h.len]
      simpa using hp
  · exact (h.keys.keep hb (by omega)).same (fun k k1 k2 => Below.heap_setCell _ _ _ _ (by show k ≠ w1.heap.size; omega))
  · exact (h.tris.keep hb (by omega)).same (fun k hk => Below.heap_setCell _ _ _ _ (by unfold Rng at hk; show k ≠ w1.heap.size; omega))

/-- A segment that lies from block lo on. -/
def SegAt (lo : Nat) (w : World) (v : Value) (base : Int) (xss : List (List Int)) (ks : List Int) (pss : List (List Int)) : Prop :=
  ∃ lv kv pv, v = .agg #[.int .i64 base, lv, kv, pv] ∧ SsF mB 0 (Rng lo w.heap.size) w lv xss ∧ SlW mI 0 lo w.heap.size w kv ks ∧ SsF mI 0 (Rng lo w.heap.size) w pv pss
theorem SegAt.same {lo : Nat} {w w' : World} {v : Value} {base : Int} {xss pss : List (List Int)} {ks : List Int} (h : SegAt lo w v base xss ks pss) (hz : w.heap.size ≤ w'.heap.size) (hs : ∀ k, lo ≤ k → k < w.heap.size → w'.heap[k]? = w.heap[k]?) : SegAt lo w' v base xss ks pss := by
  obtain ⟨lv, kv, pv, e, h1, h2, h3⟩ := h
  exact ⟨lv, kv, pv, e, (h1.same (fun k hk => hs k hk.1 hk.2)).mono (fun k hk => ⟨hk.1, Nat.lt_of_lt_of_le hk.2 hz⟩), (h2.same (fun k k1 k2 => hs k k1 k2)).mono (Nat.le_refl _) hz, (h3.same (fun k hk => hs k hk.1 hk.2)).mono (fun k hk => ⟨hk.1, Nat.lt_of_lt_of_le hk.2 hz⟩)⟩
theorem SegAt.keep {lo m : Nat} {w w' : World} {v : Value} {base : Int} {xss pss : List (List Int)} {ks : List Int} (h : SegAt lo w v base xss ks pss) (hb : Below m w w') (hm : w.heap.size ≤ m) : SegAt lo w' v base xss ks pss := h.same hb.size (fun k _ h2 => hb.block k (by omega))
theorem SegAt.put {lo b o : Nat} {w : World} {v u : Value} {base : Int} {xss pss : List (List Int)} {ks : List Int} (h : SegAt lo w v base xss ks pss) (hb : b < lo) : SegAt lo (w.setCell ⟨b, o, none⟩ u) v base xss ks pss := h.same (by rw [sz_put]; exact Nat.le_refl _) (fun k k1 _ => Below.heap_setCell _ _ _ _ (by show k ≠ b; omega))
theorem SegAt.low {lo lo' : Nat} {w : World} {v : Value} {base : Int} {xss pss : List (List Int)} {ks : List Int} (h : SegAt lo w v base xss ks pss) (hl : lo' ≤ lo) : SegAt lo' w v base xss ks pss := by
  obtain ⟨lv, kv, pv, e, h1, h2, h3⟩ := h
  exact ⟨lv, kv, pv, e, h1.mono (fun k hk => ⟨Nat.le_trans hl hk.1, hk.2⟩), h2.mono hl (Nat.le_refl _), h3.mono (fun k hk => ⟨Nat.le_trans hl hk.1, hk.2⟩)⟩
def SegRet (e : Ending) (w w' : World) (base : Int) (xss : List (List Int)) : Prop := ∃ v ks pss, e = .returned v ∧ SegR base xss ks pss ∧ SegAt w.heap.size w' v base xss ks pss

set_option maxHeartbeats 4000000 in
set_option maxRecDepth 100000 in
theorem l4build_any (base : Int) (v : Value) (xss : List (List Int)) (w : World) (hv : SsAt mB 0 w.heap.size w v xss) (hbb : ∀ x ∈ xss, Bytes x) (hT : tot xss ≤ 1048576) (hL : xss.length ≤ 1048576) (hb0 : 0 ≤ base) (hb1 : base ≤ 1000) :
    Calls Try.prog 20 #[.int .i64 base, v] w fun e w' => SegRet e w w' base xss ∧ Below w.heap.size w w' := by
  obtain ⟨i0, hi, hz0, hz1, hz2⟩ := info_parts Try.zinInt
  obtain ⟨j0, hj, hy0, hy1, hy2⟩ := info_parts Try.zinIntS
  have Hv := hide hv
  have HB := hide hbb
  obtain ⟨a, cap, rfl, hl, hc⟩ := hv
  clear hbb hc
  go_enter Try.func20, Try.ntmps20
  go_wp2_with fail
  have hb00 := below1 w (.cells #[.int .i64 0, .slice none 0 0, .slice none 0 0, .slice none 0 0] 28)
  refine (l4copy_any _ xss _ ((unhide Hv).below hb00 (Nat.le_refl _)) hT hL).mono ?_
  rintro e w1 ⟨lv, rfl, ⟨ps, hp, hll⟩, hb1'⟩
  have hs1 := LB.footR hll
  rw [hp, sz_alloc] at hs1
  have SL := hide hs1
  have hB1 : Below w.heap.size w w1 := hb00.trans (hb1'.mono (by rw [sz_alloc]; omega))
  have RR := hide ((Row4.new w 28 (.int .i64 0) (.slice none 0 0) (.slice none 0 0) (.slice none 0 0)).below hb1' (by rw [sz_alloc]; omega))
  have hz1' : w.heap.size + 1 ≤ w1.heap.size := by have := hb1'.size; rwa [sz_alloc] at this
  obtain ⟨la, lc, rfl, -⟩ := id hs1
  clear hs1 hll hp hb00 hb1'
  go_wp2_with fail
  have hb20 := below1 w1 (.cells #[.int .i64 base, .slice la xss.length lc, .slice none 0 0, .slice none 0 0] 28)
  refine (l4keys_any xss.length _ xss _ (Nat.le_refl _) ((unhide Hv).below (hB1.trans (hb20.mono (by omega))) (Nat.le_refl _)) (unhide HB) hT hL).mono ?_
  rintro e w2 ⟨⟨kv, ks, rfl, hok, hkl, hown2⟩, hb2'⟩
  rw [sz_alloc] at hown2
  have hz2' : w1.heap.size + 1 ≤ w2.heap.size := by have := hb2'.size; rwa [sz_alloc] at this
  have RS2 := (Row4.new w1 28 (.int .i64 base) (.slice la xss.length lc) (.slice none 0 0) (.slice none 0 0)).below hb2' (by rw [sz_alloc]; omega)
  have hB12 : Below w1.heap.size w1 w2 := hb20.trans (hb2'.mono (by rw [sz_alloc]; omega))
  have HK := hide hok
  have hks : ks.length ≤ 1048576 := Nat.le_trans hkl (Nat.le_trans (allT_len xss) hT)
  have hks' := hide hks
  have SK := (own_slw (lo := w1.heap.size + 1) hown2 (Nat.le_refl _) (by unfold maxLen; omega))
  obtain ⟨ka, kc, rfl⟩ := own_is hown2
  obtain ⟨f0, f1, f2, f3, g0, g1, g2, g3⟩ := RS2.facts
  have RS3 := hide (RS2.put2 (u := .slice ka ks.length kc))
  have hB13 : Below w1.heap.size w1 (w2.setCell ⟨w1.heap.size, 2, none⟩ (.slice ka ks.length kc)) := bput hB12 (Nat.le_refl _) _
  have SK3 := hide (SK.same (w' := w2.setCell ⟨w1.heap.size, 2, none⟩ (.slice ka ks.length kc)) (fun k h1 h2 => Below.heap_setCell _ _ _ _ (by show k ≠ w1.heap.size; omega)))
  have hz3 : (w2.setCell ⟨w1.heap.size, 2, none⟩ (.slice ka ks.length kc)).heap.size = w2.heap.size := sz_put _ _ _
  clear hown2 hok hb2' hb20 RS2 SK hB12
  go_wp2_with fail
  obtain ⟨w3, hw3⟩ : ∃ w3, w3 = w2.setCell ⟨w1.heap.size, 2, none⟩ (.slice ka ks.length kc) := ⟨_, rfl⟩
  rw [← hw3] at RS3 hB13 SK3 hz3 ⊢
  have hz3' : w2.heap.size ≤ w3.heap.size := Nat.le_of_eq hz3.symm
  clear hw3 f0 f1 f2 f3 g0 g1 g2 g3 hz3
  have hB3 : Below w.heap.size w w3 := hB1.trans (hB13.mono (by omega))
  go_loopw [6, 7] (fun tv iv wr => ∃ (k : Nat) (ps : List (Cl Int)), k ≤ xss.length ∧ iv = .int .i64 k ∧ TrisP xss k ps ∧ LL mI 0 3 25 w3.heap.size wr tv ps ∧ Below w3.heap.size w3 wr) (fun _ iv _ => xss.length - (intOf iv).toNat)
  case atStart => exact ⟨0, [], Nat.zero_le _, rfl, ⟨rfl, fun i hi => absurd hi (Nat.not_lt_zero _)⟩, LL.nil, Below.refl _ _⟩
  case round =>
    obtain ⟨k, ps, hk, rfl, htp, hll, hb⟩ := hrel
    have hszr := hb.size
    have Hll := hide hll
    have Htp := hide htp
    have hpl : ps.length ≤ 1048576 := by have := htp.1; omega
    obtain ⟨oa, oc, rfl⟩ := own_is hll.own
    clear hll htp
    by_cases hlt : k < xss.length
    · have hlt' : (k : Int) < (xss.length : Int) := by omega
      obtain ⟨_, _, e1, -, hc⟩ := (unhide Hv).below (hB3.trans (hb.mono (by omega))) (Nat.le_refl _)
      cases e1
      obtain ⟨b, off, rfl, hbn, hcell⟩ := hc (by omega)
      obtain ⟨s, hx, hs, -⟩ := hcell k hlt
      have Hs := hide hs
      have ht := tot_get xss k
      have Hb := hide (unhide HB (xss[k]?.getD []) (by rw [List.getElem?_eq_getElem hlt]; exact List.getElem_mem _))
      have Hnx := hide (fun (p : Cl Int) (hp : ∀ z, z ∈ p.xs ↔ z ∈ tr (xss[k]?.getD [])) => (unhide Htp).step hp)
      obtain ⟨sa, sc, rfl, -, -⟩ := hs
      clear hcell hc
      generalize xss[k]?.getD [] = x at *
      go_wp2_with fail
      refine (specTri_own _ x _ (unhide Hs) (unhide Hb) (by omega)).mono ?_
      rintro e w5 ⟨⟨v5, ys, rfl, ho, hle, hown⟩, hb5⟩
      have Hst := hide (LI.push (unhide Hll) hszr hb5 hb hown)
      have Hk := hide ((unhide Hll).keep hb5 (Nat.le_refl _))
      have hz5 := hb5.size
      have Ho := hide ho
      obtain ⟨ya, yc, rfl⟩ := own_is hown
      clear hown ho hb5 Hll
      go_wp2_with (at_builtin; refine wpList_append_own _ rfl _ _ 26 rfl w3.heap.size 25 j0 (.slice none 0 0) 1 24 Try.underlying26 hj hy0 hy1 hy2 rfl (by decide) _ _ _ rfl (World.ownsRow.alloc (w := w5) (unhide Hk).own _) ⟨w5.heap.size, 0, none⟩ 1 1 [.slice ya ys.length yc] rfl rfl ?_ ?_ ?_ ?_ ?_ ?_)
      · exact cell_1 (by simp)
      · intro u hu; simp at hu; subst hu; rfl
      · unfold maxLen; omega
      · omega
      · rw [sz_alloc]; omega
      intro v6 w6 h5 hg5 _
      have h3 := hide (unhide Hst w6 v6 h5 hg5)
      obtain ⟨g3, cap3, rfl⟩ := ownsRow_succ h5
      clear h5 hg5
      go_wp2
      obtain ⟨p, r1, r2, r3⟩ := unhide h3
      exact ⟨⟨k + 1, ps ++ [p], by omega, by go_num, unhide Hnx p (by rw [r1]; exact (unhide Ho).mem), r2, r3⟩, by simp [intOf]; omega⟩
    · obtain rfl : k = xss.length := by omega
      obtain ⟨w4, hw4⟩ : ∃ w4, w4 = wr := ⟨_, rfl⟩
      rw [← hw4] at hb hszr Hll ⊢
      clear hw4
      have hlt' : ¬ ((xss.length : Nat) : Int) < (xss.length : Int) := by omega
      have St0 : Hid (PInv base xss ks w1.heap.size w2.heap.size w3.heap.size w4.heap.size w1 w4 (.slice la xss.length lc) (.slice ka ks.length kc) (.slice oa ps.length oc) (ps.map Cl.xs) 0 (.slice none 0 0) []) :=
        ⟨rfl, fun i hi => absurd hi (Nat.not_lt_zero _), (unhide RS3).below hb (by omega), LL.nil, hB13.trans (hb.mono (by omega)), (unhide SK3).keep hb (by omega), (unhide Hll).foot (by decide) (by unfold maxLen; omega), Nat.le_refl _⟩
      have Hv4 : Hid (SsAt mB 0 w4.heap.size w4 (.slice a xss.length cap) xss) := (unhide Hv).below (hB3.trans (hb.mono (by omega))) (Nat.le_refl _)
      clear Hll RS3 SK3
      go_wp2_with fail
      go_loopw [8] (fun jv wr => ∃ (m : Nat) (pv : Value) (qs : List (Cl Int)), m ≤ ks.length ∧ jv = .int .i64 m ∧ PInv base xss ks w1.heap.size w2.heap.size w3.heap.size w4.heap.size w1 wr (.slice la xss.length lc) (.slice ka ks.length kc) (.slice oa ps.length oc) (ps.map Cl.xs) m pv qs) (fun jv _ => ks.length - (intOf jv).toNat)
      case atStart => exact ⟨0, _, [], Nat.zero_le _, rfl, unhide St0⟩
      case round =>
        obtain ⟨m, pv, qs, hm, rfl, hst⟩ := hrel
        have Hst := hide hst
        obtain ⟨qa, qc, rfl⟩ := own_is hst.ll.own
        obtain ⟨f0, f1, f2, f3, g0, g1, g2, g3⟩ := hst.box.facts
        have hqz := hst.size
        clear hst St0
        by_cases hmk : m < ks.length
        · have hmk' : (m : Int) < (ks.length : Int) := by omega
          obtain ⟨V, hV⟩ : ∃ V, V = wr := ⟨_, rfl⟩
          rw [← hV] at Hst f0 f1 f2 f3 g0 g1 g2 g3 hqz ⊢
          clear hV
          go_wp2_with fail
          go_loopw [9, 10] (fun lv iv wr => ∃ (n : Nat) (l : List Int), n ≤ xss.length ∧ l.length ≤ n ∧ iv = .int .i64 n ∧ PostP base xss (ks[m]?.getD 0) n l ∧ wr.ownsRow V.heap.size 3 1 lv l.length (l.map mI) ∧ Below V.heap.size V wr) (fun _ iv _ => xss.length - (intOf iv).toNat)
          case atStart => exact ⟨0, [], Nat.zero_le _, Nat.le_refl _, rfl, ⟨List.Pairwise.nil, fun x => by simp⟩, World.ownsRow_nil _ _ _ _, Below.refl _ _⟩
          case round =>
            obtain ⟨n, l, hn, hln, rfl, hpp, hown, hbl⟩ := hrel
            have Hpp := hide hpp
            have Hown := hide hown
            have hszl := hbl.size
            obtain ⟨xa, xc, rfl⟩ := own_is hown
            clear hpp hown
            by_cases hnx : n < xss.length
            · have hnx' : (n : Int) < (xss.length : Int) := by omega
              have hz3k : ps.length = xss.length := (unhide Htp).1
              obtain ⟨_, _, e1, -, hct⟩ := ((unhide Hst).tris.keep hbl hqz).all (by omega)
              rw [List.length_map] at e1 hct
              cases e1
              obtain ⟨tb, toff, rfl, htb, hcell⟩ := hct (by omega)
              obtain ⟨tv, hx, hs, -⟩ := hcell n (by omega)
              have Hs := hide hs
              obtain ⟨ta, tc, rfl, -, -⟩ := hs
              have hTm := hide ((unhide Htp).2 n (by omega))
              obtain ⟨_, _, e2, -, hck⟩ := ((unhide Hst).keys.keep hbl (by omega)).all (by omega)
              cases e2
              obtain ⟨kb, koff, rfl, -, hkb, hcellk⟩ := hck (by omega)
              have hxk := hcellk m hmk
              unfold mI at hxk
              have fb := ((unhide Hst).box.below hbl (by omega)).facts.2.2.1
              have hnp : (n : Int) < (ps.length : Int) := by omega
              have Hpy := hide (fun h => (unhide Hpp).yes (k := ks[m]?.getD 0) h)
              have Hpn := hide (fun h => (unhide Hpp).no (k := ks[m]?.getD 0) h)
              have hz3K := hide hz3k
              have hgr : Hid (∀ (q : Nat) (w' : World) (v' : Value), w'.ownsRow V.heap.size 3 1 v' (l.length + 1) (l.map mI ++ [.int .i64 (base + n)]) → ((wr.drewN q).alloc (.cells #[.int .i64 (base + n)] 3)).grownBy w' (Value.slice xa l.length xc).ownBlock → w'.ownsRow V.heap.size 3 1 v' (l ++ [base + n]).length ((l ++ [base + n]).map mI) ∧ Below V.heap.size V w') := fun q w' v' q1 q2 => ord_step (unhide Hown) hbl q1 q2
              clear hcell hct hcellk hck hz3k Hpp f0 f1 f2 f3 g0 g1 g2 g3
              generalize ks[m]?.getD 0 = kk at *
              generalize (ps.map Cl.xs)[n]?.getD [] = ts at *
              generalize tr (xss[n]?.getD []) = tx at *
              by_cases hin : kk ∈ ts
              · have HI := hide hin
                have Hn := hide (unhide Hpy ((unhide hTm kk).1 hin))
                clear hin Hpy Hpn
                go_wp2_with fail
                go_quiet ((go_at_call 40; refine Calls.quiet_of (l2in_yes _ _ _ _ _ (by exact unhide Hs) (Nat.le_refl _) (unhide HI))))
                go_wp2_with (at_builtin; refine wpList_append_own _ rfl _ _ 25 rfl V.heap.size 3 i0 (.int .i64 0) 1 8 Try.underlying25 hi hz0 hz1 hz2 rfl (by decide) _ _ _ rfl (World.ownsRow.alloc (w := wr.drewN nq) (unhide Hown) _) ⟨wr.heap.size, 0, none⟩ 1 1 [.int .i64 (base + n)] rfl rfl ?_ ?_ ?_ ?_ ?_ ?_)
                · refine cell_1 ?_
                  rw [World.cell?_alloc_at _ _ wr.heap.size _ (show wr.heap.size = (wr.drewN nq).heap.size from rfl)]
                  rfl
                · intro u' hu; simp at hu; subst hu; rfl
                · unfold maxLen; omega
                · omega
                · rw [sz_alloc]; show _ ≤ wr.heap.size + 1; omega
                intro v' w8 h5 hg5 _
                have hst := hide (unhide hgr nq w8 v' h5 hg5)
                clear h5 hg5
                go_wp2
                go_roundw
                case rel => exact ⟨n + 1, _, by omega, by simp; omega, by go_num, unhide Hn, (unhide hst).1, (unhide hst).2⟩
                case measure => simp [intOf]; omega
              · have HI := hide hin
                have Hn := hide (unhide Hpn (fun h => hin ((unhide hTm kk).2 h)))
                clear hin Hpy Hpn
                go_wp2_with fail
                go_quiet ((go_at_call 40; refine Calls.quiet_of (l2in_no _ _ _ _ _ (by exact unhide Hs) (Nat.le_refl _) (unhide HI))))
                go_wp2
                go_roundw
                case rel => exact ⟨n + 1, l, by omega, by omega, by go_num, unhide Hn, unhide Hown, below_drewN hbl _⟩
                case measure => simp [intOf]; omega
            · obtain rfl : n = xss.length := by omega
              have Hpost : Hid (PostR base xss (ks[m]?.getD 0) l) := unhide Hpp
              have hbx := ((unhide Hst).box.below hbl (by omega)).facts
              have fb3 := hbx.2.2.2.1
              have gb3 := hbx.2.2.2.2.2.2.2
              have Hpu := hide (LI.push (unhide Hst).ll (by omega) hbl (Below.refl _ V) (unhide Hown))
              have Hkp := hide ((unhide Hst).ll.keep hbl (Nat.le_refl _))
              have Hfx : Hid (∀ w' : World, Below w4.heap.size V w' → w'.cell? ⟨w1.heap.size, 3, none⟩ = some (.slice qa qs.length qc) ∧ w'.frozen? ⟨w1.heap.size, 3, none⟩ = false) := fun w' hb' => by
                have := ((unhide Hst).box.below hb' (by omega)).facts
                exact ⟨this.2.2.2.1, this.2.2.2.2.2.2.2⟩
              have hql : qs.length ≤ 1048576 := by have := (unhide Hst).len; omega
              clear hbx Hpp f0 f1 f2 f3 g0 g1 g2 g3
              go_wp2_with (at_builtin; refine wpList_append_own _ rfl _ _ 26 rfl w4.heap.size 25 j0 (.slice none 0 0) 1 24 Try.underlying26 hj hy0 hy1 hy2 rfl (by decide) _ _ _ rfl (World.ownsRow.alloc (w := wr) (unhide Hkp).own _) ⟨wr.heap.size, 0, none⟩ 1 1 [.slice xa l.length xc] rfl rfl (cell_1 (by simp)) (by intro u hu; simp at hu; subst hu; rfl) (by unfold maxLen; omega) (by omega) (by rw [sz_alloc]; omega) ?_; intro v7 w7 h5 hg5 _; have h7 := hide (unhide Hpu w7 v7 h5 hg5); obtain ⟨gg, cap7, rfl⟩ := ownsRow_succ h5; obtain ⟨f7, g7⟩ := unhide Hfx w7 (by obtain ⟨_, _, _, r⟩ := unhide h7; exact r); clear h5 hg5)
              obtain ⟨p, r1, r2, r3⟩ := unhide h7
              have hnew := (unhide Hst).step (by omega) hz3' (by omega) (p := p) (by rw [r1]; exact unhide Hpost) r2 r3
              exact ⟨⟨m + 1, _, _, by omega, by go_num, hnew⟩, by simp [intOf]; omega⟩
        · have hmk' : ¬ (m : Int) < (ks.length : Int) := by omega
          have Hseg : Hid (SegR base xss ks (qs.map Cl.xs)) := ⟨unhide HK, by rw [List.length_map, (unhide Hst).len]; omega, fun j hj => (unhide Hst).post j (by omega)⟩
          obtain ⟨r0, r1, r2, r3, s0, s1, s2, s3⟩ := ((unhide RR).below (unhide Hst).bel (by omega)).facts
          have hRR := hide ((unhide RR).below (unhide Hst).bel (by omega))
          clear f0 f1 f2 f3 g0 g1 g2 g3
          obtain ⟨f0, f1, f2, f3, g0, g1, g2, g3⟩ := (unhide Hst).box.facts
          go_wp2_with fail
          obtain ⟨e0, e1, e2, e3, -⟩ := ((((unhide hRR).put0 (u := .int .i64 base)).put1 (u := .slice la xss.length lc)).put2 (u := .slice ka ks.length kc)).put3 (u := .slice qa qs.length qc) |>.facts
          have hblk : ∀ k, k ≠ w.heap.size → ((((wr.setCell ⟨w.heap.size, 0, none⟩ (.int .i64 base)).setCell ⟨w.heap.size, 1, none⟩ (.slice la xss.length lc)).setCell ⟨w.heap.size, 2, none⟩ (.slice ka ks.length kc)).setCell ⟨w.heap.size, 3, none⟩ (.slice qa qs.length qc)).heap[k]? = wr.heap[k]? := fun k hk => by
            rw [Below.heap_setCell _ _ _ _ (by exact hk), Below.heap_setCell _ _ _ _ (by exact hk), Below.heap_setCell _ _ _ _ (by exact hk), Below.heap_setCell _ _ _ _ (by exact hk)]
          have hBf : Below w.heap.size w ((((wr.setCell ⟨w.heap.size, 0, none⟩ (.int .i64 base)).setCell ⟨w.heap.size, 1, none⟩ (.slice la xss.length lc)).setCell ⟨w.heap.size, 2, none⟩ (.slice ka ks.length kc)).setCell ⟨w.heap.size, 3, none⟩ (.slice qa qs.length qc)) := bput (bput (bput (bput (hB1.trans ((unhide Hst).bel.mono (by omega))) (Nat.le_refl _) _) (Nat.le_refl _) _) (Nat.le_refl _) _) (Nat.le_refl _) _
          have hll := ((((unhide Hst).ll.putlo (B := w.heap.size) (o := 0) (u := .int .i64 base) (by omega)).putlo (B := w.heap.size) (o := 1) (u := .slice la xss.length lc) (by omega)).putlo (B := w.heap.size) (o := 2) (u := .slice ka ks.length kc) (by omega)).putlo (B := w.heap.size) (o := 3) (u := .slice qa qs.length qc) (by omega)
          have hsz : w1.heap.size ≤ wr.heap.size := (unhide Hst).bel.size
          have hszf : ((((wr.setCell ⟨w.heap.size, 0, none⟩ (.int .i64 base)).setCell ⟨w.heap.size, 1, none⟩ (.slice la xss.length lc)).setCell ⟨w.heap.size, 2, none⟩ (.slice ka ks.length kc)).setCell ⟨w.heap.size, 3, none⟩ (.slice qa qs.length qc)).heap.size = wr.heap.size := by simp only [sz_put]
          refine bodyPost_ret (v := .agg #[.int .i64 base, .slice la xss.length lc, .slice ka ks.length kc, .slice qa qs.length qc]) (by simp [results, Try.results20, go_sem, e0, e1, e2, e3]) rfl ⟨⟨_, ks, qs.map Cl.xs, rfl, unhide Hseg, ⟨_, _, _, rfl, ?_, ?_, ?_⟩⟩, hBf⟩
          · refine ((unhide SL).same (fun k hk => ?_)).mono (fun k hk => ⟨by have := hk.1; omega, by rw [hszf]; exact Nat.lt_of_lt_of_le hk.2 hsz⟩)
            unfold Rng at hk
            rw [hblk k (by omega), (unhide Hst).bel.block k (by omega)]
          · exact ((unhide Hst).keys.same (fun k k1 k2 => hblk k (by omega))).mono (by omega) (by rw [hszf]; omega)
          · exact (LI.footR hll).mono (fun k hk => ⟨by have := hk.1; omega, hk.2⟩)

end Go.Proofs.Ytkajdhliejjohaa

namespace Go.Proofs.Ytkajdhliejjohaa
open Go.RowKit

/-- What building a segment answers: by the model. -/
def BuildRet (e : Ending) (w w' : World) (base : Int) (xss : List (List Int)) : Prop :=
  (Fits base xss ∧ ∃ v ks pss, e = .returned (.tuple #[v, .int .i64 0]) ∧ SegR base xss ks pss ∧ SegAt w.heap.size w' v base xss ks pss) ∨ (¬ Fits base xss ∧ e = .returned (.tuple #[.agg #[.int .i64 0, .slice none 0 0, .slice none 0 0, .slice none 0 0], .int .i64 4]))

theorem ix_iff (x : List Int) : ix x < 0 ↔ 10 ∉ x := by
  induction x with
  | nil => simp [ix, hd]
  | cons y r ih =>
    have h1 := ix_lo r
    rw [ix_cons]
    by_cases e : y = 10
    · subst e; simp
    · rw [if_neg e]
      by_cases h2 : ix r = -1
      · rw [if_pos h2]
        have := ih.1 (by omega)
        simp [this, Ne.symm e]
      · rw [if_neg h2]
        have h3 : ¬ ix r < 0 := by omega
        have h4 : 10 ∈ r := by
          by_cases q : 10 ∈ r
          · exact q
          · exact absurd (ih.2 q) h3
        simp [h4]
        omega
theorem not_mem_get {x : List Int} (h : 10 ∉ x) : ∀ j : Nat, j < x.length → x[j]?.getD 0 ≠ 10 := fun j hj e => h (mem_get.2 ⟨j, hj, e⟩)

theorem holdsNewline_any (v : Value) (x : List Int) (N : Nat) (w : World) (hv : SlAt mB 0 0 N w v x) (hb : Bytes x) :
    Calls Try.prog 49 #[v] w fun e w' => e = .returned (.bool (decide (0 ≤ ix x))) ∧ w' = w := by
  have HV := hide hv
  obtain ⟨a, cap, rfl, -, -⟩ := hv
  have hB := hide hb
  clear hb
  go_enter Try.func49, Try.ntmps49
  go_wp2_with fail
  refine (indexByte_any _ x _ _ (unhide HV) (unhide hB)).mono ?_
  rintro e w2 ⟨rfl, rfl⟩
  go_wp2
  go_ret
  exact ⟨rfl, rfl⟩

set_option maxHeartbeats 2000000 in
set_option maxRecDepth 100000 in
theorem fitSegment_any (base : Int) (v : Value) (xss : List (List Int)) (w : World) (hv : SsAt mB 0 w.heap.size w v xss) (hbb : ∀ x ∈ xss, Bytes x) (hT : tot xss ≤ 1048576) (hL : xss.length ≤ 1048576) (hb0 : -9223372036854775808 ≤ base) (hb1 : base ≤ 9223372036854775807) :
    Calls Try.prog 26 #[.int .i64 base, v] w fun e w' => RetB e (Fits base xss) ∧ ∃ q, w' = w.drewN q := by
  have Hv := hide hv
  have HB := hide hbb
  obtain ⟨a, cap, rfl, hl, hc⟩ := hv
  clear hbb
  by_cases h1 : base < 0
  · have HN : Hid (¬ Fits base xss) := fun h => by obtain ⟨q1, q2, q3, -⟩ := h; omega
    clear hc
    go_enter Try.func26, Try.ntmps26
    go_wp2
    go_ret
    exact ⟨RetB.no (unhide HN), 0, rfl⟩
  · have k1 : IntKind.i64.wrap (1000 - base) = 1000 - base := k64i (by omega) (by omega)
    by_cases h2 : xss.length = 0
    · have HN : Hid (¬ Fits base xss) := fun h => by obtain ⟨q1, q2, q3, -⟩ := h; omega
      clear hc
      rw [h2]
      go_enter Try.func26, Try.ntmps26
      go_wp2
      go_ret
      exact ⟨RetB.no (unhide HN), 0, rfl⟩
    · have h2' : ((xss.length : Int) == 0) = false := by rw [beq_eq_false_iff_ne]; omega
      by_cases h3 : 1000 - base < (xss.length : Int)
      · have HN : Hid (¬ Fits base xss) := fun h => by obtain ⟨q1, q2, q3, -⟩ := h; omega
        clear hc
        go_enter Try.func26, Try.ntmps26
        go_wp2
        go_ret
        exact ⟨RetB.no (unhide HN), 0, rfl⟩
      · have hx1 : base + (xss.length : Int) ≤ 1000 := by omega
        go_enter Try.func26, Try.ntmps26
        go_wp2_with fail
        go_loopw [5, 24] (fun rv iv wr => (∃ k : Nat, k ≤ xss.length ∧ iv = .int .i64 k ∧ rv = .int .i64 (20000 - (tot (xss.take k) : Int)) ∧ tot (xss.take k) ≤ 20000 ∧ ∀ i : Nat, i < k → ∀ j : Nat, j < (xss[i]?.getD []).length → (xss[i]?.getD [])[j]?.getD 0 ≠ 10) ∧ ∃ q, wr = w.drewN q) (fun _ iv _ => xss.length - (intOf iv).toNat)
        case atStart => exact ⟨⟨0, Nat.zero_le _, rfl, by simp [tot], by simp [tot], fun i hi => absurd hi (Nat.not_lt_zero _)⟩, 0, rfl⟩
        case round =>
          obtain ⟨⟨k, hk, rfl, rfl, htk, hp⟩, q, rfl⟩ := hrel
          have Hp := hide hp
          clear hp
          by_cases hlt : k < xss.length
          · have hlt' : (k : Int) < (xss.length : Int) := by omega
            obtain ⟨b, off, rfl, hbn, hcell⟩ := hc (by omega)
            obtain ⟨s, hx, hs, -⟩ := hcell k hlt
            have Hs : Hid (SlAt mB 0 0 w.heap.size (w.drewN q) s (xss[k]?.getD [])) := hs
            obtain ⟨sa, sc, rfl, -, -⟩ := hs
            have ht1 := hide (tot_step xss k hlt)
            have ht2 := tot_take xss (k + 1)
            have ht3 := tot_get xss k
            have Hb := hide (unhide HB (xss[k]?.getD []) (by rw [List.getElem?_eq_getElem hlt]; exact List.getElem_mem _))
            have Hno : Hid (10 ∈ (xss[k]?.getD []) → ¬ Plain xss) := fun h hpl => by
              obtain ⟨j, hj, e⟩ := mem_get.1 h
              exact hpl k hlt j hj e
            have Hyes : Hid (10 ∉ (xss[k]?.getD []) → ∀ i : Nat, i < k + 1 → ∀ j : Nat, j < (xss[i]?.getD []).length → (xss[i]?.getD [])[j]?.getD 0 ≠ 10) := fun h i hi => by
              by_cases e : i = k
              · subst e; exact not_mem_get h
              · exact unhide Hp i (by omega)
            clear hcell hc Hp
            generalize xss[k]?.getD [] = x at *
            by_cases hr : 20000 - (tot (xss.take k) : Int) < (x.length : Int)
            · have HN : Hid (¬ Fits base xss) := fun h => by
                obtain ⟨_, _, _, _, q5⟩ := h
                have := unhide ht1
                omega
              generalize 20000 - (tot (xss.take k) : Int) = rm at *
              go_wp2
              go_ret
              exact ⟨RetB.no (unhide HN), _, rfl⟩
            · have hrm : Hid (tot (xss.take (k + 1)) ≤ 20000 ∧ 20000 - (tot (xss.take (k + 1)) : Int) = 20000 - (tot (xss.take k) : Int) - (x.length : Int)) := by
                have := unhide ht1
                exact ⟨by omega, by omega⟩
              have hr0 : (0 : Int) ≤ 20000 - (tot (xss.take k) : Int) := by omega
              have hr1 : 20000 - (tot (xss.take k) : Int) ≤ 20000 := by omega
              generalize 20000 - (tot (xss.take k) : Int) = rm at *
              clear ht2 htk
              by_cases h10 : ix x < 0
              · have HN := hide (unhide Hyes ((ix_iff x).1 h10))
                have hd0 : decide (0 ≤ ix x) = false := decide_eq_false (by omega)
                have hd1 : ¬ (0 ≤ ix x) := by omega
                go_wp2_with fail
                refine (holdsNewline_any _ x _ _ (unhide Hs) (unhide Hb)).mono ?_
                rintro e w2 ⟨rfl, rfl⟩
                rw [hd0]
                go_wp2
                go_roundw
                case rel => exact ⟨⟨k + 1, by omega, by go_num, by rw [(unhide hrm).2], (unhide hrm).1, unhide HN⟩, _, rfl⟩
                case measure => simp [intOf]; omega
              · have HN : Hid (¬ Fits base xss) := fun h => by
                  obtain ⟨_, _, _, q4, _⟩ := h
                  refine unhide Hno ?_ q4
                  by_cases q : 10 ∈ x
                  · exact q
                  · exact absurd ((ix_iff x).2 q) h10
                have hd1 : decide (0 ≤ ix x) = true := decide_eq_true (by omega)
                go_wp2_with fail
                refine (holdsNewline_any _ x _ _ (unhide Hs) (unhide Hb)).mono ?_
                rintro e w2 ⟨rfl, rfl⟩
                rw [hd1]
                go_wp2
                go_ret
                exact ⟨RetB.no (unhide HN), _, rfl⟩
          · obtain rfl : k = xss.length := by omega
            have HY : Hid (Fits base xss) := ⟨by omega, by omega, by omega, unhide Hp, by rw [List.take_length] at htk; exact htk⟩
            clear hc
            go_wp2
            go_ret
            exact ⟨RetB.yes (unhide HY), _, rfl⟩

end Go.Proofs.Ytkajdhliejjohaa
