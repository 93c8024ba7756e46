import Derived.Test.YtkajdhliejjohaaP3
import Derived.Test.YtkajdhliejjohaaP1
import Derived.Lib.SlicesCompact
import Derived.OwnWalk
import Derived.WalkKit
import Derived.Shelf.RegionOpenPlain
namespace Go.Proofs.Ytkajdhliejjohaa
open Go.RowKit

theorem Try.zinByteS : (Try.prog.info? 22).map (fun i => (i.zero, i.size, i.bytes)) = some (some (.slice none 0 0), 1, 24) := by kernel_rfl

end Go.Proofs.Ytkajdhliejjohaa

namespace Go.Proofs.Ytkajdhliejjohaa
open Go.RowKit

/-- The first line of a text. -/
def hd (xs : List Int) : List Int := xs.takeWhile (fun x => x != 10)
theorem hd_len (xs : List Int) : (hd xs).length ≤ xs.length := by
  unfold hd
  induction xs with
  | nil => simp
  | cons x r ih =>
    rw [List.takeWhile_cons]
    split
    · simp; omega
    · simp
theorem hd_take (ys : List Int) (m : Nat) (h1 : m ≤ ys.length) (h2 : ∀ j : Nat, j < m → ys[j]?.getD 0 ≠ 10) (h3 : m = ys.length ∨ ys[m]?.getD 0 = 10) : hd ys = ys.take m := by
  unfold hd
  induction ys generalizing m with
  | nil => simp
  | cons y r ih =>
    cases m with
    | zero =>
      have h4 : y = 10 := by
        rcases h3 with h3 | h3
        · simp at h3
        · simpa using h3
      subst h4
      simp
    | succ m =>
      have h4 : y ≠ 10 := by simpa using h2 0 (by omega)
      rw [List.takeWhile_cons, if_pos (by simpa using h4), List.take_succ_cons]
      congr 1
      refine ih m (by simpa using h1) (fun j hj => by simpa using h2 (j + 1) (by omega)) ?_
      rcases h3 with h3 | h3
      · exact Or.inl (by simpa using h3)
      · exact Or.inr (by simpa using h3)

/-- The lines of a text. -/
def lnsF : Nat → List Int → List (List Int)
  | 0, _ => []
  | n + 1, xs => if xs = [] then [] else hd xs :: lnsF n (xs.drop ((hd xs).length + 1))
theorem lnsF_nil (n : Nat) : lnsF n [] = [] := by cases n <;> simp [lnsF]
theorem lnsF_same (n : Nat) : ∀ (m : Nat) (xs : List Int), xs.length ≤ n → xs.length ≤ m → lnsF n xs = lnsF m xs := by
  induction n with
  | zero =>
    intro m xs h _
    rw [List.eq_nil_of_length_eq_zero (by omega : xs.length = 0), lnsF_nil, lnsF_nil]
  | succ n ih =>
    intro m xs h hm
    by_cases e : xs = []
    · subst e
      rw [lnsF_nil, lnsF_nil]
    · have hp : 0 < xs.length := List.length_pos_iff.2 e
      obtain ⟨m', rfl⟩ : ∃ m', m = m' + 1 := ⟨m - 1, by omega⟩
      simp only [lnsF, e, if_false]
      rw [ih m' _ (by simp; omega) (by simp; omega)]
def lns (xs : List Int) : List (List Int) := lnsF xs.length xs
theorem lns_nil : lns [] = [] := rfl
theorem lns_cons {xs : List Int} (h : xs ≠ []) : lns xs = hd xs :: lns (xs.drop ((hd xs).length + 1)) := by
  have hp : 0 < xs.length := List.length_pos_iff.2 h
  unfold lns
  obtain ⟨m, e⟩ : ∃ m, xs.length = m + 1 := ⟨xs.length - 1, by omega⟩
  rw [e]
  simp only [lnsF, h, if_false]
  rw [lnsF_same m _ _ (by simp; omega) (Nat.le_refl _)]
theorem lnsF_len (n : Nat) : ∀ xs : List Int, (lnsF n xs).length ≤ xs.length ∧ tot (lnsF n xs) ≤ xs.length := by
  induction n with
  | zero => intro xs; simp [lnsF, tot]
  | succ n ih =>
    intro xs
    by_cases e : xs = []
    · subst e; simp [lnsF, tot]
    · have hp : 0 < xs.length := List.length_pos_iff.2 e
      have h1 := ih (xs.drop ((hd xs).length + 1))
      have h2 := hd_len xs
      simp only [lnsF, e, if_false, List.length_cons, tot]
      rw [List.length_drop] at h1
      omega
theorem lns_len (xs : List Int) : (lns xs).length ≤ xs.length := (lnsF_len _ xs).1
theorem lns_tot (xs : List Int) : tot (lns xs) ≤ xs.length := (lnsF_len _ xs).2

theorem drop_get (xs : List Int) (k j : Nat) : (xs.drop k)[j]?.getD 0 = xs[k + j]?.getD 0 := by rw [List.getElem?_drop]

/-- One byte more. -/
theorem grow_byte {base : Nat} {wr W w' : World} {v v' : Value} {os : List Int} {u : Int} {o : Obj} (hown : wr.ownsRow base 5 1 v os.length (os.map mB)) (hbase : base ≤ wr.heap.size) (hP : Pushd wr W o)
    (h1 : w'.ownsRow base 5 1 v' (os.length + 1) (os.map mB ++ [.int .u8 u])) (hg : W.grownBy w' v.ownBlock) :
    w'.ownsRow base 5 1 v' (os ++ [u]).length ((os ++ [u]).map mB) ∧ Below base wr w' := by
  refine ⟨by rw [List.length_append, List.map_append]; exact h1, (hP.below.mono hbase).grown hg (by rw [hP.size]; omega) (fun k hk => (hown.lt k hk).1)⟩

/-- What lists of lines are. -/
abbrev LB (base : Nat) (w : World) (v : Value) (ps : List (Cl Int)) : Prop := LL mB 0 5 22 base w v ps

/-- The part of a line that is read. -/
def LineAt (bs : List Int) (k n : Nat) (ls : List Int) : Prop := ls = (bs.drop k).take (n - k) ∧ ls.length = n - k ∧ n ≤ bs.length ∧ ∀ j : Nat, j < n - k → bs[k + j]?.getD 0 ≠ 10
theorem LineAt.start (bs : List Int) (k : Nat) (h : k ≤ bs.length) : LineAt bs k k [] := ⟨by simp, by simp, h, fun j hj => by omega⟩
theorem LineAt.len {bs ls : List Int} {k n : Nat} (h : LineAt bs k n ls) : ls.length = n - k := h.2.1
theorem LineAt.hd {bs ls : List Int} {k n : Nat} (h : LineAt bs k n ls) (he : n = bs.length ∨ bs[n]?.getD 0 = 10) (hk : k ≤ n) : hd (bs.drop k) = ls := by
  rw [h.1]
  have := h.2.2.1
  refine hd_take _ _ (by simp; omega) (fun j hj => by rw [drop_get]; exact h.2.2.2 j hj) ?_
  rcases he with he | he
  · exact Or.inl (by simp; omega)
  · exact Or.inr (by rw [drop_get, show k + (n - k) = n by omega]; exact he)
theorem LineAt.step {bs ls : List Int} {k n : Nat} (h : LineAt bs k n ls) (hk : k ≤ n) (hn : n < bs.length) (hx : bs[n]?.getD 0 ≠ 10) : LineAt bs k (n + 1) (ls ++ [bs[n]?.getD 0]) := by
  refine ⟨?_, by rw [List.length_append, h.2.1]; simp; omega, by omega, fun j hj => ?_⟩
  · rw [show n + 1 - k = n - k + 1 by omega, List.take_add_one, ← h.1, List.getElem?_drop, show k + (n - k) = n by omega, List.getElem?_eq_getElem hn]
    rfl
  · by_cases e : j < n - k
    · exact h.2.2.2 j e
    · rw [show k + j = n by omega]; exact hx

/-- One line more. -/
theorem split_out {bs ls : List Int} {k n : Nat} {ps : List (Cl Int)} {w V wr : World} {ov lv : Value} (Hll : LB w.heap.size V ov ps) (hszr : w.heap.size ≤ V.heap.size) (Hown : wr.ownsRow V.heap.size 5 1 lv ls.length (ls.map mB)) (hbl : Below V.heap.size V wr) (hb : Below w.heap.size w V)
    (Hln : ps.map Cl.xs ++ lns (bs.drop k) = lns bs) (hlt : k < bs.length) (Hla : LineAt bs k n ls) (hend : n = bs.length ∨ bs[n]?.getD 0 = 10) (hkn : k ≤ n) (w' : World) (v' : Value) (g1 : w'.ownsRow w.heap.size 22 1 v' (ps.length + 1) (ps.map Cl.v ++ [lv])) (g2 : (wr.alloc (.cells #[lv] 22)).grownBy w' ov.ownBlock) :
    ∃ p : Cl Int, (ps ++ [p]).map Cl.xs ++ lns (bs.drop (n + 1)) = lns bs ∧ LB w.heap.size w' v' (ps ++ [p]) ∧ Below w.heap.size w w' := by
  have hszl := hbl.size
  obtain ⟨pb, hp, hplo⟩ := own_cl Hown
  have hll' := Hll.keep hbl (Nat.le_refl _)
  obtain ⟨r1, r2⟩ := hll'.app (by decide) (Nat.le_trans hszr hszl) hp (fun h => Nat.le_trans hszr (hplo h)) (fun q hq hq0 hp0 e => by
    have h1 := (Hll.ok q hq).lt hq0
    have h2 := hplo hp0
    rw [e] at h1
    exact absurd h1 (Nat.not_lt.2 h2)) (pushd_alloc wr _) g1 g2
  refine ⟨_, ?_, r1, (hb.trans (hbl.mono hszr)).trans r2⟩
  rw [← Hln, List.map_append, List.append_assoc, lns_cons (xs := bs.drop k) (by intro e; have := congrArg List.length e; simp at this; omega), Hla.hd hend hkn, List.drop_drop, Hla.len, show k + (n - k + 1) = n + 1 by omega]
  rfl

def SplR (e : Ending) (w w' : World) (bs : List Int) : Prop := ∃ v' ps, e = .returned v' ∧ ps.map Cl.xs = lns bs ∧ LB w.heap.size w' v' ps ∧ Below w.heap.size w w'

end Go.Proofs.Ytkajdhliejjohaa

namespace Go.Proofs.Ytkajdhliejjohaa
open Go.RowKit

/-- Ascending, each once. -/
def Asc (ys : List Int) : Prop := ys.Pairwise (· < ·)
/-- ys is xs in ascending order, each number once. -/
structure Ord (xs ys : List Int) : Prop where
  asc : Asc ys
  mem : ∀ z, z ∈ ys ↔ z ∈ xs

theorem asc_uniq : ∀ {xs ys : List Int}, Asc xs → Asc ys → (∀ z, z ∈ xs ↔ z ∈ ys) → xs = ys
  | [], [], _, _, _ => rfl
  | [], y :: ys, _, _, h => absurd ((h y).2 (by simp)) (by simp)
  | x :: xs, [], _, _, h => absurd ((h x).1 (by simp)) (by simp)
  | x :: xs, y :: ys, hx, hy, h => by
    have hx' := List.pairwise_cons.1 hx
    have hy' := List.pairwise_cons.1 hy
    have e : x = y := by
      have h1 := (h x).1 (by simp)
      have h2 := (h y).2 (by simp)
      rcases List.mem_cons.1 h1 with e | m1
      · exact e
      · rcases List.mem_cons.1 h2 with e | m2
        · exact e.symm
        · have a := hx'.1 y m2
          have b := hy'.1 x m1
          omega
    subst e
    congr 1
    refine asc_uniq hx'.2 hy'.2 (fun z => ⟨fun m => ?_, fun m => ?_⟩)
    · rcases List.mem_cons.1 ((h z).1 (List.mem_cons_of_mem _ m)) with e | m'
      · have := hx'.1 z m; omega
      · exact m'
    · rcases List.mem_cons.1 ((h z).2 (List.mem_cons_of_mem _ m)) with e | m'
      · have := hy'.1 z m; omega
      · exact m'

theorem Ord.uniq {xs ys zs : List Int} (h : Ord xs ys) (k : Ord xs zs) : ys = zs := asc_uniq h.asc k.asc (fun z => (h.mem z).trans (k.mem z).symm)
theorem Ord.congr {xs xs' ys : List Int} (h : Ord xs ys) (hm : ∀ z, z ∈ xs ↔ z ∈ xs') : Ord xs' ys := ⟨h.asc, fun z => (h.mem z).trans (hm z)⟩
theorem Ord.nil : Ord [] [] := ⟨List.Pairwise.nil, fun _ => Iff.rfl⟩
theorem Ord.small {xs : List Int} (h : xs.length < 2) : Ord xs xs := by
  refine ⟨?_, fun _ => Iff.rfl⟩
  match xs, h with
  | [], _ => exact List.Pairwise.nil
  | [x], _ => exact List.pairwise_singleton _ _

theorem mem_get {xs : List Int} {z : Int} : z ∈ xs ↔ ∃ k : Nat, k < xs.length ∧ xs[k]?.getD 0 = z := by
  rw [List.mem_iff_getElem]
  constructor
  · rintro ⟨k, hk, rfl⟩
    exact ⟨k, hk, by simp [hk]⟩
  · rintro ⟨k, hk, rfl⟩
    exact ⟨k, hk, by simp [hk]⟩

theorem asc_get {xs : List Int} (h : Asc xs) {i j : Nat} (hij : i < j) (hj : j < xs.length) : xs[i]?.getD 0 < xs[j]?.getD 0 := by
  have := List.pairwise_iff_getElem.1 h i j (by omega) hj hij
  simpa [show i < xs.length by omega, hj] using this

/-- Sorted and with repeated neighbours dropped. -/
theorem ord_compact (zs : List Int) : Ord zs (Lib.compact (zs.mergeSort fun x y => decide (x ≤ y))) := by
  have hs : (zs.mergeSort fun x y => decide (x ≤ y)).Pairwise (fun x y => decide (x ≤ y) = true) :=
    List.pairwise_mergeSort (fun a b c h1 h2 => by simp only [decide_eq_true_eq] at *; omega) (fun a b => by simp only [Bool.or_eq_true, decide_eq_true_eq]; omega) zs
  have hm : ∀ z, z ∈ (zs.mergeSort fun x y => decide (x ≤ y)) ↔ z ∈ zs := fun z => List.mem_mergeSort
  generalize (zs.mergeSort fun x y => decide (x ≤ y)) = d at hs hm
  have hle : ∀ i j : Nat, i ≤ j → j < d.length → d.toArray[i]! ≤ d.toArray[j]! := by
    intro i j hij hj
    by_cases e : i = j
    · subst e; exact Int.le_refl _
    · have := List.pairwise_iff_getElem.1 hs i j (by omega) hj (by omega)
      simpa [getElem!_pos, show i < d.length by omega, hj] using this
  refine ⟨?_, fun z => ?_⟩
  · unfold Asc Lib.compact Lib.compactUpTo
    rw [List.pairwise_map]
    have h1 : ((List.range d.length).filter (Lib.keeps d.toArray)).Pairwise (· < ·) := List.Pairwise.filter _ List.pairwise_lt_range
    refine List.Pairwise.imp_of_mem ?_ h1
    intro i j hi hj hij
    rw [List.mem_filter, List.mem_range] at hi hj
    have hk := hj.2
    have h2 := hle i (j - 1) (by omega) (by omega)
    have h3 := hle (j - 1) j (by omega) hj.1
    have h4 : d.toArray[j]! ≠ d.toArray[j - 1]! := fun e => by rw [Lib.keeps_neg (by omega) e] at hk; cases hk
    omega
  · rw [← hm z]
    unfold Lib.compact Lib.compactUpTo
    simp only [List.mem_map, List.mem_filter, List.mem_range]
    constructor
    · rintro ⟨j, ⟨hj, -⟩, rfl⟩
      simp [getElem!_pos, hj]
    · intro hz
      obtain ⟨j, hj, e⟩ := List.mem_iff_getElem.1 hz
      have : ∀ n : Nat, ∀ j : Nat, j ≤ n → j < d.length → d.toArray[j]! = z → ∃ a, (a < d.length ∧ Lib.keeps d.toArray a = true) ∧ d.toArray[a]! = z := by
        intro n
        induction n with
        | zero => intro j h1 h2 h3; exact ⟨j, ⟨h2, Lib.keeps_lt_one _ _ (by omega)⟩, h3⟩
        | succ n ih =>
          intro j h1 h2 h3
          by_cases hj0 : j = 0
          · exact ⟨j, ⟨h2, Lib.keeps_lt_one _ _ (by omega)⟩, h3⟩
          · by_cases e2 : d.toArray[j]! = d.toArray[j - 1]!
            · exact ih (j - 1) (by omega) (by omega) (by rw [← e2, h3])
            · exact ⟨j, ⟨h2, Lib.keeps_pos e2⟩, h3⟩
      exact this j j (Nat.le_refl _) hj (by simp [getElem!_pos, hj, e])

/-- Two ascending lists that are merged: os is what has come. -/
structure MInv (x y os : List Int) (i j : Nat) : Prop where
  asc : Asc os
  mem : ∀ z, z ∈ os ↔ z ∈ x.take i ∨ z ∈ y.take j
  lx : ∀ z, z ∈ os → ∀ k, i ≤ k → k < x.length → z ≤ x[k]?.getD 0
  ly : ∀ z, z ∈ os → ∀ k, j ≤ k → k < y.length → z ≤ y[k]?.getD 0

theorem MInv.swap {x y os : List Int} {i j : Nat} (h : MInv x y os i j) : MInv y x os j i := ⟨h.asc, fun z => (h.mem z).trans Or.comm, h.ly, h.lx⟩
theorem MInv.start (x y : List Int) : MInv x y [] 0 0 := ⟨List.Pairwise.nil, fun z => by simp, fun z h => by simp at h, fun z h => by simp at h⟩
theorem take_succ_mem {x : List Int} {i : Nat} (h : i < x.length) (z : Int) : z ∈ x.take (i + 1) ↔ z ∈ x.take i ∨ z = x[i]?.getD 0 := by
  rw [List.take_add_one, List.mem_append]
  simp [h]

/-- The next of x is no new number. -/
theorem MInv.skip {x y os : List Int} {i j : Nat} (h : MInv x y os i j) (hi : i < x.length) (hin : x[i]?.getD 0 ∈ os) : MInv x y os (i + 1) j := by
  refine ⟨h.asc, fun z => ?_, fun z hz k h1 h2 => h.lx z hz k (by omega) h2, h.ly⟩
  rw [take_succ_mem hi, h.mem z]
  constructor
  · rintro (a | a)
    · exact Or.inl (Or.inl a)
    · exact Or.inr a
  · rintro ((a | a) | a)
    · exact Or.inl a
    · subst a; exact (h.mem _).1 hin
    · exact Or.inr a
/-- The next of x is a new number. -/
theorem MInv.next {x y os : List Int} {i j : Nat} (h : MInv x y os i j) (hx : Asc x) (hy : Asc y) (hi : i < x.length) (hlt : ∀ z, z ∈ os → z ≠ x[i]?.getD 0) (hle : j < y.length → x[i]?.getD 0 ≤ y[j]?.getD 0) : MInv x y (os ++ [x[i]?.getD 0]) (i + 1) j := by
  refine ⟨?_, fun z => ?_, fun z hz k h1 h2 => ?_, fun z hz k h1 h2 => ?_⟩
  · refine List.pairwise_append.2 ⟨h.asc, List.pairwise_singleton _ _, fun a ha b hb => ?_⟩
    simp at hb
    have h1 := h.lx a ha i (Nat.le_refl _) hi
    have h2 := hlt a ha
    simp [hi] at h1 h2
    subst hb
    simp [hi]
    omega
  · rw [take_succ_mem hi, List.mem_append, h.mem z, List.mem_singleton]
    constructor
    · rintro ((a | a) | a)
      · exact Or.inl (Or.inl a)
      · exact Or.inr a
      · exact Or.inl (Or.inr a)
    · rintro ((a | a) | a)
      · exact Or.inl (Or.inl a)
      · exact Or.inr a
      · exact Or.inl (Or.inr a)
  · rcases List.mem_append.1 hz with a | a
    · exact h.lx z a k (by omega) h2
    · rw [List.mem_singleton] at a
      subst a
      have := asc_get hx (show i < k by omega) h2
      omega
  · rcases List.mem_append.1 hz with a | a
    · exact h.ly z a k h1 h2
    · rw [List.mem_singleton] at a
      subst a
      have h3 := hle (by omega)
      by_cases e : j = k
      · subst e; exact h3
      · have := asc_get hy (show j < k by omega) h2
        omega
theorem MInv.done {x y os : List Int} (h : MInv x y os x.length y.length) {xs : List Int} (hm : ∀ z, z ∈ xs ↔ z ∈ x ∨ z ∈ y) : Ord xs os := ⟨h.asc, fun z => by rw [h.mem z, hm z]; simp⟩
/-- The last one, against all. -/
theorem MInv.last {x y os : List Int} {i j : Nat} (h : MInv x y os i j) {v : Int} (hle : ∀ z, z ∈ os → z ≤ v) (hne : os[os.length - 1]?.getD 0 ≠ v) : ∀ z, z ∈ os → z ≠ v := by
  intro z hz e
  subst e
  obtain ⟨k, hk, hkz⟩ := mem_get.1 hz
  by_cases e : k = os.length - 1
  · subst e; exact hne hkz
  · have h1 := asc_get h.asc (show k < os.length - 1 by omega) (by omega)
    have h2 := hle _ (mem_get.2 ⟨os.length - 1, by omega, rfl⟩)
    omega
end Go.Proofs.Ytkajdhliejjohaa

namespace Go.Proofs.Ytkajdhliejjohaa
open Go.RowKit

theorem SlAt.take {α : Type} {mk : α → Value} {d : α} {lo n b off k cap : Nat} {w : World} {xs : List α} (hk : k ≤ xs.length) (hl : xs.length ≤ maxLen) (hb : lo ≤ b) (hbn : b < n) (hc : ∀ i : Nat, i < xs.length → w.cell? ⟨b, off + i, none⟩ = some (mk (xs[i]?.getD d))) :
    SlAt mk d lo n w (.slice (some ⟨b, off, none⟩) k cap) (xs.take k) := by
  have e : (xs.take k).length = k := by simp; omega
  refine ⟨_, cap, by rw [e], by omega, fun _ => ⟨b, off, rfl, hb, hbn, fun i hi => ?_⟩⟩
  rw [e] at hi
  rw [hc i (by omega), List.getElem?_take, if_pos hi]
theorem SlAt.drop {α : Type} {mk : α → Value} {d : α} {lo n b off k m cap : Nat} {w : World} {xs : List α} (hk : k + m = xs.length) (hl : xs.length ≤ maxLen) (hb : lo ≤ b) (hbn : b < n) (hc : ∀ i : Nat, i < xs.length → w.cell? ⟨b, off + i, none⟩ = some (mk (xs[i]?.getD d))) :
    SlAt mk d lo n w (.slice (some ⟨b, off + k, none⟩) m cap) (xs.drop k) := by
  have e : (xs.drop k).length = m := by simp; omega
  refine ⟨_, cap, by rw [e], by omega, fun _ => ⟨b, off + k, rfl, hb, hbn, fun i hi => ?_⟩⟩
  rw [e] at hi
  rw [Nat.add_assoc, hc (k + i) (by omega), List.getElem?_drop]

/-- What putting a list into order answers. -/
def OrdRet (e : Ending) (w w' : World) (xs : List Int) : Prop :=
  ∃ v ys, e = .returned v ∧ Ord xs ys ∧ ys.length ≤ xs.length ∧ SlW mI 0 w.heap.size w'.heap.size w' v ys

/-- The same, in a row of its own. -/
def OrdOwn (e : Ending) (w w' : World) (xs : List Int) : Prop :=
  ∃ v ys, e = .returned v ∧ Ord xs ys ∧ ys.length ≤ xs.length ∧ w'.ownsRow w.heap.size 3 1 v ys.length (ys.map mI)

/-- One number more. -/
theorem ord_step {os : List Int} {u : Int} {w2 wr w3 : World} {tv v' : Value} {o : Obj} {q : Nat} (hown : wr.ownsRow w2.heap.size 3 1 tv os.length (os.map mI)) (hb : Below w2.heap.size w2 wr)
    (h1 : w3.ownsRow w2.heap.size 3 1 v' (os.length + 1) (os.map mI ++ [.int .i64 u])) (hg : ((wr.drewN q).alloc o).grownBy w3 tv.ownBlock) :
    w3.ownsRow w2.heap.size 3 1 v' (os ++ [u]).length ((os ++ [u]).map mI) ∧ Below w2.heap.size w2 w3 := by
  refine ⟨by rw [List.length_append, List.map_append]; exact h1, ((below_drewN hb q).alloc hb.size o).grown hg (by rw [sz_alloc]; exact Nat.le_succ_of_le hb.size) (fun k hk => (hown.lt k hk).1)⟩

set_option maxHeartbeats 10000000 in
set_option maxRecDepth 100000 in
theorem l3order_own (N : Nat) : ∀ (v : Value) (xs : List Int) (w : World), xs.length ≤ N → xs.length ≤ 1048576 → SlAt mI 0 0 w.heap.size w v xs → CapOk v →
    Calls Try.prog 54 #[v] w fun e w' => OrdOwn e w w' xs ∧ Below w.heap.size w w' := by
  induction N with
  | zero =>
    intro v xs w hN hl hv hcap
    have Hv := hide hv
    obtain ⟨a, cap, rfl, hml, hc⟩ := hv
    have h2 : xs.length < 2 := by omega
    have h2' : (xs.length : Int) < 2 := by omega
    clear hc
    go_enter Try.func54, Try.ntmps54
    go_wp2_with (at_builtin; refine app_ints_own rfl _ _ rfl rfl _ rfl xs (unhide Hv) hl ?_; intro v1 w1 hb1 hs1 ho1)
    go_ret
    exact ⟨⟨_, xs, rfl, Ord.small h2, Nat.le_refl _, hs1⟩, hb1⟩
  | succ N ih =>
    intro v xs w hN hl hv hcap
    obtain ⟨i0, hi, hz0, hz1, hz2⟩ := info_parts Try.zinInt
    have Hv := hide hv
    obtain ⟨a, cap, rfl, hml, hc⟩ := hv
    obtain ⟨hcp, hcm⟩ := hcap.le
    by_cases h2 : xs.length < 2
    · have h2' : (xs.length : Int) < 2 := by omega
      clear hc
      go_enter Try.func54, Try.ntmps54
      go_wp2_with (at_builtin; refine app_ints_own rfl _ _ rfl rfl _ rfl xs (unhide Hv) hl ?_; intro v1 w1 hb1 hs1 ho1)
      go_ret
      exact ⟨⟨_, xs, rfl, Ord.small h2, Nat.le_refl _, hs1⟩, hb1⟩
    · have h2' : ¬ (xs.length : Int) < 2 := by omega
      obtain ⟨b, off, rfl, -, hbn, hcell⟩ := hc (by omega)
      have hA : SlAt mI 0 0 w.heap.size w (.slice (some ⟨b, off, none⟩) (xs.length / 2) cap) (xs.take (xs.length / 2)) := SlAt.take (by omega) hml (Nat.zero_le _) hbn hcell
      have hB : SlAt mI 0 0 w.heap.size w (.slice (some ⟨b, off + xs.length / 2, none⟩) (xs.length - xs.length / 2) (cap - xs.length / 2)) (xs.drop (xs.length / 2)) := SlAt.drop (by omega) hml (Nat.zero_le _) hbn hcell
      have HA := hide hA
      have HB := hide hB
      clear hA hB hc hcell
      go_enter Try.func54, Try.ntmps54
      go_wp2_with fail
      refine (ih _ _ _ (by simp; omega) (by simp; omega) (unhide HA) (CapOk.mk (by omega) hcm)).mono ?_
      rintro e w1 ⟨⟨v1, x, rfl, ox, lx, sx0⟩, hb1⟩
      have sx := own_slw (lo := w.heap.size) sx0 (Nat.le_refl _) (by simp at lx; unfold maxLen; omega)
      clear sx0
      have hz1' := hb1.size
      obtain ⟨a1, c1, rfl, ml1, -⟩ := id sx
      have Sx := hide sx
      have HB1 := hide ((unhide HB).below hb1 (Nat.le_refl _))
      clear sx
      go_wp2_with fail
      refine (ih _ _ _ (by simp; omega) (by simp; omega) (unhide HB1) (CapOk.mk (by omega) (by omega))).mono ?_
      rintro e w2 ⟨⟨v2, y, rfl, oy, ly, sy0⟩, hb2⟩
      have sy := own_slw (lo := w1.heap.size) sy0 (Nat.le_refl _) (by simp at ly; unfold maxLen; omega)
      clear sy0
      have hz2' := hb2.size
      obtain ⟨a2, c2, rfl, ml2, -⟩ := id sy
      have Sy := hide sy
      clear sy
      have bx := fun wr (hb : Below w2.heap.size w2 wr) => (SlW.at (((unhide Sx).same (SameB.of_below hb2 (Nat.le_refl _))).same (SameB.of_below (lo := w.heap.size) (n := w1.heap.size) hb hz2')))
      have by' := fun wr (hb : Below w2.heap.size w2 wr) => (SlW.at ((unhide Sy).same (SameB.of_below (lo := w1.heap.size) (n := w2.heap.size) hb (Nat.le_refl _))))
      have Bx := hide bx
      have By := hide by'
      simp only [List.length_take, List.length_drop] at lx ly
      clear bx by' HA HB HB1 Hv
      unfold maxLen at ml1 ml2
      go_wp2_with fail
      go_loopw [6, 7, 8] (fun ov iv jv wr => ∃ (i j : Nat) (os : List Int), i ≤ x.length ∧ j ≤ y.length ∧ iv = .int .i64 i ∧ jv = .int .i64 j ∧ MInv x y os i j ∧ os.length ≤ i + j ∧ wr.ownsRow w2.heap.size 3 1 ov os.length (os.map mI) ∧ Below w2.heap.size w2 wr) (fun _ iv jv _ => x.length + y.length - ((intOf iv).toNat + (intOf jv).toNat))
      case atStart => exact ⟨0, 0, [], Nat.zero_le _, Nat.zero_le _, rfl, rfl, MInv.start x y, Nat.le_refl _, World.ownsRow_nil _ _ _ _, Below.refl _ _⟩
      case round =>
        obtain ⟨i, j, os, hix, hjy, rfl, rfl, hm, hol, hown, hb⟩ := hrel
        have hszr := hb.size
        have Hown := hide hown
        obtain ⟨oa, oc, rfl⟩ := own_is hown
        clear hown
        by_cases gj : j < y.length
        · have gj' : (j : Int) < (y.length : Int) := by omega
          have gjd : decide ((y.length : Int) ≤ (j : Int)) = false := decide_eq_false (by omega)
          have gje : decide (y.length ≤ j) = false := decide_eq_false (by omega)
          obtain ⟨_, _, e2, -, hcy⟩ := unhide By wr hb
          cases e2
          obtain ⟨b2, o2, rfl, -, hbn2, hcelly⟩ := hcy (by omega)
          have hy : wr.cell? ⟨b2, o2 + j, none⟩ = some (.int .i64 (y[j]?.getD 0)) := hcelly j gj
          clear hcelly hcy
          by_cases gi : i < x.length
          · have gi' : (i : Int) < (x.length : Int) := by omega
            obtain ⟨_, _, e1, -, hcx⟩ := unhide Bx wr hb
            cases e1
            obtain ⟨b1, o1, rfl, -, hbn1, hcellx⟩ := hcx (by omega)
            have hx : wr.cell? ⟨b1, o1 + i, none⟩ = some (.int .i64 (x[i]?.getD 0)) := hcellx i gi
            clear hcellx hcx
            by_cases hxy : x[i]?.getD 0 ≤ y[j]?.getD 0
            · have hle : j < y.length → x[i]?.getD 0 ≤ y[j]?.getD 0 := fun _ => hxy
              generalize hY : y[j]?.getD 0 = yv at *
              generalize hU : x[i]?.getD 0 = u at *
              have Hm := hide hm
              have HU := hide hU
              have HLE := hide (show j < y.length → x[i]?.getD 0 ≤ y[j]?.getD 0 from fun _ => by rw [hU, hY]; exact hxy)
              clear hm hU hle hY
              by_cases hos : os = []
              · subst hos
                have Hn := hide (MInv.next (unhide Hm) ox.asc oy.asc gi (by simp) (unhide HLE))
                rw [unhide HU] at Hn
                go_wp2_with fail
                go_quiet (fail)
                go_wp2_with (at_builtin; refine wpList_append_own _ rfl _ _ 25 rfl w2.heap.size 3 i0 (.int .i64 0) 1 8 Try.underlying25 hi hz0 hz1 hz2 rfl (by decide) _ _ _ rfl (World.ownsRow.alloc (w := wr.drewN nq) (unhide Hown) _) ⟨wr.heap.size, 0, none⟩ 1 1 [.int .i64 u] rfl rfl ?_ ?_ ?_ ?_ ?_ ?_)
                · refine cell_1 ?_
                  rw [World.cell?_alloc_at _ _ wr.heap.size _ (show wr.heap.size = (wr.drewN nq).heap.size from rfl)]
                  rfl
                · intro u' hu; simp at hu; subst hu; rfl
                · unfold maxLen; simp
                · simp
                · rw [sz_alloc]; show _ ≤ wr.heap.size + 1; omega
                intro v' w3 h5 hg5 _
                have hst := hide (ord_step (unhide Hown) hb h5 hg5)
                clear h5 hg5
                go_wp2
                go_roundw
                case rel => exact ⟨i + 1, j, _, by omega, by omega, by go_num, rfl, unhide Hn, by simp; omega, (unhide hst).1, (unhide hst).2⟩
                case measure => simp [intOf]; omega
              · have hp : 0 < os.length := List.length_pos_iff.2 hos
                have hp' : ((os.length : Int) == 0) = false := by simp; omega
                obtain ⟨g, oc', e, hcl⟩ := own_at (unhide Hown) hp
                cases e
                have hl0 : wr.cell? ⟨g, os.length - 1, none⟩ = some (.int .i64 (os[os.length - 1]?.getD 0)) := by
                  rw [hcl _ (by omega), List.getElem?_map, getD_of_lt (show os.length - 1 < os.length by omega)]
                  rfl
                clear hcl
                by_cases hne : os[os.length - 1]?.getD 0 = u
                · have Hn := hide (MInv.skip (unhide Hm) gi (by rw [unhide HU, ← hne]; exact mem_get.2 ⟨os.length - 1, by omega, rfl⟩))
                  rw [hne] at hl0
                  clear hne
                  have hidx : ((os.length : Int) - 1).toNat = os.length - 1 := by omega
                  go_wp2_with fail
                  go_quiet (fail)
                  go_wp2
                  go_roundw
                  case rel => exact ⟨i + 1, j, os, by omega, by omega, by go_num, rfl, unhide Hn, by omega, unhide Hown, below_drewN hb _⟩
                  case measure => simp [intOf]; omega
                · have Hn := hide (MInv.next (unhide Hm) ox.asc oy.asc gi (MInv.last (unhide Hm) (fun z hz => (unhide Hm).lx z hz i (Nat.le_refl _) gi) (by rw [unhide HU]; exact hne)) (unhide HLE))
                  rw [unhide HU] at Hn
                  generalize os[os.length - 1]?.getD 0 = lv at *
                  have hne' : (lv != u) = true := by simp [hne]
                  have hidx : ((os.length : Int) - 1).toNat = os.length - 1 := by omega
                  go_wp2_with fail
                  go_quiet (fail)
                  go_wp2_with (at_builtin; refine wpList_append_own _ rfl _ _ 25 rfl w2.heap.size 3 i0 (.int .i64 0) 1 8 Try.underlying25 hi hz0 hz1 hz2 rfl (by decide) _ _ _ rfl (World.ownsRow.alloc (w := wr.drewN nq) (unhide Hown) _) ⟨wr.heap.size, 0, none⟩ 1 1 [.int .i64 u] rfl rfl ?_ ?_ ?_ ?_ ?_ ?_)
                  · refine cell_1 ?_
                    rw [World.cell?_alloc_at _ _ wr.heap.size _ (show wr.heap.size = (wr.drewN nq).heap.size from rfl)]
                    rfl
                  · intro u' hu; simp at hu; subst hu; rfl
                  · unfold maxLen; omega
                  · omega
                  · rw [sz_alloc]; show _ ≤ wr.heap.size + 1; omega
                  intro v' w3 h5 hg5 _
                  have hst := hide (ord_step (unhide Hown) hb h5 hg5)
                  clear h5 hg5
                  go_wp2
                  go_roundw
                  case rel => exact ⟨i + 1, j, _, by omega, by omega, by go_num, rfl, unhide Hn, by simp; omega, (unhide hst).1, (unhide hst).2⟩
                  case measure => simp [intOf]; omega
            · have hle : i < x.length → y[j]?.getD 0 ≤ x[i]?.getD 0 := fun _ => by omega
              generalize hY : x[i]?.getD 0 = xv at *
              generalize hU : y[j]?.getD 0 = u at *
              have hxd : decide (xv ≤ u) = false := decide_eq_false hxy
              have Hm := hide hm
              have HU := hide hU
              have HLE := hide (show i < x.length → y[j]?.getD 0 ≤ x[i]?.getD 0 from fun _ => by rw [hU, hY]; omega)
              clear hm hU hle hY
              by_cases hos : os = []
              · subst hos
                have Hn := hide (MInv.swap (MInv.next (unhide Hm).swap oy.asc ox.asc gj (by simp) (unhide HLE)))
                rw [unhide HU] at Hn
                go_wp2_with fail
                go_quiet (fail)
                go_wp2_with (at_builtin; refine wpList_append_own _ rfl _ _ 25 rfl w2.heap.size 3 i0 (.int .i64 0) 1 8 Try.underlying25 hi hz0 hz1 hz2 rfl (by decide) _ _ _ rfl (World.ownsRow.alloc (w := wr.drewN nq) (unhide Hown) _) ⟨wr.heap.size, 0, none⟩ 1 1 [.int .i64 u] rfl rfl ?_ ?_ ?_ ?_ ?_ ?_)
                · refine cell_1 ?_
                  rw [World.cell?_alloc_at _ _ wr.heap.size _ (show wr.heap.size = (wr.drewN nq).heap.size from rfl)]
                  rfl
                · intro u' hu; simp at hu; subst hu; rfl
                · unfold maxLen; simp
                · simp
                · rw [sz_alloc]; show _ ≤ wr.heap.size + 1; omega
                intro v' w3 h5 hg5 _
                have hst := hide (ord_step (unhide Hown) hb h5 hg5)
                clear h5 hg5
                go_wp2
                go_roundw
                case rel => exact ⟨i, j + 1, _, by omega, by omega, rfl, by go_num, unhide Hn, by simp; omega, (unhide hst).1, (unhide hst).2⟩
                case measure => simp [intOf]; omega
              · have hp : 0 < os.length := List.length_pos_iff.2 hos
                have hp' : ((os.length : Int) == 0) = false := by simp; omega
                obtain ⟨g, oc', e, hcl⟩ := own_at (unhide Hown) hp
                cases e
                have hl0 : wr.cell? ⟨g, os.length - 1, none⟩ = some (.int .i64 (os[os.length - 1]?.getD 0)) := by
                  rw [hcl _ (by omega), List.getElem?_map, getD_of_lt (show os.length - 1 < os.length by omega)]
                  rfl
                clear hcl
                by_cases hne : os[os.length - 1]?.getD 0 = u
                · have Hn := hide (MInv.swap (MInv.skip (unhide Hm).swap gj (by rw [unhide HU, ← hne]; exact mem_get.2 ⟨os.length - 1, by omega, rfl⟩)))
                  rw [hne] at hl0
                  clear hne
                  have hidx : ((os.length : Int) - 1).toNat = os.length - 1 := by omega
                  go_wp2_with fail
                  go_quiet (fail)
                  go_wp2
                  go_roundw
                  case rel => exact ⟨i, j + 1, os, by omega, by omega, rfl, by go_num, unhide Hn, by omega, unhide Hown, below_drewN hb _⟩
                  case measure => simp [intOf]; omega
                · have Hn := hide (MInv.swap (MInv.next (unhide Hm).swap oy.asc ox.asc gj (MInv.last (unhide Hm).swap (fun z hz => (unhide Hm).swap.lx z hz j (Nat.le_refl _) gj) (by rw [unhide HU]; exact hne)) (unhide HLE)))
                  rw [unhide HU] at Hn
                  generalize os[os.length - 1]?.getD 0 = lv at *
                  have hne' : (lv != u) = true := by simp [hne]
                  have hidx : ((os.length : Int) - 1).toNat = os.length - 1 := by omega
                  go_wp2_with fail
                  go_quiet (fail)
                  go_wp2_with (at_builtin; refine wpList_append_own _ rfl _ _ 25 rfl w2.heap.size 3 i0 (.int .i64 0) 1 8 Try.underlying25 hi hz0 hz1 hz2 rfl (by decide) _ _ _ rfl (World.ownsRow.alloc (w := wr.drewN nq) (unhide Hown) _) ⟨wr.heap.size, 0, none⟩ 1 1 [.int .i64 u] rfl rfl ?_ ?_ ?_ ?_ ?_ ?_)
                  · refine cell_1 ?_
                    rw [World.cell?_alloc_at _ _ wr.heap.size _ (show wr.heap.size = (wr.drewN nq).heap.size from rfl)]
                    rfl
                  · intro u' hu; simp at hu; subst hu; rfl
                  · unfold maxLen; omega
                  · omega
                  · rw [sz_alloc]; show _ ≤ wr.heap.size + 1; omega
                  intro v' w3 h5 hg5 _
                  have hst := hide (ord_step (unhide Hown) hb h5 hg5)
                  clear h5 hg5
                  go_wp2
                  go_roundw
                  case rel => exact ⟨i, j + 1, _, by omega, by omega, rfl, by go_num, unhide Hn, by simp; omega, (unhide hst).1, (unhide hst).2⟩
                  case measure => simp [intOf]; omega
          · obtain rfl : i = x.length := by omega
            have hle : x.length < x.length → y[j]?.getD 0 ≤ x[x.length]?.getD 0 := fun h => absurd h gi
            generalize hU : y[j]?.getD 0 = u at *
            have Hm := hide hm
            have HU := hide hU
            have HLE := hide (show x.length < x.length → y[j]?.getD 0 ≤ x[x.length]?.getD 0 from fun h => absurd h gi)
            clear hm hU hle
            by_cases hos : os = []
            · subst hos
              have Hn := hide (MInv.swap (MInv.next (unhide Hm).swap oy.asc ox.asc gj (by simp) (unhide HLE)))
              rw [unhide HU] at Hn
              go_wp2_with fail
              go_quiet (fail)
              go_wp2_with (at_builtin; refine wpList_append_own _ rfl _ _ 25 rfl w2.heap.size 3 i0 (.int .i64 0) 1 8 Try.underlying25 hi hz0 hz1 hz2 rfl (by decide) _ _ _ rfl (World.ownsRow.alloc (w := wr.drewN nq) (unhide Hown) _) ⟨wr.heap.size, 0, none⟩ 1 1 [.int .i64 u] rfl rfl ?_ ?_ ?_ ?_ ?_ ?_)
              · refine cell_1 ?_
                rw [World.cell?_alloc_at _ _ wr.heap.size _ (show wr.heap.size = (wr.drewN nq).heap.size from rfl)]
                rfl
              · intro u' hu; simp at hu; subst hu; rfl
              · unfold maxLen; simp
              · simp
              · rw [sz_alloc]; show _ ≤ wr.heap.size + 1; omega
              intro v' w3 h5 hg5 _
              have hst := hide (ord_step (unhide Hown) hb h5 hg5)
              clear h5 hg5
              go_wp2
              go_roundw
              case rel => exact ⟨x.length, j + 1, _, by omega, by omega, rfl, by go_num, unhide Hn, by simp; omega, (unhide hst).1, (unhide hst).2⟩
              case measure => simp [intOf]; omega
            · have hp : 0 < os.length := List.length_pos_iff.2 hos
              have hp' : ((os.length : Int) == 0) = false := by simp; omega
              obtain ⟨g, oc', e, hcl⟩ := own_at (unhide Hown) hp
              cases e
              have hl0 : wr.cell? ⟨g, os.length - 1, none⟩ = some (.int .i64 (os[os.length - 1]?.getD 0)) := by
                rw [hcl _ (by omega), List.getElem?_map, getD_of_lt (show os.length - 1 < os.length by omega)]
                rfl
              clear hcl
              by_cases hne : os[os.length - 1]?.getD 0 = u
              · have Hn := hide (MInv.swap (MInv.skip (unhide Hm).swap gj (by rw [unhide HU, ← hne]; exact mem_get.2 ⟨os.length - 1, by omega, rfl⟩)))
                rw [hne] at hl0
                clear hne
                have hidx : ((os.length : Int) - 1).toNat = os.length - 1 := by omega
                go_wp2_with fail
                go_quiet (fail)
                go_wp2
                go_roundw
                case rel => exact ⟨x.length, j + 1, os, by omega, by omega, rfl, by go_num, unhide Hn, by omega, unhide Hown, below_drewN hb _⟩
                case measure => simp [intOf]; omega
              · have Hn := hide (MInv.swap (MInv.next (unhide Hm).swap oy.asc ox.asc gj (MInv.last (unhide Hm).swap (fun z hz => (unhide Hm).swap.lx z hz j (Nat.le_refl _) gj) (by rw [unhide HU]; exact hne)) (unhide HLE)))
                rw [unhide HU] at Hn
                generalize os[os.length - 1]?.getD 0 = lv at *
                have hne' : (lv != u) = true := by simp [hne]
                have hidx : ((os.length : Int) - 1).toNat = os.length - 1 := by omega
                go_wp2_with fail
                go_quiet (fail)
                go_wp2_with (at_builtin; refine wpList_append_own _ rfl _ _ 25 rfl w2.heap.size 3 i0 (.int .i64 0) 1 8 Try.underlying25 hi hz0 hz1 hz2 rfl (by decide) _ _ _ rfl (World.ownsRow.alloc (w := wr.drewN nq) (unhide Hown) _) ⟨wr.heap.size, 0, none⟩ 1 1 [.int .i64 u] rfl rfl ?_ ?_ ?_ ?_ ?_ ?_)
                · refine cell_1 ?_
                  rw [World.cell?_alloc_at _ _ wr.heap.size _ (show wr.heap.size = (wr.drewN nq).heap.size from rfl)]
                  rfl
                · intro u' hu; simp at hu; subst hu; rfl
                · unfold maxLen; omega
                · omega
                · rw [sz_alloc]; show _ ≤ wr.heap.size + 1; omega
                intro v' w3 h5 hg5 _
                have hst := hide (ord_step (unhide Hown) hb h5 hg5)
                clear h5 hg5
                go_wp2
                go_roundw
                case rel => exact ⟨x.length, j + 1, _, by omega, by omega, rfl, by go_num, unhide Hn, by simp; omega, (unhide hst).1, (unhide hst).2⟩
                case measure => simp [intOf]; omega
        · obtain rfl : j = y.length := by omega
          by_cases gi : i < x.length
          · have gi' : (i : Int) < (x.length : Int) := by omega
            obtain ⟨_, _, e1, -, hcx⟩ := unhide Bx wr hb
            cases e1
            obtain ⟨b1, o1, rfl, -, hbn1, hcellx⟩ := hcx (by omega)
            have hx : wr.cell? ⟨b1, o1 + i, none⟩ = some (.int .i64 (x[i]?.getD 0)) := hcellx i gi
            clear hcellx hcx
            have hle : y.length < y.length → x[i]?.getD 0 ≤ y[y.length]?.getD 0 := fun h => absurd h gj
            generalize hU : x[i]?.getD 0 = u at *
            have Hm := hide hm
            have HU := hide hU
            have HLE := hide (show y.length < y.length → x[i]?.getD 0 ≤ y[y.length]?.getD 0 from fun h => absurd h gj)
            clear hm hU hle
            by_cases hos : os = []
            · subst hos
              have Hn := hide (MInv.next (unhide Hm) ox.asc oy.asc gi (by simp) (unhide HLE))
              rw [unhide HU] at Hn
              go_wp2_with fail
              go_quiet (fail)
              go_wp2_with (at_builtin; refine wpList_append_own _ rfl _ _ 25 rfl w2.heap.size 3 i0 (.int .i64 0) 1 8 Try.underlying25 hi hz0 hz1 hz2 rfl (by decide) _ _ _ rfl (World.ownsRow.alloc (w := wr.drewN nq) (unhide Hown) _) ⟨wr.heap.size, 0, none⟩ 1 1 [.int .i64 u] rfl rfl ?_ ?_ ?_ ?_ ?_ ?_)
              · refine cell_1 ?_
                rw [World.cell?_alloc_at _ _ wr.heap.size _ (show wr.heap.size = (wr.drewN nq).heap.size from rfl)]
                rfl
              · intro u' hu; simp at hu; subst hu; rfl
              · unfold maxLen; simp
              · simp
              · rw [sz_alloc]; show _ ≤ wr.heap.size + 1; omega
              intro v' w3 h5 hg5 _
              have hst := hide (ord_step (unhide Hown) hb h5 hg5)
              clear h5 hg5
              go_wp2
              go_roundw
              case rel => exact ⟨i + 1, y.length, _, by omega, by omega, by go_num, rfl, unhide Hn, by simp; omega, (unhide hst).1, (unhide hst).2⟩
              case measure => simp [intOf]; omega
            · have hp : 0 < os.length := List.length_pos_iff.2 hos
              have hp' : ((os.length : Int) == 0) = false := by simp; omega
              obtain ⟨g, oc', e, hcl⟩ := own_at (unhide Hown) hp
              cases e
              have hl0 : wr.cell? ⟨g, os.length - 1, none⟩ = some (.int .i64 (os[os.length - 1]?.getD 0)) := by
                rw [hcl _ (by omega), List.getElem?_map, getD_of_lt (show os.length - 1 < os.length by omega)]
                rfl
              clear hcl
              by_cases hne : os[os.length - 1]?.getD 0 = u
              · have Hn := hide (MInv.skip (unhide Hm) gi (by rw [unhide HU, ← hne]; exact mem_get.2 ⟨os.length - 1, by omega, rfl⟩))
                rw [hne] at hl0
                clear hne
                have hidx : ((os.length : Int) - 1).toNat = os.length - 1 := by omega
                go_wp2_with fail
                go_quiet (fail)
                go_wp2
                go_roundw
                case rel => exact ⟨i + 1, y.length, os, by omega, by omega, by go_num, rfl, unhide Hn, by omega, unhide Hown, below_drewN hb _⟩
                case measure => simp [intOf]; omega
              · have Hn := hide (MInv.next (unhide Hm) ox.asc oy.asc gi (MInv.last (unhide Hm) (fun z hz => (unhide Hm).lx z hz i (Nat.le_refl _) gi) (by rw [unhide HU]; exact hne)) (unhide HLE))
                rw [unhide HU] at Hn
                generalize os[os.length - 1]?.getD 0 = lv at *
                have hne' : (lv != u) = true := by simp [hne]
                have hidx : ((os.length : Int) - 1).toNat = os.length - 1 := by omega
                go_wp2_with fail
                go_quiet (fail)
                go_wp2_with (at_builtin; refine wpList_append_own _ rfl _ _ 25 rfl w2.heap.size 3 i0 (.int .i64 0) 1 8 Try.underlying25 hi hz0 hz1 hz2 rfl (by decide) _ _ _ rfl (World.ownsRow.alloc (w := wr.drewN nq) (unhide Hown) _) ⟨wr.heap.size, 0, none⟩ 1 1 [.int .i64 u] rfl rfl ?_ ?_ ?_ ?_ ?_ ?_)
                · refine cell_1 ?_
                  rw [World.cell?_alloc_at _ _ wr.heap.size _ (show wr.heap.size = (wr.drewN nq).heap.size from rfl)]
                  rfl
                · intro u' hu; simp at hu; subst hu; rfl
                · unfold maxLen; omega
                · omega
                · rw [sz_alloc]; show _ ≤ wr.heap.size + 1; omega
                intro v' w3 h5 hg5 _
                have hst := hide (ord_step (unhide Hown) hb h5 hg5)
                clear h5 hg5
                go_wp2
                go_roundw
                case rel => exact ⟨i + 1, y.length, _, by omega, by omega, by go_num, rfl, unhide Hn, by simp; omega, (unhide hst).1, (unhide hst).2⟩
                case measure => simp [intOf]; omega
          · obtain rfl : i = x.length := by omega
            have Hm := hide hm
            clear hm
            go_wp2
            go_ret
            refine ⟨⟨_, os, rfl, (unhide Hm).done (fun z => ?_), by omega, own_low (unhide Hown) (by omega)⟩, ?_⟩
            · rw [ox.mem z, oy.mem z, ← List.mem_append, List.take_append_drop]
            · exact hb1.trans ((hb2.trans (hb.mono hb2.size)).mono hb1.size)

theorem l3order_any (N : Nat) (v : Value) (xs : List Int) (w : World) (hN : xs.length ≤ N) (hl : xs.length ≤ 1048576) (hv : SlAt mI 0 0 w.heap.size w v xs) (hc : CapOk v) :
    Calls Try.prog 54 #[v] w fun e w' => OrdRet e w w' xs ∧ Below w.heap.size w w' :=
  (l3order_own N v xs w hN hl hv hc).mono (fun _ _ ⟨⟨v1, ys, h1, h2, h3, h4⟩, hb⟩ => ⟨⟨v1, ys, h1, h2, h3, own_slw h4 (Nat.le_refl _) (by unfold maxLen; omega)⟩, hb⟩)

end Go.Proofs.Ytkajdhliejjohaa

namespace Go.Proofs.Ytkajdhliejjohaa
open Go.RowKit

/-- The part of a slice from j on. -/
def fromW (p : Option Addr) (n c j : Nat) : Value := .slice (if c = j then p else p.map (fun x => x.add j)) (n - j) (c - j)
def cutW (p : Option Addr) (n c : Nat) (i : Int) : Value :=
  if 0 ≤ i then .tuple #[.slice p i.toNat c, fromW p n c (i.toNat + 1), .bool true] else .tuple #[.slice p n c, .slice none 0 0, .bool false]

end Go.Proofs.Ytkajdhliejjohaa
