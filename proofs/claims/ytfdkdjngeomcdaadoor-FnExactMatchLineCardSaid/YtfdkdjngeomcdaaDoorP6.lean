import Derived.Test.YtfdkdjngeomcdaaDoorP5
import Derived.Test.YtfdkdjngeomcdaaDoorP4
import Derived.Test.YtfdkdjngeomcdaaDoorP3
import Derived.Maps.OwnSet
import Derived.Maps.OwnOps
import Derived.DeepKeys4
namespace Go.Proofs.YtfdkdjngeomcdaaDoor
open Go.RowKit

/-- The positions that are shown lie below n. -/
def Bdd (a : It) (n : Nat) : Prop := (∀ i ∈ a.fi, i < n) ∧ ∀ i ∈ a.la, i < n
theorem Bdd.sh {a : It} {n : Nat} (h : Bdd a n) (c : Nat) : Bdd (a.sh c) (c + n) := by
  refine ⟨fun i hi => ?_, fun i hi => ?_⟩
  · obtain ⟨j, hj, rfl⟩ := List.mem_map.1 hi; have := h.1 j hj; omega
  · obtain ⟨j, hj, rfl⟩ := List.mem_map.1 hi; have := h.2 j hj; omega
theorem Bdd.mono {a : It} {n m : Nat} (h : Bdd a n) (hm : n ≤ m) : Bdd a m := ⟨fun i hi => Nat.lt_of_lt_of_le (h.1 i hi) hm, fun i hi => Nat.lt_of_lt_of_le (h.2 i hi) hm⟩
theorem Bdd.cat {a b : It} {n : Nat} (h : Bdd a n) (k : Bdd b n) : Bdd (itCat a b) n := by
  refine ⟨fun i hi => ?_, fun i hi => ?_⟩
  · rcases List.mem_append.1 hi with hi | hi
    · exact h.1 i hi
    · split at hi
      · exact k.1 i hi
      · cases hi
  · rcases List.mem_append.1 hi with hi | hi
    · split at hi
      · exact h.2 i hi
      · cases hi
    · exact k.2 i hi
theorem Bdd.alt {a b : It} {n : Nat} (h : Bdd a n) (k : Bdd b n) : Bdd (itAlt a b) n := ⟨fun i hi => (List.mem_append.1 hi).elim (h.1 i) (k.1 i), fun i hi => (List.mem_append.1 hi).elim (h.2 i) (k.2 i)⟩
theorem lvs_snoc (a b : List El) (x : El) (h : x.kind ≠ 1) : lvs (a ++ b ++ [x]) = lvs a + lvs b := by rw [lvs_app, lvs_app]; simp [lvs, h]
/-- Is j marked as following i? -/
def mkd (K : List Lk) (i j : Nat) : Bool := K.any (fun p => p.1.contains i && p.2.contains j)
theorem mkd_app (K M : List Lk) (i j : Nat) : mkd (K ++ M) i j = (mkd K i j || mkd M i j) := by unfold mkd; rw [List.any_append]
theorem mkd_one (A B : List Nat) (i j : Nat) : mkd [(A, B)] i j = (A.contains i && B.contains j) := by simp [mkd]
/-- One mark more, in the row of the x-th of A. -/
theorem mkd_step (K : List Lk) (A B : List Nat) (x y : Nat) (hx : x < A.length) (hy : y < B.length) (i j : Nat) :
    mkd (K ++ [(A.take x, B)] ++ [([A[x]], B.take (y + 1))]) i j = (mkd (K ++ [(A.take x, B)] ++ [([A[x]], B.take y)]) i j || (decide (i = A[x]) && decide (j = B[y]))) := by
  rw [mkd_app, mkd_app (K ++ [(A.take x, B)]), mkd_one, mkd_one, Bool.or_assoc]
  congr 1
  rw [List.take_add_one, List.getElem?_eq_getElem hy]
  simp only [Option.toList_some, List.contains_append]
  rw [Bool.and_or_distrib_left]
  congr 1
  simp
theorem mkd_row (K : List Lk) (A B : List Nat) (x : Nat) (hx : x < A.length) (i j : Nat) :
    mkd (K ++ [(A.take x, B)] ++ [([A[x]], B)]) i j = mkd (K ++ [(A.take (x + 1), B)]) i j := by
  rw [mkd_app, mkd_app, mkd_app, mkd_one, mkd_one, mkd_one, Bool.or_assoc]
  congr 1
  rw [List.take_add_one, List.getElem?_eq_getElem hx]
  simp only [Option.toList_some, List.contains_append]
  rw [Bool.and_or_distrib_right]
theorem mkd_none (K : List Lk) (B : List Nat) (i j : Nat) : mkd (K ++ [([], B)]) i j = mkd K i j := by rw [mkd_app, mkd_one]; simp
theorem mkd_none2 (K : List Lk) (A : List Nat) (i j : Nat) : mkd (K ++ [(A, [])]) i j = mkd K i j := by rw [mkd_app, mkd_one]; simp

def ini : Ms := ⟨0, [], [], []⟩
theorem flats_app (a b : List (List El × Int)) : flats (a ++ b) = flats a ++ flats b := by simp [flats]
theorem ini_c (L : List El) : (oRun ini L).c = lvs L := by rw [oRun_c]; simp [ini]
/-- A row of numbers that is owned: its place, and what is read there while its block stays. -/
theorem own_far {base n : Nat} {w : World} {v : Value} {A : List Nat} (h : w.ownsRow base 3 1 v n ((A.map Int.ofNat).map mI)) (hA : A.length = n) (hn : n ≤ 10000) :
    ∃ a c, v = .slice a n c ∧ (0 < n → ∃ g o, a = some ⟨g, o, none⟩ ∧ base ≤ g ∧ g < w.heap.size ∧ ∀ W : World, W.heap[g]? = w.heap[g]? → ∀ j (hj : j < A.length), W.cell? ⟨g, o + j, none⟩ = some (.int .i64 ((A[j] : Nat) : Int))) := by
  obtain ⟨a, c, hv, hl, hc⟩ := own_slw (xs := A.map Int.ofNat) (lo := base) h (Nat.le_refl _) (by unfold maxLen; omega)
  rw [List.length_map, hA] at hv hc
  refine ⟨a, c, hv, fun hp => ?_⟩
  obtain ⟨b, off, rfl, h1, h2, -, hcell⟩ := hc hp
  refine ⟨b, off, rfl, h1, h2, fun W hW j hj => ?_⟩
  rw [World.cell?_of_block (w := w) (a := ⟨b, off + j, none⟩) hW, hcell j (by omega)]
  simp [List.getElem?_eq_getElem hj, mI]

end Go.Proofs.YtfdkdjngeomcdaaDoor

namespace Go.Proofs.YtfdkdjngeomcdaaDoor
open Go.RowKit

/-- Is the byte in one of the first m ranges? -/
def InP (xs : List Int) : Nat → Nat → Bool
  | 0, _ => false
  | m + 1, b => InP xs m b || decide (xs[2 * m]?.getD 0 ≤ (b : Int) ∧ (b : Int) ≤ xs[2 * m + 1]?.getD 0)

/-- The words of the set of these ranges. -/
def WordsOf (xs : List Int) (g : Nat → Nat) : Prop := Fit g ∧ ∀ b : Nat, Bt g b = InP xs (xs.length / 2) b

theorem words_put {w1 : World} {N : Nat} {t : TypeId} {g : Nat → Nat} (h : w1.rowIs N t 4 (fun j => .int .u64 (g j : Nat))) (q : Nat → Nat) :
    ((((w1.setCell ⟨N, 0, none⟩ (.int .u64 (q 0 : Nat))).setCell ⟨N, 1, none⟩ (.int .u64 (q 1 : Nat))).setCell ⟨N, 2, none⟩ (.int .u64 (q 2 : Nat))).setCell ⟨N, 3, none⟩ (.int .u64 (q 3 : Nat))).rowIs N t 4 (fun j => .int .u64 (q j : Nat)) := by
  refine ((((h.set 0 _).set 1 _).set 2 _).set 3 _).congr ?_
  intro j hj
  match j, hj with
  | 0, _ => rfl
  | 1, _ => rfl
  | 2, _ => rfl
  | 3, _ => rfl

set_option maxHeartbeats 2000000 in
theorem setOf_w (v : Value) (xs : List Int) (w : World) (hv : IntsAt 0 w.heap.size w v xs) (hcn : Canon xs) :
    Calls Tryd.prog 62 #[v] w fun e w' => ∃ g : Nat → Nat, e = .returned (ws4 g) ∧ WordsOf xs g ∧ Below w.heap.size w w' := by
  obtain ⟨a, cap, rfl, hl, hr, hc⟩ := hv
  unfold maxLen at hl
  have Hcn := hide hcn
  clear hcn hr
  go_enter Tryd.func62, Tryd.ntmps62
  go_wp2
  go_loopw [4] (fun i wr => ∃ p : Nat, p ≤ xs.length ∧ p % 2 = 0 ∧ i = .int .i64 p ∧ (∃ g : Nat → Value, wr.rowIs w.heap.size 64 4 g) ∧ (∃ g : Nat → Nat, wr.rowIs (w.heap.size + 1) 64 4 (fun j => .int .u64 (g j : Nat)) ∧ Fit g ∧ ∀ b : Nat, Bt g b = InP xs (p / 2) b) ∧ Below w.heap.size w wr) (fun i _ => xs.length - (intOf i).toNat)
  case atStart =>
    refine ⟨0, Nat.zero_le _, rfl, rfl, ⟨_, (zero_row w 64).alloc _⟩, ⟨fun _ => 0, ?_, fun j => by show 0 < 18446744073709551616; omega, fun b => ?_⟩, below2 w _ _⟩
    · have h := zero_row (w.alloc (.cells #[.int .u64 0, .int .u64 0, .int .u64 0, .int .u64 0] 64)) 64
      rw [sz_alloc] at h; exact h
    · simp [Bt, InP]
  case round =>
    obtain ⟨p, hm, hp2, rfl, ⟨g2, hrow2⟩, ⟨g, hrow, hfit, hbt⟩, hb⟩ := hrel
    have hev := (unhide Hcn).1
    by_cases hlt2 : p < xs.length
    · obtain ⟨b, off, rfl, -, hbn, hcell⟩ := hc (by omega)
      have hx : wr.cell? ⟨b, off + p, none⟩ = some (.int .i64 (xs[p]?.getD 0)) := by rw [hb.cell (p := ⟨b, off + p, none⟩) hbn]; exact hcell _ hlt2
      have hy : wr.cell? ⟨b, off + (p + 1), none⟩ = some (.int .i64 (xs[p + 1]?.getD 0)) := by rw [hb.cell (p := ⟨b, off + (p + 1), none⟩) hbn]; exact hcell _ (by omega)
      have hlt2' : (p : Int) < (xs.length : Int) := by omega
      have hlt3' : (p : Int) + 1 < (xs.length : Int) := by omega
      have bx := ((unhide Hcn).2.1 (p) hlt2).1
      have byy := ((unhide Hcn).2.1 (p + 1) (by omega)).2
      have bxy : xs[p]?.getD 0 ≤ xs[p + 1]?.getD 0 := by
        have := ((unhide Hcn).2.2 (p / 2) (by omega)).1
        rwa [show 2 * (p / 2) = p by omega] at this
      have Hstep : Hid (∀ c : Nat, InP xs ((p + 2) / 2) c = (InP xs (p / 2) c || decide (xs[p]?.getD 0 ≤ (c : Int) ∧ (c : Int) ≤ xs[p + 1]?.getD 0))) := fun c => by
        rw [show (p + 2) / 2 = p / 2 + 1 by omega]
        simp only [InP]
        rw [show 2 * (p / 2) = p by omega]
      have Hbt := hide hbt
      have Hfit := hide hfit
      generalize xs[p]?.getD 0 = x at *
      generalize xs[p + 1]?.getD 0 = y at *
      have c0 := hrow.cell (i := 0) (by omega)
      have c1 := hrow.cell (i := 1) (by omega)
      have c2 := hrow.cell (i := 2) (by omega)
      have c3 := hrow.cell (i := 3) (by omega)
      have hN := hrow.lt
      have f0 := hrow.frozen 0
      have f1 := hrow.frozen 1
      have f2 := hrow.frozen 2
      have f3 := hrow.frozen 3
      have hrow' := hide hrow
      have hrow2' := hide hrow2
      clear hrow hrow2 hcell hbt hfit hc
      go_wp2
      have hw2 : IntKind.i64.wrap ((p : Int) + 1) = (p : Int) + 1 := by rw [IntKind.wrap_i64]; omega
      have hw1 : wrap64 ((p : Int) + 1) = (p : Int) + 1 := by unfold wrap64; omega
      go_region_with (go_at_call 67; refine (with_w g x y _ (unhide Hfit) bx byy bxy).mono ?_; rintro e w1 ⟨g', rfl, hg1, hg2, hb1⟩; unfold ws4; have hb2 : Below wr.heap.size wr w1 := ⟨hb1.os, hb1.tape, hb1.output, hb1.size, hb1.block⟩; have Hg1 := hide hg1; have Hg2 := hide hg2; clear hb1 hg1 hg2; have hc1 := (bcell hb2).1; have hf1 := (bcell hb2).2)
      all_goals
        clear hc1 hf1 c0 c1 c2 c3 f0 f1 f2 f3 hx hy
        go_wp2
        have hr1 := (unhide hrow').of_block (hb2.block _ hN)
        have hr2 := (unhide hrow2').of_block (hb2.block _ (unhide hrow2').lt)
        refine ⟨⟨p + 2, by omega, by omega, by go_num, ⟨g2, ?_⟩, ⟨g', words_put hr1 g', unhide Hg1, fun c => ?_⟩, ?_⟩, by simp [intOf]; omega⟩
        · exact (((hr2.setOther (by show w.heap.size ≠ w.heap.size + 1; omega) _).setOther (by show w.heap.size ≠ w.heap.size + 1; omega) _).setOther (by show w.heap.size ≠ w.heap.size + 1; omega) _).setOther (by show w.heap.size ≠ w.heap.size + 1; omega) _
        · rw [unhide Hg2 c, unhide Hstep c, unhide Hbt c]
        · exact bput (bput (bput (bput (hb.trans (hb2.mono hb.size)) (by omega) _) (by omega) _) (by omega) _) (by omega) _
    · have c0 := hrow.cell (i := 0) (by omega)
      have c1 := hrow.cell (i := 1) (by omega)
      have c2 := hrow.cell (i := 2) (by omega)
      have c3 := hrow.cell (i := 3) (by omega)
      have d0 := hrow2.cell (i := 0) (by omega)
      have d1 := hrow2.cell (i := 1) (by omega)
      have d2 := hrow2.cell (i := 2) (by omega)
      have d3 := hrow2.cell (i := 3) (by omega)
      have f0 := hrow2.frozen 0
      have f1 := hrow2.frozen 1
      have f2 := hrow2.frozen 2
      have f3 := hrow2.frozen 3
      obtain rfl : p = xs.length := by omega
      have Hbt := hide hbt
      have Hfit := hide hfit
      clear hrow hrow2 hbt hfit hc
      go_wp2
      refine bodyPost_ret (v := .agg #[.int .u64 (g 0 : Nat), .int .u64 (g 1 : Nat), .int .u64 (g 2 : Nat), .int .u64 (g 3 : Nat)]) (by simp [results, Tryd.results62, go_sem, d0, d1, d2, d3]) rfl ⟨g, rfl, ⟨unhide Hfit, unhide Hbt⟩, ?_⟩
      exact bput (bput (bput (bput hb (by omega) _) (by omega) _) (by omega) _) (by omega) _

end Go.Proofs.YtfdkdjngeomcdaaDoor

namespace Go.Proofs.YtfdkdjngeomcdaaDoor
open Go.RowKit

/-- The words of n sets, sz words each. -/
def flatF (sz n : Nat) (f : Nat → Nat → Nat) : List Value := (List.range (n * sz)).map (fun k => wd (f (k / sz)) (k % sz))
theorem flatF_len (sz n : Nat) (f : Nat → Nat → Nat) : (flatF sz n f).length = n * sz := by simp [flatF]
theorem flatF_next (sz n : Nat) (hs : 0 < sz) (f : Nat → Nat → Nat) : flatF sz (n + 1) f = flatF sz n f ++ (List.range sz).map (wd (f n)) := by
  unfold flatF
  rw [Nat.succ_mul, List.range_add, List.map_append, List.map_map]
  congr 1
  refine List.map_congr_left (fun j hj => ?_)
  have := List.mem_range.1 hj
  simp only [Function.comp]
  rw [Nat.add_comm, Nat.add_mul_div_right _ _ hs, Nat.add_mul_mod_self_right, Nat.div_eq_of_lt this, Nat.mod_eq_of_lt this, Nat.zero_add]
theorem flatF_congr {sz n : Nat} {f h : Nat → Nat → Nat} (hs : 0 < sz) (e : ∀ i, i < n → f i = h i) : flatF sz n f = flatF sz n h := by
  unfold flatF
  refine List.map_congr_left (fun k hk => ?_)
  have := List.mem_range.1 hk
  rw [e _ ((Nat.div_lt_iff_lt_mul hs).2 this)]
theorem flatF_at (sz n : Nat) (f : Nat → Nat → Nat) {k : Nat} (hk : k < n * sz) : (flatF sz n f)[k]? = some (wd (f (k / sz)) (k % sz)) := by simp [flatF, hk]

/-- A row that is owned, as a row of cells, and back. -/
theorem own_row {base e sz n : Nat} {w : World} {v : Value} {xs : List Value} (h : w.ownsRow base e sz v n xs) (hp : 0 < n) : ∃ g cap m F, v = .slice (some ⟨g, 0, none⟩) n cap ∧ g < w.heap.size ∧ w.rowIs g e m F ∧ n * sz ≤ m ∧ (∀ k, k < n * sz → xs[k]? = some (F k)) ∧
    ∀ (w' : World) (F' : Nat → Value) (ys : List Value), w'.rowIs g e m F' → ys.length = n * sz → (∀ k, k < n * sz → ys[k]? = some (F' k)) → w'.ownsRow base e sz v n ys := by
  obtain ⟨hl, h⟩ := h
  rcases h with ⟨-, h⟩ | ⟨g, cap, cur, rfl, hb, hg, hnc, hcm, hcs, ht⟩
  · omega
  · have hm : n * sz ≤ cap * sz := Nat.mul_le_mul_right _ hnc
    refine ⟨g, cap, cur.size, fun k => cur[k]?.getD undef, rfl, ?_, ⟨cur, hg, rfl, fun i hi => by simp [Array.getElem?_eq_getElem hi]⟩, by omega, fun k hk => ?_, fun w' F' ys hr hy hF => ?_⟩
    · rcases Nat.lt_or_ge g w.heap.size with h | h
      · exact h
      · rw [Array.getElem?_eq_none h] at hg; cases hg
    · rw [← ht, List.getElem?_take_of_lt hk, Array.getElem?_toList, Array.getElem?_eq_getElem (show k < cur.size by omega)]; simp [Array.getElem?_eq_getElem (show k < cur.size by omega)]
    · obtain ⟨c, h1, h2, h3⟩ := hr
      refine ⟨hy, Or.inr ⟨g, cap, c, rfl, hb, h1, hnc, hcm, by omega, ?_⟩⟩
      refine List.ext_getElem? (fun k => ?_)
      by_cases hk : k < n * sz
      · rw [List.getElem?_take_of_lt hk, Array.getElem?_toList, h3 k (by omega), hF k hk]
      · rw [List.getElem?_eq_none (by rw [List.length_take]; omega), List.getElem?_eq_none (by omega)]

/-- Outside the blocks of O nothing has changed. -/
structure FrO (O : Nat → Prop) (w w' : World) : Prop where
  os : w'.os = w.os
  tape : w'.tape = w.tape
  output : w'.output = w.output
  size : w.heap.size ≤ w'.heap.size
  block : ∀ k, ¬ O k → w'.heap[k]? = w.heap[k]?
theorem FrO.refl (O : Nat → Prop) (w : World) : FrO O w w := ⟨rfl, rfl, rfl, Nat.le_refl _, fun _ _ => rfl⟩
theorem FrO.trans {O : Nat → Prop} {a b c : World} (h : FrO O a b) (k : FrO O b c) : FrO O a c := ⟨k.os.trans h.os, k.tape.trans h.tape, k.output.trans h.output, Nat.le_trans h.size k.size, fun i hi => (k.block i hi).trans (h.block i hi)⟩
theorem FrO.mono {O O' : Nat → Prop} {a b : World} (h : FrO O a b) (hO : ∀ k, O k → O' k) : FrO O' a b := ⟨h.os, h.tape, h.output, h.size, fun k hk => h.block k (fun e => hk (hO k e))⟩
theorem FrO.drew {O : Nat → Prop} {a b : World} (h : FrO O a b) : FrO O a b.drew := ⟨h.os, h.tape, h.output, h.size, h.block⟩
theorem fro_of {O : Nat → Prop} {a b : World} (h : Below a.heap.size a b) (hO : ∀ k, a.heap.size ≤ k → O k) : FrO O a b := ⟨h.os, h.tape, h.output, h.size, fun k hk => h.block k (by apply Nat.lt_of_not_le; intro e; exact hk (hO k e))⟩
theorem Obk.fro {O : Nat → Prop} {g : Nat} {a b : World} (h : Obk g a b) (hO : O g) : FrO O a b := ⟨h.os, h.tape, h.output, by rw [h.size]; exact Nat.le_refl _, fun k hk => h.block k (fun e => hk (e ▸ hO))⟩
theorem FrO.below {O : Nat → Prop} {a b : World} {m : Nat} (h : FrO O a b) (hO : ∀ k, k < m → ¬ O k) : Below m a b := ⟨h.os, h.tape, h.output, h.size, fun k hk => h.block k (hO k hk)⟩

/-- The blocks of O but those from a on and below b. -/
def Sk (O : Nat → Prop) (a b : Nat) : Nat → Prop := fun k => O k ∧ (k < a ∨ b ≤ k)

/-- The automaton in the making: its box, its sets, its follow sets. -/
structure AuM (O : Nat → Prop) (A : Nat) (w : World) (sv fv : Value) (n m : Nat) (gs hs : Nat → Nat → Nat) : Prop where
  box : ∃ F, w.rowIs A 82 19 F ∧ F 0 = sv ∧ F 1 = fv
  oA : O A
  so : w.ownsRow 0 64 4 sv n (flatF 4 n gs)
  fo : w.ownsRow 0 78 8 fv m (flatF 8 m hs)
  sb : ∀ q, sv.ownBlock = some q → O q ∧ q ≠ A
  fb : ∀ q, fv.ownBlock = some q → O q ∧ q ≠ A
  sf : ∀ q, sv.ownBlock = some q → fv.ownBlock ≠ some q
theorem own_blk {base e sz n : Nat} {w w' : World} {v : Value} {xs : List Value} (h : w.ownsRow base e sz v n xs) (hs : ∀ q, v.ownBlock = some q → w'.heap[q]? = w.heap[q]?) : w'.ownsRow base e sz v n xs := by
  refine ⟨h.1, ?_⟩
  rcases h.2 with hn | ⟨g, cap, cur, rfl, hb, hg, rest⟩
  · exact .inl hn
  · exact .inr ⟨g, cap, cur, rfl, hb, (hs g rfl).trans hg, rest⟩
theorem own_lt {base e sz n : Nat} {w : World} {v : Value} {xs : List Value} (h : w.ownsRow base e sz v n xs) : ∀ q, v.ownBlock = some q → q < w.heap.size := fun q hq => (h.lt q hq).2
section
variable {O : Nat → Prop} {A : Nat} {w w' : World} {sv fv : Value} {n m : Nat} {gs hs : Nat → Nat → Nat}
theorem AuM.lt (h : AuM O A w sv fv n m gs hs) : A < w.heap.size := by obtain ⟨F, hF, -⟩ := h.box; exact hF.lt
theorem AuM.keep (h : AuM O A w sv fv n m gs hs) (e : ∀ k, O k → k < w.heap.size → w'.heap[k]? = w.heap[k]?) : AuM O A w' sv fv n m gs hs := by
  have hA := h.lt
  obtain ⟨F, hF, h0, h1⟩ := h.box
  exact ⟨⟨F, hF.of_block (e A h.oA hA), h0, h1⟩, h.oA, own_blk h.so (fun q hq => e q (h.sb q hq).1 (own_lt h.so q hq)), own_blk h.fo (fun q hq => e q (h.fb q hq).1 (own_lt h.fo q hq)), h.sb, h.fb, h.sf⟩
theorem AuM.mono (h : AuM O A w sv fv n m gs hs) {O' : Nat → Prop} (e : ∀ k, O k → O' k) : AuM O' A w sv fv n m gs hs :=
  ⟨h.box, e _ h.oA, h.so, h.fo, fun q hq => ⟨e _ (h.sb q hq).1, (h.sb q hq).2⟩, fun q hq => ⟨e _ (h.fb q hq).1, (h.fb q hq).2⟩, h.sf⟩
/-- Behind new boxes, which it does not hold. -/
theorem AuM.skip (h : AuM O A w sv fv n m gs hs) (hb : Below w.heap.size w w') : AuM (Sk O w.heap.size w'.heap.size) A w' sv fv n m gs hs := by
  have h2 := h.keep (fun k _ hk => hb.block k hk)
  exact ⟨h2.box, ⟨h.oA, Or.inl h.lt⟩, h2.so, h2.fo, fun q hq => ⟨⟨(h.sb q hq).1, Or.inl (own_lt h.so q hq)⟩, (h.sb q hq).2⟩, fun q hq => ⟨⟨(h.fb q hq).1, Or.inl (own_lt h.fo q hq)⟩, (h.fb q hq).2⟩, h.sf⟩
theorem AuM.facts (h : AuM O A w sv fv n m gs hs) : w.cell? ⟨A, 0, none⟩ = some sv ∧ w.cell? ⟨A, 1, none⟩ = some fv ∧ w.frozen? ⟨A, 0, none⟩ = false ∧ w.frozen? ⟨A, 1, none⟩ = false := by
  obtain ⟨F, hF, h0, h1⟩ := h.box
  exact ⟨by rw [hF.cell (by omega), h0], by rw [hF.cell (by omega), h1], hF.frozen 0, hF.frozen 1⟩
/-- One set more. -/
theorem AuM.pushS {W w7 : World} {g cap H : Nat} {x : Nat → Nat} (h : AuM O A w sv fv n m gs hs) (hW : Below w.heap.size w W) (hH : W.heap.size = H) (hO : ∀ k, w.heap.size ≤ k → O k)
    (r1 : w7.ownsRow 0 64 4 (.slice (some ⟨g, 0, none⟩) (n + 1) cap) (n + 1) (flatF 4 n gs ++ [wd x 0, wd x 1, wd x 2, wd x 3])) (r2 : W.grownBy w7 sv.ownBlock) (r3 : sv.ownBlock = some g ∨ g = H) :
    AuM O A (w7.setCell ⟨A, 0, none⟩ (.slice (some ⟨g, 0, none⟩) (n + 1) cap)) (.slice (some ⟨g, 0, none⟩) (n + 1) cap) fv (n + 1) m (fun i => if i = n then x else gs i) hs ∧ FrO O w (w7.setCell ⟨A, 0, none⟩ (.slice (some ⟨g, 0, none⟩) (n + 1) cap)) ∧ FrO O w w7 ∧ w7.frozen? ⟨A, 0, none⟩ = false ∧ w7.cell? ⟨A, 0, none⟩ = some sv := by
  have hz := hW.size
  have hgA : g ≠ A := by
    rcases r3 with r3 | r3
    · exact (h.sb g r3).2
    · have := h.lt; omega
  have hOg : O g := by
    rcases r3 with r3 | r3
    · exact (h.sb g r3).1
    · exact hO g (by omega)
  have k7 : ∀ k, k < w.heap.size → sv.ownBlock ≠ some k → w7.heap[k]? = w.heap[k]? := fun k hk hne => (r2.block k (by omega) (fun e => hne e.symm)).trans (hW.block k hk)
  have kA : w7.heap[A]? = w.heap[A]? := k7 A h.lt (fun e => (h.sb A e).2 rfl)
  have hsz7 := r2.size
  obtain ⟨F, hF, h0, h1⟩ := h.box
  have hF7 := hF.of_block kA
  have fr7 : FrO O w w7 := ⟨r2.os.trans hW.os, r2.tape.trans hW.tape, r2.output.trans hW.output, by omega, fun k hk => by
    have hk2 : k < w.heap.size := by apply Nat.lt_of_not_le; intro e; exact hk (hO k e)
    exact k7 k hk2 (fun e => hk (h.sb k e).1)⟩
  refine ⟨⟨⟨_, hF7.set 0 _, by simp, by simp [h1]⟩, h.oA, ?_, ?_, fun q hq => ?_, h.fb, fun q hq hf => ?_⟩, ?_, fr7, hF7.frozen 0, by rw [hF7.cell (by omega), h0]⟩
  · have e : flatF 4 (n + 1) (fun i => if i = n then x else gs i) = flatF 4 n gs ++ [wd x 0, wd x 1, wd x 2, wd x 3] := by
      rw [flatF_next _ _ (by omega), flatF_congr (h := gs) (by omega) (fun i hi => by rw [if_neg (by omega)])]
      simp [List.range_succ]
    rw [e]
    exact own_blk r1 (fun q hq => by cases hq; exact Below.heap_setCell _ _ _ _ (by show g ≠ A; exact hgA))
  · exact own_blk h.fo (fun q hq => (Below.heap_setCell _ _ _ _ (by show q ≠ A; exact (h.fb q hq).2)).trans (k7 q (own_lt h.fo q hq) (fun e => h.sf q e hq)))
  · cases hq; exact ⟨hOg, hgA⟩
  · cases hq
    rcases r3 with r3 | r3
    · exact h.sf g r3 hf
    · have := own_lt h.fo g hf; omega
  · exact ⟨fr7.os, fr7.tape, fr7.output, by rw [sz_put]; exact fr7.size, fun k hk => (Below.heap_setCell _ _ _ _ (by show k ≠ A; exact fun e => hk (e ▸ h.oA))).trans (fr7.block k hk)⟩
/-- One follow set more, empty. -/
theorem AuM.pushF {W w7 : World} {g cap H : Nat} {x : Nat → Nat} (h : AuM O A w sv fv n m gs hs) (hW : Below w.heap.size w W) (hH : W.heap.size = H) (hO : ∀ k, w.heap.size ≤ k → O k) (hx : hs m = x)
    (r1 : w7.ownsRow 0 78 8 (.slice (some ⟨g, 0, none⟩) (m + 1) cap) (m + 1) (flatF 8 m hs ++ [wd x 0, wd x 1, wd x 2, wd x 3, wd x 4, wd x 5, wd x 6, wd x 7])) (r2 : W.grownBy w7 fv.ownBlock) (r3 : fv.ownBlock = some g ∨ g = H) :
    AuM O A (w7.setCell ⟨A, 1, none⟩ (.slice (some ⟨g, 0, none⟩) (m + 1) cap)) sv (.slice (some ⟨g, 0, none⟩) (m + 1) cap) n (m + 1) gs hs ∧ FrO O w (w7.setCell ⟨A, 1, none⟩ (.slice (some ⟨g, 0, none⟩) (m + 1) cap)) ∧ FrO O w w7 ∧ w7.frozen? ⟨A, 1, none⟩ = false ∧ w7.cell? ⟨A, 1, none⟩ = some fv := by
  have hz := hW.size
  have hgA : g ≠ A := by
    rcases r3 with r3 | r3
    · exact (h.fb g r3).2
    · have := h.lt; omega
  have hOg : O g := by
    rcases r3 with r3 | r3
    · exact (h.fb g r3).1
    · exact hO g (by omega)
  have k7 : ∀ k, k < w.heap.size → fv.ownBlock ≠ some k → w7.heap[k]? = w.heap[k]? := fun k hk hne => (r2.block k (by omega) (fun e => hne e.symm)).trans (hW.block k hk)
  have kA : w7.heap[A]? = w.heap[A]? := k7 A h.lt (fun e => (h.fb A e).2 rfl)
  have hsz7 := r2.size
  obtain ⟨F, hF, h0, h1⟩ := h.box
  have hF7 := hF.of_block kA
  have fr7 : FrO O w w7 := ⟨r2.os.trans hW.os, r2.tape.trans hW.tape, r2.output.trans hW.output, by omega, fun k hk => by
    have hk2 : k < w.heap.size := by apply Nat.lt_of_not_le; intro e; exact hk (hO k e)
    exact k7 k hk2 (fun e => hk (h.fb k e).1)⟩
  refine ⟨⟨⟨_, hF7.set 1 _, by simp [h0], by simp⟩, h.oA, ?_, ?_, h.sb, fun q hq => ?_, fun q hq hf => ?_⟩, ?_, fr7, hF7.frozen 1, by rw [hF7.cell (by omega), h1]⟩
  · exact own_blk h.so (fun q hq => (Below.heap_setCell _ _ _ _ (by show q ≠ A; exact (h.sb q hq).2)).trans (k7 q (own_lt h.so q hq) (fun e => h.sf q hq e)))
  · have e : flatF 8 (m + 1) hs = flatF 8 m hs ++ [wd x 0, wd x 1, wd x 2, wd x 3, wd x 4, wd x 5, wd x 6, wd x 7] := by
      rw [flatF_next _ _ (by omega), hx]
      simp [List.range_succ]
    rw [e]
    exact own_blk r1 (fun q hq => by cases hq; exact Below.heap_setCell _ _ _ _ (by show g ≠ A; exact hgA))
  · cases hq; exact ⟨hOg, hgA⟩
  · cases hf
    rcases r3 with r3 | r3
    · exact h.sf g hq r3
    · have := own_lt h.so g hq; omega
  · exact ⟨fr7.os, fr7.tape, fr7.output, by rw [sz_put]; exact fr7.size, fun k hk => (Below.heap_setCell _ _ _ _ (by show k ≠ A; exact fun e => hk (e ▸ h.oA))).trans (fr7.block k hk)⟩
/-- The i-th follow set, as a row of cells, and back. -/
theorem AuM.folRow (h : AuM O A w sv fv n m gs hs) {i : Nat} (hi : i < m) : ∃ g cap M F, fv = .slice (some ⟨g, 0, none⟩) m cap ∧ O g ∧ g < w.heap.size ∧ w.rowIs g 78 M F ∧ i * 8 + 8 ≤ M ∧ (∀ j, j < 8 → F (i * 8 + j) = wd (hs i) j) ∧
    ∀ (w' : World) (x : Nat → Nat), w'.rowIs g 78 M (fun k => if i * 8 ≤ k ∧ k < i * 8 + 8 then wd x (k - i * 8) else F k) → Obk g w w' → AuM O A w' sv fv n m gs (fun j => if j = i then x else hs j) := by
  obtain ⟨g, cap, M, F, rfl, hlt, hr, hM, hF, hback⟩ := own_row h.fo (by omega)
  refine ⟨g, cap, M, F, rfl, (h.fb g rfl).1, hlt, hr, by omega, fun j hj => ?_, fun w' x hr' hob => ?_⟩
  · have h1 := hF (i * 8 + j) (by omega)
    rw [flatF_at _ _ _ (by omega), show (i * 8 + j) / 8 = i by omega, show (i * 8 + j) % 8 = j by omega] at h1
    exact (Option.some.inj h1).symm
  · obtain ⟨F0, hF0, h0, h1⟩ := h.box
    refine ⟨⟨F0, hF0.of_block (hob.block A (fun e => (h.fb g rfl).2 e.symm)), h0, h1⟩, h.oA, own_blk h.so (fun q hq => hob.block q (fun e => h.sf q hq (by rw [e]; rfl))), ?_, h.sb, h.fb, h.sf⟩
    refine hback w' _ _ hr' (flatF_len _ _ _) (fun k hk => ?_)
    rw [flatF_at _ _ _ hk]
    by_cases e : i * 8 ≤ k ∧ k < i * 8 + 8
    · rw [if_pos e, if_pos (by omega), show k % 8 = k - i * 8 by omega]
    · rw [if_neg e, if_neg (by omega)]
      have h2 := hF k hk
      rw [flatF_at _ _ _ hk] at h2
      exact h2
end

end Go.Proofs.YtfdkdjngeomcdaaDoor

namespace Go.Proofs.YtfdkdjngeomcdaaDoor
open Go.RowKit

/-- The words of a set of positions. -/
def BitsOf (f : Nat → Nat) (xs : List Nat) : Prop := Fit f ∧ ∀ b, Bt f b = xs.contains b
/-- The automaton in the making: N positions, their sets, the links. -/
def AuAt (O : Nat → Prop) (A : Nat) (w : World) (N : Nat) (S : List (List Int)) (K : List Lk) : Prop :=
  ∃ sv fv gs hs, AuM O A w sv fv N N gs hs ∧ S.length = N ∧ (∀ i, i < N → Canon (S[i]?.getD []) ∧ WordsOf (S[i]?.getD []) (gs i)) ∧ (∀ i, Fit (hs i)) ∧ (∀ i j, Bt (hs i) j = mkd K i j) ∧ ∀ i, N ≤ i → hs i = fun _ => 0
/-- The table is there, and is not of the blocks that are written. -/
def TzO (O : Nat → Prop) (w : World) : Prop := TZ w ∧ Tryd.laysTZ_ren.g 1 < w.heap.size ∧ ¬ O (Tryd.laysTZ_ren.g 1)
section
variable {O O' : Nat → Prop} {A N : Nat} {w w' : World} {S : List (List Int)} {K K' : List Lk}
theorem AuAt.mono (h : AuAt O A w N S K) (e : ∀ k, O k → O' k) : AuAt O' A w N S K := by
  obtain ⟨sv, fv, gs, hs, h1, h2⟩ := h
  exact ⟨sv, fv, gs, hs, h1.mono e, h2⟩
theorem AuAt.keep (h : AuAt O A w N S K) (e : ∀ k, O k → k < w.heap.size → w'.heap[k]? = w.heap[k]?) : AuAt O A w' N S K := by
  obtain ⟨sv, fv, gs, hs, h1, h2⟩ := h
  exact ⟨sv, fv, gs, hs, h1.keep e, h2⟩
theorem AuAt.skip (h : AuAt O A w N S K) (hb : Below w.heap.size w w') : AuAt (Sk O w.heap.size w'.heap.size) A w' N S K := by
  obtain ⟨sv, fv, gs, hs, h1, h2⟩ := h
  exact ⟨sv, fv, gs, hs, h1.skip hb, h2⟩
theorem AuAt.same (h : AuAt O A w N S K) (e : ∀ i j, mkd K i j = mkd K' i j) : AuAt O A w N S K' := by
  obtain ⟨sv, fv, gs, hs, h1, h2, h3, h4, h5, h6⟩ := h
  exact ⟨sv, fv, gs, hs, h1, h2, h3, h4, fun i j => (h5 i j).trans (e i j), h6⟩
theorem TzO.fr (h : TzO O w) (hf : FrO O w w') : TzO O w' := ⟨h.1.same (hf.block _ h.2.2), Nat.lt_of_lt_of_le h.2.1 hf.size, h.2.2⟩
theorem TzO.less (h : TzO O w) (e : ∀ k, O' k → O k) : TzO O' w := ⟨h.1, h.2.1, fun q => h.2.2 (e _ q)⟩
theorem TzO.below (h : TzO O w) (hb : Below w.heap.size w w') : TzO O w' := ⟨h.1.below hb h.2.1, Nat.lt_of_lt_of_le h.2.1 hb.size, h.2.2⟩
theorem Sk.sub {a b : Nat} : ∀ k, Sk O a b k → O k := fun _ h => h.1
theorem Sk.top {a b m : Nat} (hO : ∀ k, a ≤ k → O k) (h : a ≤ m) (h2 : b ≤ m) : ∀ k, m ≤ k → Sk O a b k := fun k hk => ⟨hO k (by omega), Or.inr (by omega)⟩
theorem AuAt.n (h : AuAt O A w N S K) : S.length = N := by obtain ⟨_, _, _, _, -, h, -⟩ := h; exact h
theorem AuAt.lt (h : AuAt O A w N S K) : A < w.heap.size := by obtain ⟨_, _, _, _, h, -⟩ := h; exact h.lt
end
theorem mem_bl {f : Nat → Nat} {xs : List Nat} (h : BitsOf f xs) (hx : ∀ x ∈ xs, x < 512) (i : Nat) : (blN f 512).contains i = xs.contains i := by
  rw [Bool.eq_iff_iff, List.contains_iff_mem, List.contains_iff_mem]
  unfold blN
  rw [List.mem_filter, List.mem_range, h.2 i, List.contains_iff_mem]
  exact ⟨fun q => q.2, fun q => ⟨hx i q, q⟩⟩
theorem eight_row (w : World) (t : TypeId) (g : Nat → Nat) : (w.alloc (.cells #[.int .u64 (g 0 : Nat), .int .u64 (g 1 : Nat), .int .u64 (g 2 : Nat), .int .u64 (g 3 : Nat), .int .u64 (g 4 : Nat), .int .u64 (g 5 : Nat), .int .u64 (g 6 : Nat), .int .u64 (g 7 : Nat)] t)).rowIs w.heap.size t 8 (wd g) := by
  refine World.rowIs_alloc w #[.int .u64 (g 0 : Nat), .int .u64 (g 1 : Nat), .int .u64 (g 2 : Nat), .int .u64 (g 3 : Nat), .int .u64 (g 4 : Nat), .int .u64 (g 5 : Nat), .int .u64 (g 6 : Nat), .int .u64 (g 7 : Nat)] t (wd g) ?_
  intro i hi
  match i, hi with
  | 0, _ => rfl
  | 1, _ => rfl
  | 2, _ => rfl
  | 3, _ => rfl
  | 4, _ => rfl
  | 5, _ => rfl
  | 6, _ => rfl
  | 7, _ => rfl
abbrev o8 (g : Nat → Nat) : Obj := .cells #[.int .u64 (g 0 : Nat), .int .u64 (g 1 : Nat), .int .u64 (g 2 : Nat), .int .u64 (g 3 : Nat), .int .u64 (g 4 : Nat), .int .u64 (g 5 : Nat), .int .u64 (g 6 : Nat), .int .u64 (g 7 : Nat)] 78

set_option maxHeartbeats 4000000 in
set_option maxRecDepth 100000 in
theorem link_any (O : Nat → Prop) (A N : Nat) (S : List (List Int)) (K : List Lk) (f g : Nat → Nat) (xs ys : List Nat) (w : World) (h : AuAt O A w N S K) (hO : ∀ k, w.heap.size ≤ k → O k) (htz : TzO O w) (hf : BitsOf f xs) (hg : BitsOf g ys) (hx : ∀ x ∈ xs, x < N) (hN : N ≤ 512) :
    Calls Tryd.prog 54 #[.pointer (some ⟨A, 0, none⟩), ps8 f, ps8 g] w fun e w' => e = .returned (.tuple #[]) ∧ AuAt O A w' N S (K ++ [(xs, ys)]) ∧ FrO O w w' := by
  have HC := hide (mem_bl hf (fun x h => Nat.lt_of_lt_of_le (hx x h) hN))
  have hlf := blN_len f 512
  have HF := hide hf
  have HG := hide hg
  have HX := hide hx
  have hR2 : ((w.alloc (o8 f)).alloc (o8 g)).rowIs (w.heap.size + 1) 78 8 (wd g) := by
    have := eight_row (w.alloc (o8 f)) 78 g
    rwa [sz_alloc] at this
  have hB1 : Below w.heap.size w ((w.alloc (o8 f)).alloc (o8 g)) := below2 w _ _
  have hL := list_any f hf.1 ((w.alloc (o8 f)).alloc (o8 g)) (htz.below hB1).1 (htz.below hB1).2.1
  have HL := hide hL
  have hz1 : ((w.alloc (o8 f)).alloc (o8 g)).heap.size = w.heap.size + 2 := by rw [sz_alloc, sz_alloc]
  have HH := hide h
  have HO := hide hO
  have HR := hide hR2
  unfold ps8
  clear hf hg hx h hO hR2 hL htz
  go_enter Tryd.func54, Tryd.ntmps54
  go_wp2_with fail
  refine (unhide HL).mono ?_
  rintro e w2 ⟨lv, rfl, ho, hb2⟩
  obtain ⟨X, hX⟩ : ∃ X, X = blN f 512 := ⟨_, rfl⟩
  rw [← hX] at ho HC hlf
  have hB2 : Below w.heap.size w w2 := hB1.trans (hb2.mono (by omega))
  have HR2 := hide ((unhide HR).of_block (hb2.block _ (by omega)))
  obtain ⟨la, lc, rfl, hrd⟩ := own_far ho rfl (by omega)
  have HRD := hide hrd
  have HA2 := hide ((unhide HH).skip hB2)
  have hz2 := hb2.size
  clear ho hrd hb2 HL HR hX HH hB1
  go_wp2_with fail
  go_loopw [11] (fun iv wr => ∃ x : Nat, x ≤ X.length ∧ iv = .int .i64 x ∧ AuAt (Sk O w.heap.size w2.heap.size) A wr N S (K ++ [(X.take x, ys)]) ∧ FrO (Sk O w.heap.size w2.heap.size) w2 wr) (fun iv _ => X.length - (intOf iv).toNat)
  case atStart => exact ⟨0, Nat.zero_le _, rfl, (unhide HA2).same (fun i j => by rw [List.take_zero, mkd_none]), FrO.refl _ _⟩
  case round =>
    clear HA2
    obtain ⟨x, hx, rfl, hA, hfr⟩ := hrel
    by_cases hlt : x < X.length
    · have hlt' : (x : Int) < (X.length : Int) := by omega
      obtain ⟨q, o, rfl, hq1, hq2, hcell⟩ := unhide HRD (by omega)
      have hnO : ∀ k, w.heap.size ≤ k → k < w2.heap.size → wr.heap[k]? = w2.heap[k]? := fun k h1 h2 => hfr.block k (fun e => by rcases e.2 with e | e <;> omega)
      have c0 := hcell wr (hnO q (by omega) hq2) x hlt
      have hi : X[x] < N := unhide HX _ (by
        have h1 : X.contains X[x] = true := List.contains_iff_mem.2 (List.getElem_mem hlt)
        rw [unhide HC] at h1
        exact List.contains_iff_mem.1 h1)
      obtain ⟨i, hiX⟩ : ∃ i, i = X[x] := ⟨_, rfl⟩
      rw [← hiX] at c0 hi
      have HIX := hide hiX
      obtain ⟨sv, fv, gs, hs, hM, hn, hset, hfit, hbt, hzero⟩ := hA
      obtain ⟨g2, cap, M, F, rfl, hOg, hglt, hrow, hMi, hFi, hback⟩ := hM.folRow hi
      obtain ⟨-, c1, -, -⟩ := hM.facts
      have hi' : (i : Int) < (N : Int) := by omega
      have hne : g2 ≠ w.heap.size + 1 := fun e => by rcases hOg.2 with q | q <;> omega
      have hJ := join_any g2 (i * 8) M (w.heap.size + 1) 0 8 _ _ F (wd g) (hs i) g wr (hfit i) (unhide HG).1 hne hrow hFi hMi ((unhide HR2).of_block (hnO _ (by omega) (by omega))) (fun j hj => by rw [Nat.zero_add]) (by omega)
      have HJ := hide hJ
      have HSET := hide hset
      have HFIT := hide hfit
      have HBT := hide hbt
      have HZ := hide hzero
      have HBK := hide hback
      have HFR := hide hfr
      clear hJ hM hset hfit hbt hzero hrow hFi hback hfr hcell hiX hnO
      go_wp2_with fail
      refine (unhide HJ).mono ?_
      rintro e w3 ⟨rfl, hr3, hob⟩
      have hM3 := unhide HBK w3 _ hr3 hob
      have HA3 : Hid (AuAt (Sk O w.heap.size w2.heap.size) A w3 N S (K ++ [(X.take (x + 1), ys)])) := by
        refine ⟨_, _, gs, _, hM3, hn, unhide HSET, fun a => ?_, fun a b => ?_, fun a ha => ?_⟩
        · (try dsimp only)
          split
          · exact fit_or (unhide HFIT i) (unhide HG).1
          · exact unhide HFIT a
        · have e1 : mkd (K ++ [(X.take (x + 1), ys)]) a b = (mkd (K ++ [(X.take x, ys)]) a b || (decide (a = i) && ys.contains b)) := by
            rw [mkd_app, mkd_app, mkd_one, mkd_one, Bool.or_assoc]
            congr 1
            rw [List.take_add_one, List.getElem?_eq_getElem hlt, unhide HIX]
            simp only [Option.toList_some, List.contains_append]
            rw [Bool.and_or_distrib_right]
            congr 1
            simp
          rw [e1]
          (try dsimp only)
          by_cases ea : a = i
          · subst ea
            rw [if_pos rfl, bt_or, unhide HBT, (unhide HG).2]
            simp
          · rw [if_neg ea, unhide HBT]
            simp [ea]
        · (try dsimp only)
          rw [if_neg (by omega)]
          exact unhide HZ a ha
      have HF3 := hide ((unhide HFR).trans (hob.fro hOg))
      clear hr3 hob hM3 HJ HBK HFR HBT HFIT HSET HZ
      go_wp2
      go_roundw
      case rel => exact ⟨x + 1, by omega, by go_num, unhide HA3, unhide HF3⟩
      case measure => simp [intOf]; omega
    · have ex : x = X.length := by omega
      subst ex
      rw [List.take_length] at hA
      have HA3 : Hid (AuAt O A wr N S (K ++ [(xs, ys)])) := (hA.mono Sk.sub).same (fun i j => by rw [mkd_app, mkd_app, mkd_one, mkd_one, unhide HC])
      have HF3 : Hid (FrO O w wr) := (fro_of hB2 (unhide HO)).trans (hfr.mono Sk.sub)
      clear hA hfr
      go_wp2
      first | (refine bodyPost_ret (results_none rfl _ _ _) rfl ?_) | (refine bodyPost_end (results_none rfl _ _ _) rfl ?_)
      exact ⟨rfl, unhide HA3, unhide HF3⟩

end Go.Proofs.YtfdkdjngeomcdaaDoor

namespace Go.Proofs.YtfdkdjngeomcdaaDoor
open Go.RowKit

theorem Tryd.laidOutN : laidOutB Tryd.prog = true := by kernel_rfl
theorem Tryd.lawBs : Maps.Keyed Tryd.prog 64 := Maps.Keyed.of_law (deep_law_laid Tryd.laidOutN (m := 2) (by omega) (of_decide_eq_true (by kernel_rfl)) (by kernel_rfl) (by rw [Tryd.underlying64]))
theorem Tryd.lawPs : Maps.Keyed Tryd.prog 78 := Maps.Keyed.of_law (deep_law_laid Tryd.laidOutN (m := 2) (by omega) (of_decide_eq_true (by kernel_rfl)) (by kernel_rfl) (by rw [Tryd.underlying78]))
theorem wf64 {n : Nat} (h : n < 18446744073709551616) : (Lit.int .u64 (n : Int)).wf = true := WalkArith.wf_u64 (by omega)
/-- This value can be a map's key. -/
def KeyIs (kt : TypeId) (v : Value) : Prop := ∃ kl, keyOf Tryd.prog kt v = some kl
theorem key_bs {g : Nat → Nat} (h : Fit g) : KeyIs 64 (ws4 g) := by
  have c1 : Tryd.prog.cellsOf 64 = 4 := by kernel_rfl
  have c2 : Tryd.prog.cellsOf 62 = 1 := by kernel_rfl
  have hk : Tryd.prog.keyType 64 = true := by kernel_rfl
  obtain ⟨m, hm⟩ : ∃ m, Tryd.prog.types.size = m + 1 := ⟨Tryd.prog.types.size - 1, by have : 0 < Tryd.prog.types.size := of_decide_eq_true (by kernel_rfl); omega⟩
  unfold KeyIs keyOf
  simp only [Tryd.underlying64]
  rw [if_pos (by simp [hk, Value.formed, Tryd.underlying64, c1, ws4]), hm]
  unfold Program.keyLits
  simp only [Tryd.underlying64, Value.cells, ws4]
  rw [if_pos (by rw [c1]; rfl)]
  simp [List.range_succ, Program.keyLits, Tryd.underlying62, c2, wf64 (h 0), wf64 (h 1), wf64 (h 2), wf64 (h 3)]
theorem key_ps {g : Nat → Nat} (h : Fit g) : KeyIs 78 (ps8 g) := by
  have c1 : Tryd.prog.cellsOf 78 = 8 := by kernel_rfl
  have c2 : Tryd.prog.cellsOf 62 = 1 := by kernel_rfl
  have hk : Tryd.prog.keyType 78 = true := by kernel_rfl
  obtain ⟨m, hm⟩ : ∃ m, Tryd.prog.types.size = m + 1 := ⟨Tryd.prog.types.size - 1, by have : 0 < Tryd.prog.types.size := of_decide_eq_true (by kernel_rfl); omega⟩
  unfold KeyIs keyOf
  simp only [Tryd.underlying78]
  rw [if_pos (by simp [hk, Value.formed, Tryd.underlying78, c1, ps8]), hm]
  unfold Program.keyLits
  simp only [Tryd.underlying78, Value.cells, ps8]
  rw [if_pos (by rw [c1]; rfl)]
  simp [List.range_succ, Program.keyLits, Tryd.underlying62, c2, wf64 (h 0), wf64 (h 1), wf64 (h 2), wf64 (h 3), wf64 (h 4), wf64 (h 5), wf64 (h 6), wf64 (h 7)]

/-- A map that numbers these keys in their order. -/
def NumAt (kt : TypeId) (w : World) (b : Nat) (ks : List Value) : Prop :=
  ∃ es clock, w.heap[b]? = some (.map es clock) ∧ WideElems.Fit Tryd.prog kt (plainElem (H := Unit) Tryd.prog 3) es clock ∧ es.size = ks.length ∧ (∀ i v, ks[i]? = some v → ∃ e ∈ es.toList, e.key = v ∧ e.val = .int .i64 (i : Nat)) ∧ ∀ e ∈ es.toList, ∃ i : Nat, ks[i]? = some e.key ∧ e.val = .int .i64 i
section
variable {kt mt : TypeId} {w w' : World} {b : Nat} {ks : List Value}
theorem NumAt.lt (h : NumAt kt w b ks) : b < w.heap.size := by
  obtain ⟨es, clock, hb, -⟩ := h
  exact (Array.getElem?_eq_some_iff.1 hb).1
theorem NumAt.keep (h : NumAt kt w b ks) (e : w'.heap[b]? = w.heap[b]?) : NumAt kt w' b ks := by
  obtain ⟨es, clock, hb, h2⟩ := h
  exact ⟨es, clock, e.trans hb, h2⟩
theorem num_new (kt : TypeId) (w : World) : NumAt kt (w.alloc (.map #[] 0)) w.heap.size [] :=
  ⟨#[], 0, (MapKept.heap_alloc w _).1, ⟨by simp, MapKept.stamped_empty 0, by simp⟩, rfl, by simp, by simp⟩
theorem NumAt.len (h : NumAt kt w b ks) {et : TypeId} (ht : Tryd.prog.underlying mt = some (.map kt et)) (ty : TypeId) : (Builtin.len_ #[mt] ty #[.map (some b)]).run Tryd.prog w = .ok (.int .i64 (ks.length : Nat)) w := by
  obtain ⟨es, clock, hb, -, hs, -⟩ := h
  rw [← hs]
  simp [Builtin.len_, run_underlying ht, MapKept.run_getObj_map hb, goInt]
/-- v, ok := m[k]. -/
theorem NumAt.look (h : NumAt kt w b ks) (K : Maps.Keyed Tryd.prog kt) (ht : Tryd.prog.underlying mt = some (.map kt 3)) {v : Value} (hv : KeyIs kt v) :
    (∃ i : Nat, ks[i]? = some v ∧ (Instr.lookup mt (.map (some b)) v true).run Tryd.prog w = .ok (.tuple #[.int .i64 i, .bool true]) w) ∨ (v ∉ ks ∧ (Instr.lookup mt (.map (some b)) v true).run Tryd.prog w = .ok (.tuple #[.int .i64 0, .bool false]) w) := by
  obtain ⟨es, clock, hb, F, hs, h1, h2⟩ := h
  obtain ⟨kl, hkl⟩ := hv
  have hz : (zeroValue 3).run Tryd.prog w = .ok (.int .i64 0) w := by kernel_rfl
  rcases Maps.fit_look true K ht hz hb F hkl with ⟨hrun, hno, -⟩ | ⟨e0, y, hm, hk, hrun, -⟩
  · right
    refine ⟨fun hm => ?_, hrun⟩
    obtain ⟨i, hi⟩ := List.getElem?_of_mem hm
    obtain ⟨e, he, hek, -⟩ := h1 i v hi
    exact hno e he hek
  · left
    obtain ⟨i, hi, hval⟩ := h2 e0 hm
    rw [hk] at hi
    rw [hval] at hrun
    exact ⟨i, hi, hrun⟩
/-- m[k] = len(m), of a key that is new. -/
theorem NumAt.put (h : NumAt kt w b ks) (K : Maps.Keyed Tryd.prog kt) (ht : Tryd.prog.underlying mt = some (.map kt 3)) (hn : ks.length < 100000) {v : Value} (hv : KeyIs kt v) (hnew : v ∉ ks) :
    ∃ w', (Instr.mapUpdate mt (.map (some b)) v (.int .i64 (ks.length : Nat))).run Tryd.prog w = .ok () w' ∧ NumAt kt w' b (ks ++ [v]) ∧ Obk b w w' := by
  obtain ⟨es, clock, hb, F, hs, h1, h2⟩ := h
  obtain ⟨kl, hkl⟩ := hv
  have hval : plainElem (H := Unit) Tryd.prog 3 (.int .i64 (ks.length : Nat)) = some (.lit (.int .i64 (ks.length : Nat)), []) := plainElem_int Tryd.underlying3 (WalkArith.wf_i64 (by omega))
  rcases K.find w hkl es.toList F.keys with ⟨h3, h4⟩ | ⟨j, e0, -, h5, h6⟩
  · have hrun : (Instr.mapUpdate mt (.map (some b)) v (.int .i64 (ks.length : Nat))).run Tryd.prog w = .ok () (ChangeMaps.setBlock w b (.map (es.push ⟨v, .int .i64 (ks.length : Nat), clock⟩) (clock + 1))) := by
      simp [Instr.mapUpdate, run_underlying ht, MapKept.run_getObj_map hb, K.check w false hkl, h3, MapKept.run_setObj_map _ hb, Result.andThen, ChangeMaps.setBlock]
    refine ⟨_, hrun, ⟨es.push ⟨v, .int .i64 (ks.length : Nat), clock⟩, clock + 1, ChangeMaps.heap_setBlock_same hb _, ⟨by rw [Array.size_push, hs]; unfold maxLen; omega, MapKept.stamped_push F.stamped h4, fun x hx => ?_⟩, by rw [Array.size_push, hs]; simp, fun i u hi => ?_, fun e he => ?_⟩, ⟨rfl, rfl, rfl, by simp [ChangeMaps.setBlock], fun k hk => ChangeMaps.heap_setBlock_other hb _ hk⟩⟩
    · simp only [Array.toList_push, List.mem_append, List.mem_singleton] at hx
      rcases hx with hx | rfl
      · exact F.reads x hx
      · exact ⟨_, WideElems.rd_mk hkl hval⟩
    · by_cases e : i < ks.length
      · rw [List.getElem?_append_left e] at hi
        obtain ⟨e2, he, h7⟩ := h1 i u hi
        exact ⟨e2, by simp [he], h7⟩
      · rw [List.getElem?_append_right (by omega)] at hi
        obtain ⟨rfl, e3⟩ : i = ks.length ∧ v = u := by
          by_cases e4 : i = ks.length
          · subst e4; simpa using hi
          · rw [List.getElem?_eq_none (by simp; omega)] at hi; cases hi
        exact ⟨⟨v, .int .i64 (ks.length : Nat), clock⟩, by simp, e3, rfl⟩
    · simp only [Array.toList_push, List.mem_append, List.mem_singleton] at he
      rcases he with he | rfl
      · obtain ⟨i, hi, hv2⟩ := h2 e he
        have hlt : i < ks.length := by
          apply Nat.lt_of_not_le
          intro q
          rw [List.getElem?_eq_none q] at hi
          cases hi
        exact ⟨i, by rw [List.getElem?_append_left hlt]; exact hi, hv2⟩
      · exact ⟨ks.length, by simp, rfl⟩
  · obtain ⟨i, hi, -⟩ := h2 e0 (List.mem_of_getElem? h5)
    rw [h6] at hi
    exact absurd (List.mem_of_getElem? hi) hnew
end

end Go.Proofs.YtfdkdjngeomcdaaDoor
