import Derived.Test.YtpkghafpelilfaaT2
import Derived.Test.YtpkghafpelilfaaK1
namespace Go.Proofs.Ytpkghafpelilfaa
open Go.RowKit

/-- The first line of a text. -/
def hd (xs : List Int) : List Int := xs.takeWhile (fun x => x != 10)
theorem hd_len (xs : List Int) : (hd xs).length ≤ xs.length := by
  unfold hd
  induction xs with
  | nil => simp
  | cons x r ih =>
    rw [List.takeWhile_cons]
    split
    · simp; omega
    · simp
theorem hd_take (ys : List Int) (m : Nat) (h1 : m ≤ ys.length) (h2 : ∀ j : Nat, j < m → ys[j]?.getD 0 ≠ 10) (h3 : m = ys.length ∨ ys[m]?.getD 0 = 10) : hd ys = ys.take m := by
  unfold hd
  induction ys generalizing m with
  | nil => simp
  | cons y r ih =>
    cases m with
    | zero =>
      have h4 : y = 10 := by
        rcases h3 with h3 | h3
        · simp at h3
        · simpa using h3
      subst h4
      simp
    | succ m =>
      have h4 : y ≠ 10 := by simpa using h2 0 (by omega)
      rw [List.takeWhile_cons, if_pos (by simpa using h4), List.take_succ_cons]
      congr 1
      refine ih m (by simpa using h1) (fun j hj => by simpa using h2 (j + 1) (by omega)) ?_
      rcases h3 with h3 | h3
      · exact Or.inl (by simpa using h3)
      · exact Or.inr (by simpa using h3)

/-- The lines of a text. -/
def lnsF : Nat → List Int → List (List Int)
  | 0, _ => []
  | n + 1, xs => if xs = [] then [] else hd xs :: lnsF n (xs.drop ((hd xs).length + 1))
theorem lnsF_nil (n : Nat) : lnsF n [] = [] := by cases n <;> simp [lnsF]
theorem lnsF_same (n : Nat) : ∀ (m : Nat) (xs : List Int), xs.length ≤ n → xs.length ≤ m → lnsF n xs = lnsF m xs := by
  induction n with
  | zero =>
    intro m xs h _
    rw [List.eq_nil_of_length_eq_zero (by omega : xs.length = 0), lnsF_nil, lnsF_nil]
  | succ n ih =>
    intro m xs h hm
    by_cases e : xs = []
    · subst e
      rw [lnsF_nil, lnsF_nil]
    · have hp : 0 < xs.length := List.length_pos_iff.2 e
      obtain ⟨m', rfl⟩ : ∃ m', m = m' + 1 := ⟨m - 1, by omega⟩
      simp only [lnsF, e, if_false]
      rw [ih m' _ (by simp; omega) (by simp; omega)]
def lns (xs : List Int) : List (List Int) := lnsF xs.length xs
theorem lns_nil : lns [] = [] := rfl
theorem lns_cons {xs : List Int} (h : xs ≠ []) : lns xs = hd xs :: lns (xs.drop ((hd xs).length + 1)) := by
  have hp : 0 < xs.length := List.length_pos_iff.2 h
  unfold lns
  obtain ⟨m, e⟩ : ∃ m, xs.length = m + 1 := ⟨xs.length - 1, by omega⟩
  rw [e]
  simp only [lnsF, h, if_false]
  rw [lnsF_same m _ _ (by simp; omega) (Nat.le_refl _)]
theorem lnsF_len (n : Nat) : ∀ xs : List Int, (lnsF n xs).length ≤ xs.length ∧ tot (lnsF n xs) ≤ xs.length := by
  induction n with
  | zero => intro xs; simp [lnsF, tot]
  | succ n ih =>
    intro xs
    by_cases e : xs = []
    · subst e; simp [lnsF, tot]
    · have hp : 0 < xs.length := List.length_pos_iff.2 e
      have h1 := ih (xs.drop ((hd xs).length + 1))
      have h2 := hd_len xs
      simp only [lnsF, e, if_false, List.length_cons, tot]
      rw [List.length_drop] at h1
      omega
theorem lns_len (xs : List Int) : (lns xs).length ≤ xs.length := (lnsF_len _ xs).1
theorem lns_tot (xs : List Int) : tot (lns xs) ≤ xs.length := (lnsF_len _ xs).2

theorem drop_get (xs : List Int) (k j : Nat) : (xs.drop k)[j]?.getD 0 = xs[k + j]?.getD 0 := by rw [List.getElem?_drop]

/-- One byte more. -/
theorem grow_byte {base : Nat} {wr W w' : World} {v v' : Value} {os : List Int} {u : Int} {o : Obj} (hown : wr.ownsRow base 5 1 v os.length (os.map mB)) (hbase : base ≤ wr.heap.size) (hP : Pushd wr W o)
    (h1 : w'.ownsRow base 5 1 v' (os.length + 1) (os.map mB ++ [.int .u8 u])) (hg : W.grownBy w' v.ownBlock) :
    w'.ownsRow base 5 1 v' (os ++ [u]).length ((os ++ [u]).map mB) ∧ Below base wr w' := by
  refine ⟨by rw [List.length_append, List.map_append]; exact h1, (hP.below.mono hbase).grown hg (by rw [hP.size]; omega) (fun k hk => (hown.lt k hk).1)⟩

/-- What lists of lines are. -/
abbrev LB (base : Nat) (w : World) (v : Value) (ps : List (Cl Int)) : Prop := LL mB 0 5 28 base w v ps

/-- The part of a line that is read. -/
def LineAt (bs : List Int) (k n : Nat) (ls : List Int) : Prop := ls = (bs.drop k).take (n - k) ∧ ls.length = n - k ∧ n ≤ bs.length ∧ ∀ j : Nat, j < n - k → bs[k + j]?.getD 0 ≠ 10
theorem LineAt.start (bs : List Int) (k : Nat) (h : k ≤ bs.length) : LineAt bs k k [] := ⟨by simp, by simp, h, fun j hj => by omega⟩
theorem LineAt.len {bs ls : List Int} {k n : Nat} (h : LineAt bs k n ls) : ls.length = n - k := h.2.1
theorem LineAt.hd {bs ls : List Int} {k n : Nat} (h : LineAt bs k n ls) (he : n = bs.length ∨ bs[n]?.getD 0 = 10) (hk : k ≤ n) : hd (bs.drop k) = ls := by
  rw [h.1]
  have := h.2.2.1
  refine hd_take _ _ (by simp; omega) (fun j hj => by rw [drop_get]; exact h.2.2.2 j hj) ?_
  rcases he with he | he
  · exact Or.inl (by simp; omega)
  · exact Or.inr (by rw [drop_get, show k + (n - k) = n by omega]; exact he)
theorem LineAt.step {bs ls : List Int} {k n : Nat} (h : LineAt bs k n ls) (hk : k ≤ n) (hn : n < bs.length) (hx : bs[n]?.getD 0 ≠ 10) : LineAt bs k (n + 1) (ls ++ [bs[n]?.getD 0]) := by
  refine ⟨?_, by rw [List.length_append, h.2.1]; simp; omega, by omega, fun j hj => ?_⟩
  · rw [show n + 1 - k = n - k + 1 by omega, List.take_add_one, ← h.1, List.getElem?_drop, show k + (n - k) = n by omega, List.getElem?_eq_getElem hn]
    rfl
  · by_cases e : j < n - k
    · exact h.2.2.2 j e
    · rw [show k + j = n by omega]; exact hx

/-- One line more. -/
theorem split_out {bs ls : List Int} {k n : Nat} {ps : List (Cl Int)} {w V wr : World} {ov lv : Value} (Hll : LB w.heap.size V ov ps) (hszr : w.heap.size ≤ V.heap.size) (Hown : wr.ownsRow V.heap.size 5 1 lv ls.length (ls.map mB)) (hbl : Below V.heap.size V wr) (hb : Below w.heap.size w V)
    (Hln : ps.map Cl.xs ++ lns (bs.drop k) = lns bs) (hlt : k < bs.length) (Hla : LineAt bs k n ls) (hend : n = bs.length ∨ bs[n]?.getD 0 = 10) (hkn : k ≤ n) (w' : World) (v' : Value) (g1 : w'.ownsRow w.heap.size 28 1 v' (ps.length + 1) (ps.map Cl.v ++ [lv])) (g2 : (wr.alloc (.cells #[lv] 28)).grownBy w' ov.ownBlock) :
    ∃ p : Cl Int, (ps ++ [p]).map Cl.xs ++ lns (bs.drop (n + 1)) = lns bs ∧ LB w.heap.size w' v' (ps ++ [p]) ∧ Below w.heap.size w w' := by
  have hszl := hbl.size
  obtain ⟨pb, hp, hplo⟩ := own_cl Hown
  have hll' := Hll.keep hbl (Nat.le_refl _)
  obtain ⟨r1, r2⟩ := hll'.app (by decide) (Nat.le_trans hszr hszl) hp (fun h => Nat.le_trans hszr (hplo h)) (fun q hq hq0 hp0 e => by
    have h1 := (Hll.ok q hq).lt hq0
    have h2 := hplo hp0
    rw [e] at h1
    exact absurd h1 (Nat.not_lt.2 h2)) (pushd_alloc wr _) g1 g2
  refine ⟨_, ?_, r1, (hb.trans (hbl.mono hszr)).trans r2⟩
  rw [← Hln, List.map_append, List.append_assoc, lns_cons (xs := bs.drop k) (by intro e; have := congrArg List.length e; simp at this; omega), Hla.hd hend hkn, List.drop_drop, Hla.len, show k + (n - k + 1) = n + 1 by omega]
  rfl

def SplR (e : Ending) (w w' : World) (bs : List Int) : Prop := ∃ v' ps, e = .returned v' ∧ ps.map Cl.xs = lns bs ∧ LB w.heap.size w' v' ps ∧ Below w.heap.size w w'

end Go.Proofs.Ytpkghafpelilfaa
