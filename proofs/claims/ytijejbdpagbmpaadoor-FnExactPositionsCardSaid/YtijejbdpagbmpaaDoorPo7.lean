import Derived.Test.YtijejbdpagbmpaaDoorPo6
namespace Go.Proofs.YtijejbdpagbmpaaDoor
open Go.RowKit

/-- Is j marked as following i? -/
def mkd (K : List Lk) (i j : Nat) : Bool := K.any (fun p => p.1.contains i && p.2.contains j)
theorem mkd_app (K M : List Lk) (i j : Nat) : mkd (K ++ M) i j = (mkd K i j || mkd M i j) := by unfold mkd; rw [List.any_append]
theorem mkd_one (A B : List Nat) (i j : Nat) : mkd [(A, B)] i j = (A.contains i && B.contains j) := by simp [mkd]
/-- One mark more, in the row of the x-th of A. -/
theorem mkd_step (K : List Lk) (A B : List Nat) (x y : Nat) (hx : x < A.length) (hy : y < B.length) (i j : Nat) :
    mkd (K ++ [(A.take x, B)] ++ [([A[x]], B.take (y + 1))]) i j = (mkd (K ++ [(A.take x, B)] ++ [([A[x]], B.take y)]) i j || (decide (i = A[x]) && decide (j = B[y]))) := by
  rw [mkd_app, mkd_app (K ++ [(A.take x, B)]), mkd_one, mkd_one, Bool.or_assoc]
  congr 1
  rw [List.take_add_one, List.getElem?_eq_getElem hy]
  simp only [Option.toList_some, List.contains_append]
  rw [Bool.and_or_distrib_left]
  congr 1
  simp
theorem mkd_row (K : List Lk) (A B : List Nat) (x : Nat) (hx : x < A.length) (i j : Nat) :
    mkd (K ++ [(A.take x, B)] ++ [([A[x]], B)]) i j = mkd (K ++ [(A.take (x + 1), B)]) i j := by
  rw [mkd_app, mkd_app, mkd_app, mkd_one, mkd_one, mkd_one, Bool.or_assoc]
  congr 1
  rw [List.take_add_one, List.getElem?_eq_getElem hx]
  simp only [Option.toList_some, List.contains_append]
  rw [Bool.and_or_distrib_right]
theorem mkd_none (K : List Lk) (B : List Nat) (i j : Nat) : mkd (K ++ [([], B)]) i j = mkd K i j := by rw [mkd_app, mkd_one]; simp
theorem mkd_none2 (K : List Lk) (A : List Nat) (i j : Nat) : mkd (K ++ [(A, [])]) i j = mkd K i j := by rw [mkd_app, mkd_one]; simp

def ini : Ms := ⟨0, [], [], []⟩
theorem flats_app (a b : List (List El × Int)) : flats (a ++ b) = flats a ++ flats b := by simp [flats]
theorem ini_c (L : List El) : (oRun ini L).c = lvs L := by rw [oRun_c]; simp [ini]
/-- Behind a cat: the links of the two. -/
theorem link_cat {P l r : List El} {a b : It} {la lb : List Lk} {sa sb : List (List Int)} (ha : SegO l (lvs l) a la sa) (hb : SegO r (lvs r) b lb sb) :
    (oRun ini (P ++ l ++ r ++ [⟨2, [], 0, 0⟩])).ln = (oRun ini (P ++ l ++ r)).ln ++ [(a.la.map (lvs P + ·), b.fi.map (lvs P + lvs l + ·))] := by
  rw [oRun_append, oRun_append, oRun_append, ha, hb]
  have hc := ini_c P
  generalize oRun ini P = s at *
  obtain ⟨c, st, ln, ss⟩ := s
  simp only at hc
  subst hc
  simp [oRun, oPush, It.sh]
theorem link_alt {P l r : List El} {a b : It} {la lb : List Lk} {sa sb : List (List Int)} (ha : SegO l (lvs l) a la sa) (hb : SegO r (lvs r) b lb sb) :
    (oRun ini (P ++ l ++ r ++ [⟨3, [], 0, 0⟩])).ln = (oRun ini (P ++ l ++ r)).ln := by
  rw [oRun_append, oRun_append, oRun_append, ha, hb]
  simp [oRun, oPush]
theorem link_rep {P o : List El} {a : It} {la : List Lk} {sa : List (List Int)} (ha : SegO o (lvs o) a la sa) (mn mx : Int) :
    (oRun ini (P ++ o ++ [⟨4, [], mn, mx⟩])).ln = (oRun ini (P ++ o)).ln ++ [(a.la.map (lvs P + ·), a.fi.map (lvs P + ·))] := by
  rw [oRun_append, oRun_append, ha]
  have hc := ini_c P
  generalize oRun ini P = s at *
  obtain ⟨c, st, ln, ss⟩ := s
  simp only at hc
  subst hc
  cases st <;> simp [oRun, oPush, It.sh]
theorem link_leaf {P : List El} {x : El} (hx : x.kind = 0 ∨ x.kind = 1) : (oRun ini (P ++ [x])).ln = (oRun ini P).ln := by
  rw [oRun_append]
  simp only [oRun, oPush]
  rcases hx with hx | hx <;> simp [hx]

end Go.Proofs.YtijejbdpagbmpaaDoor
