import Derived.Test.YtijejbdpagbmpaaDoorPa11
import Derived.Test.YtijejbdpagbmpaaDoorPa12
import Derived.Test.YtijejbdpagbmpaaDoorP13
import Derived.Test.YtijejbdpagbmpaaDoorPo8
namespace Go.Proofs.YtijejbdpagbmpaaDoor
open Go.RowKit

/-- The sets of the leaves. -/
def setsOf : List El → List (List Int)
  | [] => []
  | x :: r => (if x.kind = 1 then [x.set] else []) ++ setsOf r
theorem oPush_ss (s : Ms) (x : El) : (oPush s x).ss = s.ss ++ (if x.kind = 1 then [x.set] else []) := by
  unfold oPush
  repeat' split
  all_goals simp_all
theorem oRun_ss (L : List El) : ∀ s : Ms, (oRun s L).ss = s.ss ++ setsOf L := by
  induction L with
  | nil => intro s; simp [oRun, setsOf]
  | cons x r ih => intro s; simp only [oRun, setsOf]; rw [ih, oPush_ss, List.append_assoc]
theorem SegO.sets {L : List El} {n : Nat} {a : It} {ln : List Lk} {ss : List (List Int)} (h : SegO L n a ln ss) : ss = setsOf L := by
  have h1 := oRun_ss L ini
  rw [h ini] at h1
  simpa [ini] using h1
theorem setsOf_len : ∀ L : List El, (setsOf L).length = lvs L
  | [] => rfl
  | x :: r => by
    have := setsOf_len r
    simp only [setsOf, lvs, List.length_append]
    split <;> simp <;> omega

/-- What is shown ascends. -/
def AscI (a : It) : Prop := a.fi.Pairwise (· < ·) ∧ a.la.Pairwise (· < ·)
theorem asc_sh {xs : List Nat} (h : xs.Pairwise (· < ·)) (c : Nat) : (xs.map (c + ·)).Pairwise (· < ·) := by
  rw [List.pairwise_map]
  exact h.imp (fun q => by omega)
theorem AscI.sh {a : It} (h : AscI a) (c : Nat) : AscI (a.sh c) := ⟨asc_sh h.1 c, asc_sh h.2 c⟩
theorem asc_app {xs ys : List Nat} {n : Nat} (hx : xs.Pairwise (· < ·)) (hy : ys.Pairwise (· < ·)) (b : ∀ x ∈ xs, x < n) : (xs ++ ys.map (n + ·)).Pairwise (· < ·) := by
  rw [List.pairwise_append]
  refine ⟨hx, asc_sh hy n, fun p hp q hq => ?_⟩
  obtain ⟨z, -, rfl⟩ := List.mem_map.1 hq
  have := b p hp
  omega
theorem AscI.cat {a b : It} {n : Nat} (ha : AscI a) (hb : AscI b) (k : Bdd a n) : AscI (itCat a (b.sh n)) := by
  refine ⟨?_, ?_⟩
  · show (a.fi ++ (if a.nl then b.fi.map (n + ·) else [])).Pairwise (· < ·)
    split
    · exact asc_app ha.1 hb.1 k.1
    · rw [List.append_nil]; exact ha.1
  · show ((if b.nl then a.la else []) ++ b.la.map (n + ·)).Pairwise (· < ·)
    split
    · exact asc_app ha.2 hb.2 k.2
    · rw [List.nil_append]; exact asc_sh hb.2 n
theorem AscI.alt {a b : It} {n : Nat} (ha : AscI a) (hb : AscI b) (k : Bdd a n) : AscI (itAlt a (b.sh n)) := ⟨asc_app ha.1 hb.1 k.1, asc_app ha.2 hb.2 k.2⟩
theorem ascN_uniq : ∀ {xs ys : List Nat}, xs.Pairwise (· < ·) → ys.Pairwise (· < ·) → (∀ z, z ∈ xs ↔ z ∈ ys) → xs = ys
  | [], [], _, _, _ => rfl
  | [], y :: ys, _, _, h => by have := (h y).2 (List.mem_cons_self ..); simp at this
  | x :: xs, [], _, _, h => by have := (h x).1 (List.mem_cons_self ..); simp at this
  | x :: xs, y :: ys, hx, hy, h => by
    rw [List.pairwise_cons] at hx hy
    have e : x = y := by
      have h1 := (h x).1 (List.mem_cons_self ..)
      have h2 := (h y).2 (List.mem_cons_self ..)
      rcases List.mem_cons.1 h1 with e | e
      · exact e
      · rcases List.mem_cons.1 h2 with e2 | e2
        · exact e2.symm
        · have := hy.1 x e; have := hx.1 y e2; omega
    subst e
    rw [ascN_uniq hx.2 hy.2 (fun z => ?_)]
    constructor
    · intro hz
      have := hx.1 z hz
      rcases List.mem_cons.1 ((h z).1 (List.mem_cons_of_mem _ hz)) with e | e
      · omega
      · exact e
    · intro hz
      have := hy.1 z hz
      rcases List.mem_cons.1 ((h z).2 (List.mem_cons_of_mem _ hz)) with e | e
      · omega
      · exact e
theorem range_asc (n : Nat) : (List.range n).Pairwise (· < ·) := List.pairwise_lt_range
/-- The list of a set of positions. -/
theorem bl_is {f : Nat → Nat} {xs : List Nat} (h : BitsOf f xs) (ha : xs.Pairwise (· < ·)) (hb : ∀ x ∈ xs, x < 512) : blN f 512 = xs := by
  refine ascN_uniq (List.Pairwise.filter _ (range_asc 512)) ha (fun z => ?_)
  have := mem_bl h hb z
  rw [Bool.eq_iff_iff, List.contains_iff_mem, List.contains_iff_mem] at this
  exact this

/-- Of a list of elements: they are of their kinds. -/
def AllOk (L : List El) : Prop := ∀ k : Nat, k < L.length → ElOk (L[k]?.getD dE)
theorem AllOk.app {a b : List El} (h : AllOk a) (k : AllOk b) : AllOk (a ++ b) := fun i hi => by
  by_cases e : i < a.length
  · rw [List.getElem?_append_left e]; exact h i e
  · rw [List.getElem?_append_right (by omega)]; exact k _ (by rw [List.length_append] at hi; omega)
theorem AllOk.one {x : El} (h : ElOk x) : AllOk [x] := fun i hi => by
  obtain rfl : i = 0 := by simpa using hi
  exact h

/-- The program and the model find the same positions at a node and the list that it writes out. -/
def PosS (U : Value) (L : List El) : Prop := ∃ a ln ss c, AddV U (lvs L) a ln ss ∧ NuS L a.nl ∧ EdS L a ∧ SegO L (lvs L) a ln ss ∧ Bdd a (lvs L) ∧ AscI a ∧ SegM L c ∧ AllOk L
theorem lvs_cat (L R : List El) (k : Int) (hk : k ≠ 1) : lvs (L ++ R ++ [⟨k, [], 0, 0⟩]) = lvs L + lvs R := lvs_snoc L R _ hk
theorem closPos : ClosX PosS := by
  refine ⟨?_, ?_, ?_, ?_, ?_⟩
  · exact ⟨⟨true, [], []⟩, [], [], 1, AddV.e, nu_e, ed_e, SegO.e, by constructor <;> simp, ⟨List.Pairwise.nil, List.Pairwise.nil⟩, SegM.leaf (Or.inl rfl), AllOk.one (Or.inr (Or.inl ⟨Or.inl rfl, rfl, rfl, rfl⟩))⟩
  · intro xs g hc hw
    exact ⟨⟨false, [0], [0]⟩, [], [xs], 1, AddV.s hw hc, nu_s xs, ed_s xs, SegO.s xs, by constructor <;> simp [lvs], ⟨List.pairwise_singleton _ _, List.pairwise_singleton _ _⟩, SegM.leaf (Or.inr rfl), AllOk.one (Or.inl ⟨rfl, hc, rfl, rfl⟩)⟩
  · rintro u v L R ⟨a, la, sa, c, u1, u2, u3, u4, u5, u6, u7, u8⟩ ⟨b, lb, sb, d, v1, v2, v3, v4, v5, v6, v7, v8⟩
    have e := lvs_cat L R 2 (by decide)
    have h1 := AddV.cat u1 v1 u5
    have h4 := u4.cat v4
    have h5 : Bdd (itCat a (b.sh (lvs L))) (lvs L + lvs R) := (u5.mono (Nat.le_add_right _ _)).cat (v5.sh (lvs L))
    rw [← e] at h1 h4 h5
    exact ⟨_, _, _, _, h1, nu_cat L R _ _ d v7 u2 v2, ed_cat L R _ _ d v7 u3 v3 u2 v2, h4, h5, u6.cat v6 u5, SegM.bin u7 v7 (Or.inl rfl), (u8.app v8).app (AllOk.one (Or.inr (Or.inl ⟨Or.inr (Or.inl rfl), rfl, rfl, rfl⟩)))⟩
  · rintro u v L R ⟨a, la, sa, c, u1, u2, u3, u4, u5, u6, u7, u8⟩ ⟨b, lb, sb, d, v1, v2, v3, v4, v5, v6, v7, v8⟩
    have e := lvs_cat L R 3 (by decide)
    have h1 := AddV.alt u1 v1 u5
    have h4 := u4.alt v4
    have h5 : Bdd (itAlt a (b.sh (lvs L))) (lvs L + lvs R) := (u5.mono (Nat.le_add_right _ _)).alt (v5.sh (lvs L))
    rw [← e] at h1 h4 h5
    exact ⟨_, _, _, _, h1, nu_alt L R _ _ d v7 u2 v2, ed_alt L R _ _ d v7 u3 v3, h4, h5, u6.alt v6 u5, SegM.bin u7 v7 (Or.inr rfl), (u8.app v8).app (AllOk.one (Or.inr (Or.inl ⟨Or.inr (Or.inr rfl), rfl, rfl, rfl⟩)))⟩
  · rintro u L mn mx ⟨a, la, sa, c, u1, u2, u3, u4, u5, u6, u7, u8⟩ o2 o3 o4
    have e : lvs (L ++ [⟨4, [], mn, mx⟩]) = lvs L := by rw [lvs_app]; simp [lvs]
    have h1 := AddV.rep u1 u5 mn mx
    have h4 := u4.rep mn mx
    have h5 : Bdd (itRep a mn) (lvs L) := u5
    rw [← e] at h1 h4 h5
    exact ⟨_, _, _, _, h1, nu_rep L _ mn mx u2 u7.ne, ed_rep L _ mn mx u3, h4, h5, u6, SegM.rep u7 rfl o2 o4, u8.app (AllOk.one (Or.inr (Or.inr ⟨rfl, rfl, o2, o3, o4⟩)))⟩
theorem lvs_half : ∀ L : List El, 2 * (lvs L : Int) ≤ L.length + wsum L
  | [] => by simp [lvs, wsum]
  | x :: r => by
    have := lvs_half r
    simp only [lvs, wsum, List.length_cons]
    unfold wt
    repeat' split
    all_goals simp_all
    all_goals omega
theorem PosS.few {U : Value} {L : List El} (h : PosS U L) (hl : L.length ≤ 1000) : lvs L ≤ 500 := by
  obtain ⟨_, _, _, c, -, -, -, -, -, -, hs, -⟩ := h
  have := lvs_half L
  rw [hs.ws] at this
  omega

end Go.Proofs.YtijejbdpagbmpaaDoor
