import Derived.Test.YtfdkdjngeomcdaaDoorPk1
import Derived.Test.YtfdkdjngeomcdaaDoorPk6
import Derived.Test.YtfdkdjngeomcdaaDoorPk5
import Derived.Test.YtfdkdjngeomcdaaDoorPk4
import Derived.Test.YtfdkdjngeomcdaaDoorP1
import Derived.Deep.QuietTactic
import Derived.BigQuiet
import Derived.WalkSmall
import Derived.Deep.RegionWith
import Derived.Test.YtfdkdjngeomcdaaDoorPk2
import Derived.Lib.SmallJoins
import Derived.Deep.Slices
import Derived.OpenShut
import Derived.Test.YtfdkdjngeomcdaaDoorP2
import Derived.ShutString
import Derived.ChangeOld
namespace Go.Proofs.YtfdkdjngeomcdaaDoor
open Go.RowKit

/-- All links lie below n. -/
def LkB (ln : List Lk) (n : Nat) : Prop := ∀ p ∈ ln, (∀ y ∈ p.1, y < n) ∧ ∀ y ∈ p.2, y < n
theorem LkB.mono {ln : List Lk} {n m : Nat} (h : LkB ln n) (hm : n ≤ m) : LkB ln m := fun p hp => ⟨fun y hy => Nat.lt_of_lt_of_le ((h p hp).1 y hy) hm, fun y hy => Nat.lt_of_lt_of_le ((h p hp).2 y hy) hm⟩
theorem LkB.snoc {ln : List Lk} {n : Nat} {A B : List Nat} (h : LkB ln n) (ha : ∀ y ∈ A, y < n) (hb : ∀ y ∈ B, y < n) : LkB (ln ++ [(A, B)]) n := fun p hp => by
  rcases List.mem_append.1 hp with hp | hp
  · exact h p hp
  · rw [List.mem_singleton] at hp
    subst hp
    exact ⟨ha, hb⟩
def OkMs (s : Ms) : Prop := (∀ a ∈ s.st, Bdd a s.c) ∧ LkB s.ln s.c
theorem OkMs.push {s : Ms} (h : OkMs s) (x : El) : OkMs (oPush s x) := by
  obtain ⟨c, st, ln, ss⟩ := s
  obtain ⟨h1, h2⟩ := h
  simp only at h1 h2
  unfold oPush
  simp only
  repeat' split
  all_goals first
    | exact ⟨h1, h2⟩
    | skip
  · exact ⟨fun a ha => by rcases List.mem_cons.1 ha with rfl | ha; (constructor <;> simp); exact h1 a ha, h2⟩
  · exact ⟨fun a ha => by rcases List.mem_cons.1 ha with rfl | ha; (constructor <;> simp); exact (h1 a ha).mono (Nat.le_succ _), h2.mono (Nat.le_succ _)⟩
  · rename_i o _
    have ho := h1 o (by simp)
    exact ⟨fun a ha => by rw [List.mem_singleton] at ha; subst ha; exact ho, h2.snoc ho.2 ho.1⟩
  · rename_i r l b _
    have hr := h1 r (by simp)
    exact ⟨fun a ha => by rcases List.mem_cons.1 ha with rfl | ha; exact hr; exact h1 a (List.mem_cons_of_mem _ ha), h2.snoc hr.2 hr.1⟩
  · rename_i r l b _ _
    have hr := h1 r (by simp)
    have hl := h1 l (by simp)
    exact ⟨fun a ha => by rcases List.mem_cons.1 ha with rfl | ha; exact hl.cat hr; exact h1 a (by simp [ha]), h2.snoc hl.2 hr.1⟩
  · rename_i r l b _ _
    have hr := h1 r (by simp)
    have hl := h1 l (by simp)
    exact ⟨fun a ha => by rcases List.mem_cons.1 ha with rfl | ha; exact hl.alt hr; exact h1 a (by simp [ha]), h2⟩
theorem OkMs.run (L : List El) : ∀ s : Ms, OkMs s → OkMs (oRun s L) := by
  induction L with
  | nil => intro s h; exact h
  | cons x r ih => intro s h; exact ih _ (h.push x)
theorem SegO.lkb {L : List El} {n : Nat} {a : It} {ln : List Lk} {ss : List (List Int)} (h : SegO L n a ln ss) : LkB ln n := by
  have h1 := (OkMs.run L ini ⟨by simp [ini], by intro p hp; simp [ini] at hp⟩).2
  rw [h ini] at h1
  simpa [ini, shL] using h1
theorem mkd_far {ln : List Lk} {n : Nat} (h : LkB ln n) (i j : Nat) (hj : n ≤ j) : mkd ln i j = false := by
  unfold mkd
  rw [Bool.eq_false_iff]
  intro q
  obtain ⟨p, hp, hq⟩ := List.any_eq_true.1 q
  rw [Bool.and_eq_true] at hq
  have := (h p hp).2 j (List.contains_iff_mem.1 hq.2)
  omega
theorem fol_is {ln : List Lk} {n i : Nat} {f : Nat → Nat} (h : LkB ln n) (hf : ∀ j, Bt f j = mkd ln i j) (hn : n ≤ 512) : blN f 512 = (List.range n).filter (mkd ln i) := by
  unfold blN
  refine ascN_uniq (List.Pairwise.filter _ (range_asc 512)) (List.Pairwise.filter _ (range_asc n)) (fun z => ?_)
  rw [List.mem_filter, List.mem_filter, List.mem_range, List.mem_range, hf z]
  constructor
  · rintro ⟨-, h2⟩
    refine ⟨?_, h2⟩
    apply Nat.lt_of_not_le
    intro e
    rw [mkd_far h i z e] at h2
    cases h2
  · rintro ⟨h1, h2⟩
    exact ⟨by omega, h2⟩

end Go.Proofs.YtfdkdjngeomcdaaDoor

namespace Go.Proofs.YtfdkdjngeomcdaaDoor
open Go.RowKit

/-- Beginning at a place with position p, k positions more, to the end of what is shown. -/
def Suf (n : Nat) (S : Nat → Nat → Prop) (K : Nat → Nat → Prop) (E : Nat → Prop) : Nat → Nat → Nat → Prop
  | 0, p, i => i < n ∧ S p i ∧ E p
  | k + 1, p, i => i < n ∧ S p i ∧ ∃ q, K p q ∧ Suf n S K E k q (i + 1)
/-- The relation is what the positions read. -/
def Glu (n : Nat) (S : Nat → Nat → Prop) (R : Rl) (a : It) (ln : List Lk) : Prop :=
  ∀ i j, R i j ↔ (i = j ∧ j ≤ n ∧ a.nl = true) ∨ ∃ k p, j = i + k + 1 ∧ p ∈ a.fi ∧ Suf n S (fun x y => mkd ln x y = true) (fun x => x ∈ a.la) k p i
section
variable {n : Nat}
theorem Suf.lt {S K : Nat → Nat → Prop} {E : Nat → Prop} : ∀ {k p i}, Suf n S K E k p i → i + k < n
  | 0, _, _, h => h.1
  | _ + 1, _, _, ⟨_, _, _, _, h⟩ => by have := Suf.lt h; omega
theorem Suf.imp {S S' K K' : Nat → Nat → Prop} {E E' : Nat → Prop} {N : Nat} (hS : ∀ p i, p < N → S p i → S' p i) (hK : ∀ p q, p < N → K p q → K' p q ∧ q < N) (hE : ∀ p, p < N → E p → E' p) : ∀ {k p i}, p < N → Suf n S K E k p i → Suf n S' K' E' k p i
  | 0, _, _, hp, h => ⟨h.1, hS _ _ hp h.2.1, hE _ hp h.2.2⟩
  | _ + 1, _, _, hp, ⟨h1, h2, q, h3, h4⟩ => ⟨h1, hS _ _ hp h2, q, (hK _ _ hp h3).1, Suf.imp hS hK hE (hK _ _ hp h3).2 h4⟩
theorem mkd_sh (c : Nat) (ln : List Lk) (i j : Nat) : mkd (shL c ln) i j = true ↔ ∃ i' j', i = c + i' ∧ j = c + j' ∧ mkd ln i' j' = true := by
  unfold mkd shL
  simp only [List.any_eq_true, List.mem_map, Bool.and_eq_true, List.contains_iff_mem]
  constructor
  · rintro ⟨p, ⟨q, hq, rfl⟩, h1, h2⟩
    obtain ⟨i', h3, rfl⟩ := List.mem_map.1 h1
    obtain ⟨j', h4, rfl⟩ := List.mem_map.1 h2
    exact ⟨i', j', rfl, rfl, q, hq, h3, h4⟩
  · rintro ⟨i', j', rfl, rfl, q, hq, h3, h4⟩
    exact ⟨_, ⟨q, hq, rfl⟩, List.mem_map.2 ⟨_, h3, rfl⟩, List.mem_map.2 ⟨_, h4, rfl⟩⟩
theorem mkd_lt {ln : List Lk} {N : Nat} (h : LkB ln N) {i j : Nat} (hm : mkd ln i j = true) : i < N ∧ j < N := by
  unfold mkd at hm
  simp only [List.any_eq_true, Bool.and_eq_true, List.contains_iff_mem] at hm
  obtain ⟨p, hp, h1, h2⟩ := hm
  exact ⟨(h p hp).1 _ h1, (h p hp).2 _ h2⟩
theorem mem_sh (c : Nat) (xs : List Nat) (p : Nat) : p ∈ xs.map (c + ·) ↔ ∃ q, p = c + q ∧ q ∈ xs := by
  rw [List.mem_map]
  exact ⟨fun ⟨q, h1, h2⟩ => ⟨q, h2.symm, h1⟩, fun ⟨q, h1, h2⟩ => ⟨q, h2, h1.symm⟩⟩
/-- The same positions, counted from c on. -/
theorem Suf.sh {S S' K K' : Nat → Nat → Prop} {E E' : Nat → Prop} (c : Nat) (hS : ∀ p i, S' (c + p) i ↔ S p i) (hK : ∀ p q, K' (c + p) q ↔ ∃ q', q = c + q' ∧ K p q') (hE : ∀ p, E' (c + p) ↔ E p) : ∀ {k p i}, Suf n S' K' E' k (c + p) i ↔ Suf n S K E k p i
  | 0, p, i => by
    show (_ ∧ _ ∧ _) ↔ (_ ∧ _ ∧ _)
    rw [hS, hE]
  | k + 1, p, i => by
    show (_ ∧ _ ∧ _) ↔ (_ ∧ _ ∧ _)
    rw [hS]
    constructor
    · rintro ⟨h1, h2, q, h3, h4⟩
      obtain ⟨q', rfl, h5⟩ := (hK _ _).1 h3
      exact ⟨h1, h2, q', h5, (Suf.sh c hS hK hE).1 h4⟩
    · rintro ⟨h1, h2, q, h3, h4⟩
      exact ⟨h1, h2, c + q, (hK _ _).2 ⟨q, rfl, h3⟩, (Suf.sh c hS hK hE).2 h4⟩
/-- The set of each position. -/
def SetP (hs : List Int → Nat → Prop) (ss : List (List Int)) : Nat → Nat → Prop := fun p i => hs (ss[p]?.getD []) i
theorem setP_l (hs : List Int → Nat → Prop) (sa sb : List (List Int)) {N : Nat} (hN : sa.length = N) {p : Nat} (hp : p < N) (i : Nat) : SetP hs (sa ++ sb) p i ↔ SetP hs sa p i := by
  unfold SetP
  rw [List.getElem?_append_left (by omega)]
theorem setP_r (hs : List Int → Nat → Prop) (sa sb : List (List Int)) {N : Nat} (hN : sa.length = N) (p i : Nat) : SetP hs (sa ++ sb) (N + p) i ↔ SetP hs sb p i := by
  unfold SetP
  rw [List.getElem?_append_right (by omega), show N + p - sa.length = p by omega]

variable {hs : List Int → Nat → Prop}
theorem glu_e : Glu n (SetP hs []) (rEps n) ⟨true, [], []⟩ [] := fun i j => by
  constructor
  · rintro ⟨h1, h2⟩; exact Or.inl ⟨h1, h2, rfl⟩
  · rintro (⟨h1, h2, -⟩ | ⟨k, p, -, h, -⟩)
    · exact ⟨h1, h2⟩
    · cases h
theorem glu_s (xs : List Int) : Glu n (SetP hs [xs]) (rOne n (hs xs)) ⟨false, [0], [0]⟩ [] := fun i j => by
  constructor
  · rintro ⟨rfl, h1, h2⟩
    exact Or.inr ⟨0, 0, rfl, by simp, h1, h2, by simp⟩
  · rintro (⟨-, -, h⟩ | ⟨k, p, rfl, h1, h2⟩)
    · cases h
    · simp only [List.mem_singleton] at h1
      subst h1
      match k, h2 with
      | 0, h2 => exact ⟨rfl, h2.1, h2.2.1⟩
      | k + 1, ⟨_, _, q, h, _⟩ => simp [mkd] at h
section
variable {A B : Rl} {a b : It} {la lb : List Lk} {sa sb : List (List Int)} {N M : Nat}
theorem glu_alt (hA : Glu n (SetP hs sa) A a la) (hB : Glu n (SetP hs sb) B b lb) (ha : Bdd a N) (hla : LkB la N) (hN : sa.length = N) :
    Glu n (SetP hs (sa ++ sb)) (rAlt A B) (itAlt a (b.sh N)) (la ++ shL N lb) := fun i j => by
  have kL : ∀ p q, p < N → (mkd (la ++ shL N lb) p q = true ↔ mkd la p q = true) := fun p q hp => by
    rw [mkd_app, Bool.or_eq_true, mkd_sh]
    exact ⟨fun h => h.elim id (fun ⟨i', _, e, _⟩ => by omega), Or.inl⟩
  have kR : ∀ p q, mkd (la ++ shL N lb) (N + p) q = true ↔ ∃ q', q = N + q' ∧ mkd lb p q' = true := fun p q => by
    rw [mkd_app, Bool.or_eq_true, mkd_sh]
    constructor
    · rintro (h | ⟨i', j', e, rfl, h⟩)
      · have := (mkd_lt hla h).1; omega
      · obtain rfl : p = i' := by omega
        exact ⟨j', rfl, h⟩
    · rintro ⟨q', rfl, h⟩; exact Or.inr ⟨p, q', rfl, rfl, h⟩
  have eL : ∀ p, p < N → (p ∈ (itAlt a (b.sh N)).la ↔ p ∈ a.la) := fun p hp => by
    show p ∈ a.la ++ b.la.map (N + ·) ↔ _
    rw [List.mem_append, mem_sh]
    exact ⟨fun h => h.elim id (fun ⟨q, e, _⟩ => by omega), Or.inl⟩
  have eR : ∀ p, N + p ∈ (itAlt a (b.sh N)).la ↔ p ∈ b.la := fun p => by
    show N + p ∈ a.la ++ b.la.map (N + ·) ↔ _
    rw [List.mem_append, mem_sh]
    constructor
    · rintro (h | ⟨q, e, h⟩)
      · have := ha.2 _ h; omega
      · obtain rfl : p = q := by omega
        exact h
    · intro h; exact Or.inr ⟨p, rfl, h⟩
  have sL : ∀ k p i, p < N → (Suf n (SetP hs (sa ++ sb)) (fun x y => mkd (la ++ shL N lb) x y = true) (fun x => x ∈ (itAlt a (b.sh N)).la) k p i ↔ Suf n (SetP hs sa) (fun x y => mkd la x y = true) (fun x => x ∈ a.la) k p i) := fun k p i hp =>
    ⟨Suf.imp (N := N) (fun p i hp h => (setP_l hs sa sb hN hp i).1 h) (fun p q hp h => ⟨(kL p q hp).1 h, (mkd_lt hla ((kL p q hp).1 h)).2⟩) (fun p hp h => (eL p hp).1 h) hp,
     Suf.imp (N := N) (fun p i hp h => (setP_l hs sa sb hN hp i).2 h) (fun p q hp h => ⟨(kL p q hp).2 h, (mkd_lt hla h).2⟩) (fun p hp h => (eL p hp).2 h) hp⟩
  have sR : ∀ k p i, Suf n (SetP hs (sa ++ sb)) (fun x y => mkd (la ++ shL N lb) x y = true) (fun x => x ∈ (itAlt a (b.sh N)).la) k (N + p) i ↔ Suf n (SetP hs sb) (fun x y => mkd lb x y = true) (fun x => x ∈ b.la) k p i := fun k p i =>
    Suf.sh N (fun p i => setP_r hs sa sb hN p i) kR eR
  show (A i j ∨ B i j) ↔ _
  rw [hA i j, hB i j]
  constructor
  · rintro ((⟨h1, h2, h3⟩ | ⟨k, p, h1, h2, h3⟩) | (⟨h1, h2, h3⟩ | ⟨k, p, h1, h2, h3⟩))
    · exact Or.inl ⟨h1, h2, by show (a.nl || b.nl) = true; rw [h3, Bool.true_or]⟩
    · exact Or.inr ⟨k, p, h1, List.mem_append.2 (Or.inl h2), (sL _ _ _ (ha.1 _ h2)).2 h3⟩
    · exact Or.inl ⟨h1, h2, by show (a.nl || b.nl) = true; rw [h3, Bool.or_true]⟩
    · exact Or.inr ⟨k, N + p, h1, List.mem_append.2 (Or.inr ((mem_sh _ _ _).2 ⟨p, rfl, h2⟩)), (sR _ _ _).2 h3⟩
  · rintro (⟨h1, h2, h3⟩ | ⟨k, p, h1, h2, h3⟩)
    · have h3' : (a.nl || b.nl) = true := h3
      rcases (Bool.or_eq_true _ _).mp h3' with h | h
      · exact Or.inl (Or.inl ⟨h1, h2, h⟩)
      · exact Or.inr (Or.inl ⟨h1, h2, h⟩)
    · rcases List.mem_append.1 h2 with h | h
      · exact Or.inl (Or.inr ⟨k, p, h1, h, (sL _ _ _ (ha.1 _ h)).1 h3⟩)
      · obtain ⟨q, rfl, h'⟩ := (mem_sh _ _ _).1 h
        exact Or.inr (Or.inr ⟨k, q, h1, h', (sR _ _ _).1 h3⟩)
theorem glu_cat (hA : Glu n (SetP hs sa) A a la) (hB : Glu n (SetP hs sb) B b lb) (ha : Bdd a N) (hla : LkB la N) (hN : sa.length = N) :
    Glu n (SetP hs (sa ++ sb)) (rCat A B) (itCat a (b.sh N)) (la ++ shL N lb ++ [(a.la, (b.sh N).fi)]) := fun i j => by
  obtain ⟨KK, hKK⟩ : ∃ KK, KK = la ++ shL N lb ++ [(a.la, (b.sh N).fi)] := ⟨_, rfl⟩
  rw [← hKK]
  have kA : ∀ p q, mkd KK p q = true ↔ mkd la p q = true ∨ (∃ p' q', p = N + p' ∧ q = N + q' ∧ mkd lb p' q' = true) ∨ (p ∈ a.la ∧ ∃ q', q = N + q' ∧ q' ∈ b.fi) := fun p q => by
    rw [hKK, mkd_app, mkd_app, mkd_one, Bool.or_eq_true, Bool.or_eq_true, Bool.and_eq_true, mkd_sh, List.contains_iff_mem, List.contains_iff_mem, or_assoc]
    show _ ∨ _ ∨ (_ ∧ q ∈ b.fi.map (N + ·)) ↔ _
    rw [mem_sh]
  have kR : ∀ p q, mkd KK (N + p) q = true ↔ ∃ q', q = N + q' ∧ mkd lb p q' = true := fun p q => by
    rw [kA]
    constructor
    · rintro (h | ⟨i', j', e, rfl, h⟩ | ⟨h, -⟩)
      · have := (mkd_lt hla h).1; omega
      · obtain rfl : p = i' := by omega
        exact ⟨j', rfl, h⟩
      · have := ha.2 _ h; omega
    · rintro ⟨q', rfl, h⟩; exact Or.inr (Or.inl ⟨p, q', rfl, rfl, h⟩)
  have eA : ∀ p, p ∈ (itCat a (b.sh N)).la ↔ (b.nl = true ∧ p ∈ a.la) ∨ ∃ q, p = N + q ∧ q ∈ b.la := fun p => by
    show p ∈ (if b.nl then a.la else []) ++ b.la.map (N + ·) ↔ _
    rw [List.mem_append, mem_sh]
    cases b.nl <;> simp
  have eR : ∀ p, N + p ∈ (itCat a (b.sh N)).la ↔ p ∈ b.la := fun p => by
    rw [eA]
    constructor
    · rintro (⟨-, h⟩ | ⟨q, e, h⟩)
      · have := ha.2 _ h; omega
      · obtain rfl : p = q := by omega
        exact h
    · intro h; exact Or.inr ⟨p, rfl, h⟩
  have sR : ∀ k p i, Suf n (SetP hs (sa ++ sb)) (fun x y => mkd KK x y = true) (fun x => x ∈ (itCat a (b.sh N)).la) k (N + p) i ↔ Suf n (SetP hs sb) (fun x y => mkd lb x y = true) (fun x => x ∈ b.la) k p i := fun k p i =>
    Suf.sh N (fun p i => setP_r hs sa sb hN p i) kR eR
  have sL : ∀ k p i, p < N → (Suf n (SetP hs (sa ++ sb)) (fun x y => mkd KK x y = true) (fun x => x ∈ (itCat a (b.sh N)).la) k p i ↔
      (b.nl = true ∧ Suf n (SetP hs sa) (fun x y => mkd la x y = true) (fun x => x ∈ a.la) k p i) ∨ ∃ k1 k2 q, k = k1 + k2 + 1 ∧ Suf n (SetP hs sa) (fun x y => mkd la x y = true) (fun x => x ∈ a.la) k1 p i ∧ q ∈ b.fi ∧ Suf n (SetP hs sb) (fun x y => mkd lb x y = true) (fun x => x ∈ b.la) k2 q (i + k1 + 1)) := by
    intro k
    induction k with
    | zero =>
      intro p i hp
      show (_ ∧ _ ∧ p ∈ (itCat a (b.sh N)).la) ↔ _
      rw [setP_l hs sa sb hN hp, eA]
      constructor
      · rintro ⟨h1, h2, (⟨h3, h4⟩ | ⟨q, e, -⟩)⟩
        · exact Or.inl ⟨h3, h1, h2, h4⟩
        · omega
      · rintro (⟨h1, h2, h3, h4⟩ | ⟨k1, k2, q, e, -⟩)
        · exact ⟨h2, h3, Or.inl ⟨h1, h4⟩⟩
        · omega
    | succ k ih =>
      intro p i hp
      constructor
      · rintro ⟨h1, h2, q, h3, h4⟩
        have h2 := (setP_l hs sa sb hN hp i).1 h2
        rcases (kA _ _).1 h3 with h | ⟨i', j', e, -⟩ | ⟨h, q', rfl, h'⟩
        · rcases (ih q (i + 1) (mkd_lt hla h).2).1 h4 with ⟨h5, h6⟩ | ⟨k1, k2, q', h5, h6, h7, h8⟩
          · exact Or.inl ⟨h5, h1, h2, q, h, h6⟩
          · exact Or.inr ⟨k1 + 1, k2, q', by omega, ⟨h1, h2, q, h, h6⟩, h7, by rw [show i + (k1 + 1) + 1 = i + 1 + k1 + 1 by omega]; exact h8⟩
        · omega
        · exact Or.inr ⟨0, k, q', by omega, ⟨h1, h2, h⟩, h', (sR _ _ _).1 h4⟩
      · rintro (⟨h1, h2, h3, q, h4, h5⟩ | ⟨k1, k2, q, h1, h2, h3, h4⟩)
        · exact ⟨h2, (setP_l hs sa sb hN hp i).2 h3, q, (kA _ _).2 (Or.inl h4), (ih q (i + 1) (mkd_lt hla h4).2).2 (Or.inl ⟨h1, h5⟩)⟩
        · match k1, h2 with
          | 0, ⟨h5, h6, h7⟩ =>
            obtain rfl : k = k2 := by omega
            exact ⟨h5, (setP_l hs sa sb hN hp i).2 h6, N + q, (kA _ _).2 (Or.inr (Or.inr ⟨h7, q, rfl, h3⟩)), (sR _ _ _).2 h4⟩
          | k1 + 1, ⟨h5, h6, q', h7, h8⟩ =>
            exact ⟨h5, (setP_l hs sa sb hN hp i).2 h6, q', (kA _ _).2 (Or.inl h7), (ih q' (i + 1) (mkd_lt hla h7).2).2 (Or.inr ⟨k1, k2, q, by omega, h8, h3, by rw [show i + 1 + k1 + 1 = i + (k1 + 1) + 1 by omega]; exact h4⟩)⟩
  have fA : ∀ p, p ∈ (itCat a (b.sh N)).fi ↔ p ∈ a.fi ∨ (a.nl = true ∧ ∃ q, p = N + q ∧ q ∈ b.fi) := fun p => by
    show p ∈ a.fi ++ (if a.nl then b.fi.map (N + ·) else []) ↔ _
    rw [List.mem_append]
    cases a.nl <;> simp [eq_comm, and_comm]
  have nA : (itCat a (b.sh N)).nl = true ↔ a.nl = true ∧ b.nl = true := by show (a.nl && b.nl) = true ↔ _; rw [Bool.and_eq_true]
  rw [nA]
  constructor
  · rintro ⟨m, h1, h2⟩
    rcases (hA i m).1 h1 with ⟨rfl, h3, h4⟩ | ⟨k, p, rfl, h3, h4⟩
    · rcases (hB i j).1 h2 with ⟨h5, h6, h7⟩ | ⟨k, p, h5, h6, h7⟩
      · exact Or.inl ⟨h5, h6, h4, h7⟩
      · exact Or.inr ⟨k, N + p, h5, (fA _).2 (Or.inr ⟨h4, p, rfl, h6⟩), (sR _ _ _).2 h7⟩
    · rcases (hB _ j).1 h2 with ⟨h5, h6, h7⟩ | ⟨k2, p2, h5, h6, h7⟩
      · exact Or.inr ⟨k, p, h5.symm, (fA _).2 (Or.inl h3), (sL _ _ _ (ha.1 _ h3)).2 (Or.inl ⟨h7, h4⟩)⟩
      · exact Or.inr ⟨k + k2 + 1, p, by omega, (fA _).2 (Or.inl h3), (sL _ _ _ (ha.1 _ h3)).2 (Or.inr ⟨k, k2, p2, rfl, h4, h6, h7⟩)⟩
  · rintro (⟨h1, h2, h3, h4⟩ | ⟨k, p, h1, h2, h3⟩)
    · exact ⟨i, (hA i i).2 (Or.inl ⟨rfl, by omega, h3⟩), (hB i j).2 (Or.inl ⟨h1, h2, h4⟩)⟩
    · rcases (fA _).1 h2 with h | ⟨h, q, rfl, h'⟩
      · have hlt := Suf.lt h3
        rcases (sL _ _ _ (ha.1 _ h)).1 h3 with ⟨h4, h5⟩ | ⟨k1, k2, q, h4, h5, h6, h7⟩
        · exact ⟨j, (hA i j).2 (Or.inr ⟨k, p, h1, h, h5⟩), (hB j j).2 (Or.inl ⟨rfl, by omega, h4⟩)⟩
        · exact ⟨i + k1 + 1, (hA _ _).2 (Or.inr ⟨k1, p, rfl, h, h5⟩), (hB _ _).2 (Or.inr ⟨k2, q, by omega, h6, h7⟩)⟩
      · have h4 := (sR _ _ _).1 h3
        have hlt := Suf.lt h4
        exact ⟨i, (hA i i).2 (Or.inl ⟨rfl, by omega, h⟩), (hB i j).2 (Or.inr ⟨k, q, h1, h', h4⟩)⟩
theorem glu_rep (hA : Glu n (SetP hs sa) A a la) (hb : RB n A) (mn : Int) (h0 : 0 ≤ mn) (h1 : mn ≤ 1) : Glu n (SetP hs sa) (rRep n A mn (-1)) (itRep a mn) (la ++ [(a.la, a.fi)]) := fun i j => by
  have kA : ∀ p q, mkd (la ++ [(a.la, a.fi)]) p q = true ↔ mkd la p q = true ∨ (p ∈ a.la ∧ q ∈ a.fi) := fun p q => by
    rw [mkd_app, mkd_one, Bool.or_eq_true, Bool.and_eq_true, List.contains_iff_mem, List.contains_iff_mem]
  have up : ∀ {k1 : Nat} {p i : Nat}, Suf n (SetP hs sa) (fun x y => mkd la x y = true) (fun x => x ∈ a.la) k1 p i → Suf n (SetP hs sa) (fun x y => mkd (la ++ [(a.la, a.fi)]) x y = true) (fun x => x ∈ a.la) k1 p i := by
    intro k1
    induction k1 with
    | zero => intro p i h; exact h
    | succ k ih => rintro p i ⟨h1, h2, q, h3, h4⟩; exact ⟨h1, h2, q, (kA _ _).2 (Or.inl h3), ih h4⟩
  have join : ∀ {k1 k2 : Nat} {p i q : Nat}, Suf n (SetP hs sa) (fun x y => mkd la x y = true) (fun x => x ∈ a.la) k1 p i → q ∈ a.fi → Suf n (SetP hs sa) (fun x y => mkd (la ++ [(a.la, a.fi)]) x y = true) (fun x => x ∈ a.la) k2 q (i + k1 + 1) →
      Suf n (SetP hs sa) (fun x y => mkd (la ++ [(a.la, a.fi)]) x y = true) (fun x => x ∈ a.la) (k1 + k2 + 1) p i := by
    intro k1
    induction k1 with
    | zero => rintro k2 p i q ⟨h1, h2, h3⟩ h4 h5; rw [Nat.zero_add]; exact ⟨h1, h2, q, (kA _ _).2 (Or.inr ⟨h3, h4⟩), h5⟩
    | succ k ih =>
      rintro k2 p i q ⟨h1, h2, q', h3, h4⟩ h5 h6
      rw [show k + 1 + k2 + 1 = k + k2 + 1 + 1 by omega]
      exact ⟨h1, h2, q', (kA _ _).2 (Or.inl h3), ih h4 h5 (by rw [show i + 1 + k + 1 = i + (k + 1) + 1 by omega]; exact h6)⟩
  have cut : ∀ {k : Nat} {p i : Nat}, Suf n (SetP hs sa) (fun x y => mkd (la ++ [(a.la, a.fi)]) x y = true) (fun x => x ∈ a.la) k p i →
      Suf n (SetP hs sa) (fun x y => mkd la x y = true) (fun x => x ∈ a.la) k p i ∨ ∃ k1 k2 q, k = k1 + k2 + 1 ∧ Suf n (SetP hs sa) (fun x y => mkd la x y = true) (fun x => x ∈ a.la) k1 p i ∧ q ∈ a.fi ∧ Suf n (SetP hs sa) (fun x y => mkd (la ++ [(a.la, a.fi)]) x y = true) (fun x => x ∈ a.la) k2 q (i + k1 + 1) := by
    intro k
    induction k with
    | zero => intro p i h; exact Or.inl h
    | succ k ih =>
      rintro p i ⟨h1, h2, q, h3, h4⟩
      rcases (kA _ _).1 h3 with h | ⟨h, h'⟩
      · rcases ih h4 with h5 | ⟨k1, k2, q', h5, h6, h7, h8⟩
        · exact Or.inl ⟨h1, h2, q, h, h5⟩
        · exact Or.inr ⟨k1 + 1, k2, q', by omega, ⟨h1, h2, q, h, h6⟩, h7, by rw [show i + (k1 + 1) + 1 = i + 1 + k1 + 1 by omega]; exact h8⟩
      · exact Or.inr ⟨0, k, q, by omega, ⟨h1, h2, h⟩, h', h4⟩
  have fwd : ∀ (t i j : Nat), rPow n A t i j → (i = j ∧ j ≤ n ∧ (t = 0 ∨ a.nl = true)) ∨ ∃ k p, j = i + k + 1 ∧ p ∈ a.fi ∧ Suf n (SetP hs sa) (fun x y => mkd (la ++ [(a.la, a.fi)]) x y = true) (fun x => x ∈ a.la) k p i := by
    intro t
    induction t with
    | zero => rintro i j ⟨h1, h2⟩; exact Or.inl ⟨h1, h2, Or.inl rfl⟩
    | succ t ih =>
      intro i j h
      rw [pow_front hb] at h
      obtain ⟨m, h1, h2⟩ := h
      rcases (hA i m).1 h1 with ⟨rfl, h3, h4⟩ | ⟨k, p, rfl, h3, h4⟩
      · rcases ih i j h2 with ⟨h5, h6, -⟩ | h5
        · exact Or.inl ⟨h5, h6, Or.inr h4⟩
        · exact Or.inr h5
      · rcases ih _ j h2 with ⟨h5, h6, -⟩ | ⟨k2, q, h5, h6, h7⟩
        · exact Or.inr ⟨k, p, h5.symm, h3, up h4⟩
        · exact Or.inr ⟨k + k2 + 1, p, by omega, h3, join h4 h6 h7⟩
  have bwd : ∀ (k : Nat), ∀ k', k' ≤ k → ∀ p i, p ∈ a.fi → Suf n (SetP hs sa) (fun x y => mkd (la ++ [(a.la, a.fi)]) x y = true) (fun x => x ∈ a.la) k' p i → ∃ t, rPow n A (t + 1) i (i + k' + 1) := by
    intro k
    induction k with
    | zero =>
      intro k' hk p i hp h
      obtain rfl : k' = 0 := by omega
      refine ⟨0, ?_⟩
      show rCat (rEps n) A _ _
      rw [eps_cat hb]
      exact (hA _ _).2 (Or.inr ⟨0, p, rfl, hp, h⟩)
    | succ k ih =>
      intro k' hk p i hp h
      rcases cut h with h1 | ⟨k1, k2, q, h1, h2, h3, h4⟩
      · refine ⟨0, ?_⟩
        show rCat (rEps n) A _ _
        rw [eps_cat hb]
        exact (hA _ _).2 (Or.inr ⟨k', p, rfl, hp, h1⟩)
      · obtain ⟨t, ht⟩ := ih k2 (by omega) q _ h3 h4
        refine ⟨t + 1, ?_⟩
        rw [pow_front hb]
        exact ⟨i + k1 + 1, (hA _ _).2 (Or.inr ⟨k1, p, rfl, hp, h2⟩), by rw [show i + k' + 1 = i + k1 + 1 + k2 + 1 by omega]; exact ht⟩
  have nA : (itRep a mn).nl = true ↔ a.nl = true ∨ mn = 0 := by show (a.nl || decide (mn = 0)) = true ↔ _; rw [Bool.or_eq_true, decide_eq_true_eq]
  rw [nA]
  constructor
  · rintro ⟨t, h2, -, h3⟩
    rcases fwd t i j h3 with ⟨h4, h5, h6⟩ | h4
    · exact Or.inl ⟨h4, h5, h6.symm.imp id (fun e => by omega)⟩
    · exact Or.inr h4
  · rintro (⟨rfl, h2, h3⟩ | ⟨k, p, rfl, h2, h3⟩)
    · rcases h3 with h3 | h3
      · refine ⟨1, by omega, Or.inl rfl, ?_⟩
        show rCat (rEps n) A _ _
        rw [eps_cat hb]
        exact (hA _ _).2 (Or.inl ⟨rfl, h2, h3⟩)
      · exact ⟨0, by omega, Or.inl rfl, rfl, h2⟩
    · obtain ⟨t, ht⟩ := bwd k k (Nat.le_refl _) p i h2 h3
      exact ⟨t + 1, by omega, Or.inl rfl, ht⟩
end
end
/-- The positions that may be read next behind k bytes. -/
def Pnd (S K : Nat → Nat → Prop) (fi : List Nat) : Nat → Nat → Prop
  | 0, p => p ∈ fi
  | k + 1, q => ∃ p, Pnd S K fi k p ∧ S p k ∧ K p q
/-- May the line end behind k bytes. -/
def PEnd (S K : Nat → Nat → Prop) (a : It) : Nat → Prop
  | 0 => a.nl = true
  | k + 1 => ∃ p, Pnd S K a.fi k p ∧ S p k ∧ p ∈ a.la
theorem pnd_suf {n : Nat} {S K : Nat → Nat → Prop} {fi : List Nat} {E : Nat → Prop} : ∀ (t k : Nat), k + t + 1 = n → ((∃ p, Pnd S K fi k p ∧ Suf n S K E t p k) ↔ ∃ p, Pnd S K fi (n - 1) p ∧ S p (n - 1) ∧ E p)
  | 0, k, h => by
    obtain rfl : n - 1 = k := by omega
    exact ⟨fun ⟨p, h1, h2⟩ => ⟨p, h1, h2.2⟩, fun ⟨p, h1, h2⟩ => ⟨p, h1, by omega, h2⟩⟩
  | t + 1, k, h => by
    rw [← pnd_suf t (k + 1) (by omega)]
    constructor
    · rintro ⟨p, h1, h2, h3, q, h4, h5⟩
      exact ⟨q, ⟨p, h1, h3, h4⟩, h5⟩
    · rintro ⟨q, ⟨p, h1, h3, h4⟩, h5⟩
      exact ⟨p, h1, by omega, h3, q, h4, h5⟩
theorem glu_end {n : Nat} {S : Nat → Nat → Prop} {R : Rl} {a : It} {ln : List Lk} (h : Glu n S R a ln) : R 0 n ↔ PEnd S (fun x y => mkd ln x y = true) a n := by
  rw [h 0 n]
  match n with
  | 0 =>
    constructor
    · rintro (⟨-, -, h⟩ | ⟨k, p, e, -⟩)
      · exact h
      · omega
    · intro h; exact Or.inl ⟨rfl, Nat.le_refl _, h⟩
  | n + 1 =>
    have := pnd_suf (n := n + 1) (S := S) (K := fun x y => mkd ln x y = true) (fi := a.fi) (E := fun x => x ∈ a.la) n 0 (by omega)
    show _ ↔ ∃ p, Pnd S _ a.fi n p ∧ S p n ∧ p ∈ a.la
    rw [show n + 1 - 1 = n from rfl] at this
    rw [← this]
    constructor
    · rintro (⟨e, -, -⟩ | ⟨k, p, e, h1, h2⟩)
      · omega
      · obtain rfl : n = k := by omega
        exact ⟨p, h1, h2⟩
    · rintro ⟨p, h1, h2⟩
      exact Or.inr ⟨n, p, by omega, h1, h2⟩

end Go.Proofs.YtfdkdjngeomcdaaDoor

namespace Go.Proofs.YtfdkdjngeomcdaaDoor
open Go.RowKit

open Classical in
theorem l1has_dec (v : Value) (set : List Int) (b : Int) (w : World) (hv : SlAt mI 0 0 w.heap.size w v set) (hl : set.length ≤ 1048576) :
    Calls Tryd.prog 39 #[v, .int .i64 b] w fun e w' => e = .returned (.bool (decide (inPs set b))) ∧ w' = w :=
  (l1has_any v set b w hv hl).mono (fun e w' ⟨⟨r, h1, h2⟩, h3⟩ => ⟨by rw [h1]; congr 2; rw [Bool.eq_iff_iff, h2, decide_eq_true_eq], h3⟩)
set_option maxHeartbeats 8000000 in
set_option maxRecDepth 100000 in
open Classical in
theorem en_s (bs xs : List Int) (hxs : xs.length ≤ 1048576) : EnS bs [⟨1, xs, 0, 0⟩] (rOne bs.length (hsL bs xs)) := by
  intro v lv bq F w hv hlen hlv hbs hbr
  obtain ⟨a, cp, rfl, -, -⟩ := id hv
  obtain ⟨hlen2, hcap, b, off, rfl, hbn, hel⟩ := ElsAt.last (p := []) hv
  simp only [List.length_singleton, List.length_nil, Nat.zero_mul, Nat.add_zero] at hel hv ⊢
  obtain ⟨i1, i2, i3, sv, c0, c1, c2, c3, hints⟩ := hel
  have hsl : SlAt mI 0 0 w.heap.size w sv xs := ints_slAt hints
  obtain ⟨sa, sc, rfl, -, -⟩ := id hsl
  have Hsl := hide hsl
  have Hlv := hide hlv
  have Hbt := hide hbs.2
  have hn := hbs.1
  have hmk := run_make_row' (P := Tryd.prog) 56 4 (.bool false) 1 Tryd.underlying56 Tryd.zinBoolM rfl .i64 .i64 (bs.length + 1) (by omega) (by omega)
  simp only [Int.natCast_add, Int.natCast_one] at hmk
  have hb2 := below2 w (.cells #[.int .i64 1, .slice sa xs.length sc, .int .i64 0, .int .i64 0] 58) (.cells (madeCells #[.bool false] (bs.length + 1)) 4)
  have h0 := br_made (w.alloc (.cells #[.int .i64 1, .slice sa xs.length sc, .int .i64 0, .int .i64 0] 58)) bs.length
  rw [sz_alloc] at h0
  have hq0 : ((w.alloc (.cells #[.int .i64 1, .slice sa xs.length sc, .int .i64 0, .int .i64 0] 58)).alloc (.cells (madeCells #[.bool false] (bs.length + 1)) 4)).cell? ⟨w.heap.size, 1, none⟩ = some (.slice sa xs.length sc) :=
    ((below1 _ _).cell (p := ⟨w.heap.size, 1, none⟩) (by rw [sz_alloc]; exact Nat.lt_succ_self _)).trans ((pushd_alloc w _).news 1 _ rfl)
  have Hbr := hide hbr
  have H0 := hide h0
  have HB2 := hide hb2
  have HQ0 := hide hq0
  obtain ⟨la, lc, rfl, -, -⟩ := id hlv
  clear hv hints i1 i2 i3 hlv hbr hb2 h0 hq0 hsl hbs
  go_enter Tryd.func22, Tryd.ntmps22
  go_wp2_with fail
  go_loopw [10] (fun iv wr => ∃ (i : Nat) (G : Nat → Bool), i ≤ bs.length ∧ iv = .int .i64 i ∧ BR wr bs.length (w.heap.size + 1) G ∧ (∀ j, G j = true ↔ ∃ k, k < i ∧ j = k + 1 ∧ F k = true ∧ hsL bs xs k) ∧ wr.cell? ⟨w.heap.size, 1, none⟩ = some (.slice sa xs.length sc) ∧ w.heap.size + 2 ≤ wr.heap.size ∧ Below w.heap.size w wr) (fun iv _ => bs.length - (intOf iv).toNat)
  case atStart => exact ⟨0, _, Nat.zero_le _, rfl, unhide H0, fun j => ⟨fun h => (by cases h), fun ⟨k, hk, _⟩ => absurd hk (Nat.not_lt_zero _)⟩, unhide HQ0, by rw [sz_alloc, sz_alloc]; omega, unhide HB2⟩
  case round =>
    clear H0 HB2 HQ0 hmk c0 c1 c2 c3
    obtain ⟨i, G, hi, rfl, hG, hGi, hq, hz, hB⟩ := hrel
    have HG := hide hG
    have HGi := hide hGi
    by_cases hlt : i < bs.length
    · have hlt' : (i : Int) < (bs.length : Int) := by omega
      have hlt2 : (i : Int) < (bs.length : Int) + 1 := by omega
      have hlt3 : (i : Int) + 1 < (bs.length : Int) + 1 := by omega
      have hw1 : IntKind.i64.wrap ((i : Int) + 1) = (i : Int) + 1 := k64i (by omega) (by omega)
      have hp1 : (0 : Int) ≤ (i : Int) + 1 := by omega
      have hF := (unhide Hbr).below hB (Nat.le_refl _)
      have d1 := World.rowIs.cell hF (i := i) (by omega)
      have d2 := World.rowIs.cell hG (i := i + 1) (by omega)
      have f2 := World.rowIs.frozen hG (i + 1)
      obtain ⟨_, _, e, -, hc⟩ := (unhide Hlv).below hB (Nat.le_refl _)
      cases e
      obtain ⟨lb, lo, rfl, -, -, hcell⟩ := hc (by omega)
      have d3 := hcell i hlt
      obtain ⟨x, hx⟩ : ∃ x, x = bs[i]?.getD 0 := ⟨_, rfl⟩
      have hx2 : 0 ≤ x ∧ x ≤ 255 := unhide Hbt x (by rw [hx, List.getElem?_eq_getElem hlt]; exact List.getElem_mem hlt)
      rw [← hx] at d3
      have HX := hide hx
      have HSL := hide ((unhide Hsl).below hB (Nat.le_refl _))
      have HBW := hide hB
      unfold mB at d3
      clear hF hc hcell hx hG hGi hB
      have hFIN : ∀ r : Bool, (r = true ↔ F i = true ∧ hsL bs xs i) → ∀ W0 : World, BR W0 bs.length (w.heap.size + 1) G → W0.cell? ⟨w.heap.size, 1, none⟩ = some (.slice sa xs.length sc) → w.heap.size + 2 ≤ W0.heap.size → Below w.heap.size w W0 → ∀ W : World, W = W0.setCell ⟨w.heap.size + 1, i + 1, none⟩ (.bool r) → ∃ (i' : Nat) (G : Nat → Bool), i' ≤ bs.length ∧ (Value.int .i64 ((i : Int) + 1)) = .int .i64 i' ∧ BR W bs.length (w.heap.size + 1) G ∧ (∀ j, G j = true ↔ ∃ k, k < i' ∧ j = k + 1 ∧ F k = true ∧ hsL bs xs k) ∧ W.cell? ⟨w.heap.size, 1, none⟩ = some (.slice sa xs.length sc) ∧ w.heap.size + 2 ≤ W.heap.size ∧ Below w.heap.size w W := by
        intro r hr W0 HG hq hz HBW W hW
        subst hW
        refine ⟨i + 1, fun j => if j = i + 1 then r else G j, by omega, by simp, ?_, fun j => ?_, ?_, ?_, ?_⟩
        · refine World.rowIs.congr (World.rowIs.set HG (i + 1) (.bool r)) (fun j hj => ?_)
          by_cases e : j = i + 1 <;> simp [e]
        · by_cases e : j = i + 1
          · subst e
            simp only [if_pos]
            rw [hr]
            constructor
            · intro h; exact ⟨i, by omega, rfl, h⟩
            · rintro ⟨k, hk, e, h⟩
              obtain rfl : i = k := by omega
              exact h
          · simp only [if_neg e]
            rw [unhide HGi j]
            constructor
            · rintro ⟨k, hk, h⟩; exact ⟨k, by omega, h⟩
            · rintro ⟨k, hk, e2, h⟩; exact ⟨k, by omega, e2, h⟩
        · rw [put_other (Or.inl (by omega))]; exact hq
        · rw [sz_put]; exact hz
        · exact bput HBW (by omega) _
      have HFIN := hide hFIN
      clear hFIN
      cases hFi : F i with
      | false =>
        rw [hFi] at d1
        have HR := hide (unhide HFIN false ⟨fun h => (by cases h), fun h => absurd h.1 (by rw [hFi]; decide)⟩)
        clear hFi HFIN
        go_wp2_with fail
        refine wp_region_quiet_tail 18 (by kernel_rfl) (by kernel_rfl) ?_
        simp only [List.take_succ_cons, List.take_zero, List.drop_succ_cons, List.drop_zero]
        repeat (first | go_big_quiet_skip | (go_big_quiet_want; go_big_quiet_op; go_big_quiet_on))
        refine wpQuiet_nil ?_
        go_wp2
        go_roundw
        case rel => exact unhide HR wr.drew (by exact unhide HG) (by exact hq) (by exact hz) (unhide HBW).drew _ rfl
        case measure => simp [intOf]; omega
      | true =>
        rw [hFi] at d1
        have HR : Hid (∀ r : Bool, (r = true ↔ inPs xs x) → _) := fun r h => unhide HFIN r (by rw [h]; unfold hsL; rw [← unhide HX]; exact ⟨fun q => ⟨hFi, q⟩, fun q => q.2⟩)
        clear hFi HFIN
        go_wp2_with fail
        refine wp_region_quiet_tail 18 (by kernel_rfl) (by kernel_rfl) ?_
        simp only [List.take_succ_cons, List.take_zero, List.drop_succ_cons, List.drop_zero]
        repeat (first | go_big_quiet_skip | (go_big_quiet_want; go_big_quiet_op; go_big_quiet_on))
        go_big_quiet_want
        go_big_quiet_op
        refine ⟨_, l1has_dec _ xs x _ (by exact unhide HSL) hxs, ?_⟩
        go_big_quiet_on
        repeat (first | go_big_quiet_skip | (go_big_quiet_want; go_big_quiet_op; go_big_quiet_on))
        refine wpQuiet_nil ?_
        go_wp2
        go_roundw
        case rel => exact unhide HR _ (by rw [decide_eq_true_eq]) wr.drew (by exact unhide HG) (by exact hq) (by exact hz) (unhide HBW).drew _ rfl
        case measure => simp [intOf]; omega
    · have e : i = bs.length := by omega
      have HB := hide hB
      subst e
      clear hG hGi hB hq
      go_wp2
      go_ret
      refine ⟨_, G, rfl, by omega, unhide HG, fun j hj => ?_, unhide HB⟩
      rw [unhide HGi]
      constructor
      · rintro ⟨k, h1, h2, h3, h4⟩; exact ⟨k, h3, h2, h1, h4⟩
      · rintro ⟨k, h3, h2, h1, h4⟩; exact ⟨k, h1, h2, h3, h4⟩

end Go.Proofs.YtfdkdjngeomcdaaDoor

namespace Go.Proofs.YtfdkdjngeomcdaaDoor
open Go.RowKit

def MkF (S : Nat → Prop) (w0 w : World) (k : Int) (xs : List El) (b off : Nat) (sv : Nat → Value) (T : Nat → Nat → Prop) (m : Nat) : Prop :=
  Free w b ∧ (∀ i : Nat, i < xs.length → El4 w b (off + i * 4) (mixE k xs m i) (sv i)) ∧ (∀ i : Nat, i < xs.length → SlF mI 0 (T i) w (sv i) (mixE k xs m i).set) ∧ ChgF S w0 w

theorem mkF_step {S : Nat → Prop} {w0 wr w1 : World} {k : Int} {xs : List El} {b off : Nat} {sv : Nat → Value} {T : Nat → Nat → Prop} {m : Nat} (h : MkF S w0 wr k xs b off sv T m) (hm : m < xs.length) (hS : S b)
    (h5 : ∀ i : Nat, i < xs.length → ∀ k, T i k → S k ∧ k ≠ b) (h6 : ∀ i j : Nat, i < xs.length → j < xs.length → i ≠ j → ∀ k, T i k → ¬ T j k) (K : Int) (hK : K = endE k (xs.take m)) (L : Int) (hL : L = (xs[m]?.getD dE).set.length)
    (hc : ChgF (T m) (wr.setCell ⟨b, off + m * 4, none⟩ (.int .i64 K)) w1) (hs : SlF mI 0 (T m) w1 (sv m) (cnts (K + 1) (xs[m]?.getD dE).set.length)) (w2 : World)
    (hw : w2 = (w1.setCell ⟨b, off + m * 4 + 2, none⟩ (.int .i64 (K + 1 + L))).setCell ⟨b, off + m * 4 + 3, none⟩ (.int .i64 (K + 2 + L))) : MkF S w0 w2 k xs b off sv T (m + 1) := by
  subst hw
  obtain ⟨hu, h4, h7, hch⟩ := h
  have eb : w1.heap[b]? = (wr.setCell ⟨b, off + m * 4, none⟩ (.int .i64 K)).heap[b]? := hc.block b (fun q => (h5 m hm b q).2 rfl)
  have hput : ∀ (w : World) (o : Nat) (u : Value) (j : Nat), j ≠ b → (w.setCell ⟨b, o, none⟩ u).heap[j]? = w.heap[j]? := fun w o u j hne => Below.heap_setCell _ _ _ _ (by exact hne)
  have hmark := marksE_get k xs m hm
  rw [← hK, ← hL] at hmark
  refine ⟨((hu.put.same eb).put).put, fun i hi => ?_, fun i hi => ?_, ?_⟩
  · by_cases e : i = m
    · subst e
      have q := h4 i hi
      unfold mixE at q ⊢
      rw [if_neg (by omega)] at q
      rw [if_pos (by omega), hmark]
      exact (((q.putK K).same eb).putM (K + 1 + L)).putX (K + 2 + L)
    · have q := h4 i hi
      have e2 : mixE k xs (m + 1) i = mixE k xs m i := by
        unfold mixE
        by_cases e3 : i < m
        · rw [if_pos e3, if_pos (by omega)]
        · rw [if_neg e3, if_neg (by omega)]
      rw [e2]
      exact (((q.put (by omega)).same eb).put (by omega)).put (by omega)
  · by_cases e : i = m
    · subst e
      unfold mixE
      rw [if_pos (by omega), hmark]
      exact hs.same (fun j hj => (hput _ _ _ j (h5 i hi j hj).2).trans (hput _ _ _ j (h5 i hi j hj).2))
    · have q := h7 i hi
      have e2 : mixE k xs (m + 1) i = mixE k xs m i := by
        unfold mixE
        by_cases e3 : i < m
        · rw [if_pos e3, if_pos (by omega)]
        · rw [if_neg e3, if_neg (by omega)]
      rw [e2]
      exact q.same (fun j hj => (hput _ _ _ j (h5 i hi j hj).2).trans ((hput _ _ _ j (h5 i hi j hj).2).trans ((hc.block j (h6 i m hi hm e j hj)).trans (hput _ _ _ j (h5 i hi j hj).2))))
  · exact (((hch.put hS _).trans (hc.mono (fun j hj => (h5 m hm j hj).1))).put hS _).put hS _

end Go.Proofs.YtfdkdjngeomcdaaDoor

namespace Go.Proofs.YtfdkdjngeomcdaaDoor
open Go.RowKit

set_option maxHeartbeats 1000000 in
theorem toPattern_w (l r : Bool) (v : Value) (xs : List El) (w : World) (hv : ElsAt 0 w.heap.size w v xs) (hlen : xs.length ≤ 1048576) (hset : ∀ i : Nat, (xs[i]?.getD dE).set.length ≤ 1048576) :
    Calls Tryd.prog 6 #[.agg #[.bool l, .bool r, v]] w fun e w' => ∃ v', e = .returned (.agg #[.bool l, .bool r, v']) ∧ ElsF (Rng w.heap.size w'.heap.size) w' v' xs ∧ Below w.heap.size w w' := by
  obtain ⟨a, cap, rfl, -, -⟩ := id hv
  go_enter Tryd.func6, Tryd.ntmps6
  go_wp2_with fail
  refine (toOpS_w _ xs _ (by exact hv.below (below3 w _ _ _) (Nat.le_refl _)) hlen hset).mono ?_
  rintro e w1 ⟨v', rfl, hv', hb1⟩
  obtain ⟨hc1, hf1⟩ := bcell hb1
  simp only [sz_alloc] at hc1 hf1
  have hz := hb1.size
  simp only [sz_alloc] at hz
  have hf := hv'.foot
  rw [sz_alloc, sz_alloc, sz_alloc] at hf
  obtain ⟨a', cap', rfl⟩ : ∃ a c, v' = .slice a xs.length c := by obtain ⟨a, c, e, -⟩ := hv'; exact ⟨a, c, e⟩
  have HF := hide hf
  clear hf hv'
  go_wp2
  refine bodyPost_ret (v := .agg #[.bool l, .bool r, .slice a' xs.length cap']) (by simp [results, Tryd.results6, go_sem, hc1]) rfl ⟨_, rfl, ?_, ?_⟩
  · refine ((unhide HF).same (fun k hk => ?_)).mono (fun k hk => ⟨by have := hk.1; omega, by simp only [sz_put]; exact hk.2⟩)
    have := hk.1
    rw [Below.heap_setCell _ _ _ _ (by intro e; simp only at e; omega), Below.heap_setCell _ _ _ _ (by intro e; simp only at e; omega), Below.heap_setCell _ _ _ _ (by intro e; simp only at e; omega), Below.heap_setCell _ _ _ _ (by intro e; simp only at e; omega)]
  · have hb0 : Below w.heap.size w w1 := (below3 w _ _ _).trans (hb1.mono (by rw [sz_alloc, sz_alloc, sz_alloc]; omega))
    exact bput (bput (bput (bput hb0 (by omega) _) (by omega) _) (by omega) _) (by omega) _

/-- A box of three cells. -/
def Bx3 (w : World) (b : Nat) (t : TypeId) (c0 c1 c2 : Value) : Prop := w.rowIs b t 3 (fun j => [c0, c1, c2].getD j undef)
theorem Bx3.new (w : World) (t : TypeId) (c0 c1 c2 : Value) : Bx3 (w.alloc (.cells #[c0, c1, c2] t)) w.heap.size t c0 c1 c2 :=
  World.rowIs_alloc w #[c0, c1, c2] t _ (fun i hi => by
    match i, hi with
    | 0, _ => rfl
    | 1, _ => rfl
    | 2, _ => rfl)
theorem Bx3.below {w w' : World} {b m : Nat} {t : TypeId} {c0 c1 c2 : Value} (h : Bx3 w b t c0 c1 c2) (hb : Below m w w') (hm : b < m) : Bx3 w' b t c0 c1 c2 := World.rowIs.of_block h (hb.block b hm)
theorem Bx3.blk {w w' : World} {b : Nat} {t : TypeId} {c0 c1 c2 : Value} (h : Bx3 w b t c0 c1 c2) (e : w'.heap[b]? = w.heap[b]?) : Bx3 w' b t c0 c1 c2 := World.rowIs.of_block h e
theorem Bx3.facts {w : World} {b : Nat} {t : TypeId} {c0 c1 c2 : Value} (h : Bx3 w b t c0 c1 c2) : w.cell? ⟨b, 0, none⟩ = some c0 ∧ w.cell? ⟨b, 1, none⟩ = some c1 ∧ w.cell? ⟨b, 2, none⟩ = some c2 :=
  ⟨World.rowIs.cell h (i := 0) (by omega), World.rowIs.cell h (i := 1) (by omega), World.rowIs.cell h (i := 2) (by omega)⟩
theorem el_is {S : Nat → Prop} {w : World} {v : Value} {xs : List El} (h : ElsF S w v xs) : ∃ a c, v = .slice a xs.length c := by obtain ⟨a, c, e, -⟩ := h; exact ⟨a, c, e⟩

end Go.Proofs.YtfdkdjngeomcdaaDoor

namespace Go.Proofs.YtfdkdjngeomcdaaDoor
open Go.RowKit

set_option maxHeartbeats 400000 in
theorem eqIntS_same (u v : Value) (xs : List Int) (w : World) (hu : IntsAt 0 w.heap.size w u xs) (hv : IntsAt 0 w.heap.size w v xs) :
    Calls Tryd.prog 58 #[u, v] w fun e w' => e = .returned (.bool true) ∧ Below w.heap.size w w' := by
  obtain ⟨a, cap, rfl, hl, hr, hc⟩ := hu
  obtain ⟨a2, cap2, rfl, -, -, hc2⟩ := hv
  unfold maxLen at hl
  go_enter Tryd.func58, Tryd.ntmps58
  go_wp2
  go_loopw [5] (fun i wr => ∃ k : Nat, k ≤ xs.length ∧ i = .int .i64 k ∧ Below w.heap.size w wr) (fun i _ => xs.length - (intOf i).toNat)
  case atStart => exact ⟨0, Nat.zero_le _, rfl, Below.refl _ _⟩
  case round =>
    obtain ⟨k, hk, rfl, hb⟩ := hrel
    by_cases hlt : k < xs.length
    · obtain ⟨b, off, rfl, -, hbn, hcell⟩ := hc (by omega)
      obtain ⟨b2, off2, rfl, -, hbn2, hcell2⟩ := hc2 (by omega)
      have hx : wr.cell? ⟨b, off + k, none⟩ = some (.int .i64 (xs[k]?.getD 0)) := by rw [hb.cell (p := ⟨b, off + k, none⟩) hbn]; exact hcell k hlt
      have hx2 : wr.cell? ⟨b2, off2 + k, none⟩ = some (.int .i64 (xs[k]?.getD 0)) := by rw [hb.cell (p := ⟨b2, off2 + k, none⟩) hbn2]; exact hcell2 k hlt
      have hlt' : (k : Int) < (xs.length : Int) := by omega
      generalize xs[k]?.getD 0 = x at *
      go_wp2
      go_quiet (fail)
      go_wp2
      go_roundw
      case rel => exact ⟨k + 1, by omega, by go_num, below_drewN hb nq⟩
      case measure => simp [intOf]; omega
    · obtain rfl : k = xs.length := by omega
      go_wp2
      go_ret
      exact ⟨rfl, hb⟩

set_option maxHeartbeats 400000 in
theorem eqOp_same (u v : Value) (x : El) (w : World) (hu : IntsAt 0 w.heap.size w u x.set) (hv : IntsAt 0 w.heap.size w v x.set) :
    Calls Tryd.prog 34 #[.agg #[.int .i64 x.kind, u, .int .i64 x.mn, .int .i64 x.mx], .agg #[.int .i64 x.kind, v, .int .i64 x.mn, .int .i64 x.mx]] w fun e w' => e = .returned (.bool true) ∧ Below w.heap.size w w' := by
  obtain ⟨a, cap, rfl, -, -, -⟩ := id hu
  obtain ⟨a2, cap2, rfl, -, -, -⟩ := id hv
  go_enter Tryd.func34, Tryd.ntmps34
  go_wp2_with fail
  refine (eqIntS_same _ _ x.set _ (by exact hu.below (below2 w _ _) (Nat.le_refl _)) (by exact hv.below (below2 w _ _) (Nat.le_refl _))).mono ?_
  rintro e w1 ⟨rfl, hb1⟩
  obtain ⟨hc1, hf1⟩ := bcell hb1
  simp only [sz_alloc] at hc1 hf1
  go_wp2
  go_ret
  exact ⟨rfl, (below2 w _ _).trans (hb1.mono (by rw [sz_alloc, sz_alloc]; omega))⟩

set_option maxHeartbeats 1000000 in
theorem eqOpS_same (u v : Value) (xs : List El) (w : World) (hu : ElsAt 0 w.heap.size w u xs) (hv : ElsAt 0 w.heap.size w v xs) :
    Calls Tryd.prog 19 #[u, v] w fun e w' => e = .returned (.bool true) ∧ Below w.heap.size w w' := by
  obtain ⟨a, cap, rfl, hl, hc⟩ := hu
  obtain ⟨a2, cap2, rfl, -, hc2⟩ := hv
  unfold maxLen at hl
  go_enter Tryd.func19, Tryd.ntmps19
  go_wp2
  go_loopw [5] (fun i wr => ∃ k : Nat, k ≤ xs.length ∧ i = .int .i64 k ∧ Below w.heap.size w wr) (fun i _ => xs.length - (intOf i).toNat)
  case atStart => exact ⟨0, Nat.zero_le _, rfl, Below.refl _ _⟩
  case round =>
    obtain ⟨k, hk, rfl, hb⟩ := hrel
    by_cases hlt : k < xs.length
    · obtain ⟨b, off, rfl, -, hbn, hel⟩ := hc (by omega)
      obtain ⟨b2, off2, rfl, -, hbn2, hel2⟩ := hc2 (by omega)
      obtain ⟨i1, i2, i3, v, c0, c1, c2, c3, hints⟩ := (hel k hlt).same (Same.of_below hb (Nat.le_refl _)) (Nat.zero_le _) hbn
      obtain ⟨-, -, -, v2, d0, d1, d2, d3, hints2⟩ := (hel2 k hlt).same (Same.of_below hb (Nat.le_refl _)) (Nat.zero_le _) hbn2
      have hlt' : (k : Int) < (xs.length : Int) := by omega
      generalize xs[k]?.getD dE = x at *
      obtain ⟨a', cap', rfl, -, -, -⟩ := id hints
      obtain ⟨a2', cap2', rfl, -, -, -⟩ := id hints2
      have hi1 := hints.mono (Nat.le_refl _) hb.size
      have hi2 := hints2.mono (Nat.le_refl _) hb.size
      go_wp2
      go_region_with (go_at_call 34; refine (eqOp_same _ _ x _ (by exact hi1) (by exact hi2)).mono ?_; rintro e w1 ⟨rfl, hb1⟩)
      all_goals
        have hb2 : Below wr.heap.size wr w1 := ⟨hb1.os, hb1.tape, hb1.output, hb1.size, hb1.block⟩
        clear hb1
        go_wp2
        go_roundw
        case rel => exact ⟨k + 1, by omega, by go_num, hb.trans (hb2.mono hb.size)⟩
        case measure => simp [intOf]; omega
    · obtain rfl : k = xs.length := by omega
      go_wp2
      go_ret
      exact ⟨rfl, hb⟩

set_option maxHeartbeats 400000 in
theorem eqPattern_same (l r : Bool) (u v : Value) (xs : List El) (w : World) (hu : ElsAt 0 w.heap.size w u xs) (hv : ElsAt 0 w.heap.size w v xs) :
    Calls Tryd.prog 9 #[.agg #[.bool l, .bool r, u], .agg #[.bool l, .bool r, v]] w fun e w' => e = .returned (.bool true) ∧ Below w.heap.size w w' := by
  obtain ⟨a, cap, rfl, -, -⟩ := id hu
  obtain ⟨a2, cap2, rfl, -, -⟩ := id hv
  go_enter Tryd.func9, Tryd.ntmps9
  go_wp2_with fail
  refine (eqOpS_same _ _ xs _ (by exact hu.below (below2 w _ _) (Nat.le_refl _)) (by exact hv.below (below2 w _ _) (Nat.le_refl _))).mono ?_
  rintro e w1 ⟨rfl, hb1⟩
  go_wp2
  go_ret
  exact ⟨rfl, (below2 w _ _).trans (hb1.mono (by rw [sz_alloc, sz_alloc]; omega))⟩

end Go.Proofs.YtfdkdjngeomcdaaDoor

namespace Go.Proofs.YtfdkdjngeomcdaaDoor
open Go.RowKit

set_option maxHeartbeats 400000 in
theorem szPattern_any (l r : Bool) (v : Value) (xs : List El) (w : World) (hv : ElsAt 0 w.heap.size w v xs) :
    Calls Tryd.prog 4 #[.agg #[.bool l, .bool r, v], .int .i64 1048576] w fun e w' => (∃ r : Int, e = .returned (.int .i64 r) ∧ (r = -1 ∨ (0 ≤ r ∧ r = 1048576 - xs.length - bulk xs))) ∧ Below w.heap.size w w' := by
  have hv2 := hv
  obtain ⟨a, cap, rfl, hlen, hc⟩ := hv
  go_enter Tryd.func4, Tryd.ntmps4
  go_wp2_with (go_at_call 11; refine (szOpS_any _ xs _ _ (hv2.below (below1 w _) (Nat.le_refl _)) (by omega) (by omega)).mono ?_; rintro e w1 ⟨⟨q, rfl, hq⟩, hb1⟩; rcases hq with rfl | ⟨hq0, hq1⟩)
  all_goals go_ret
  · exact ⟨⟨-1, rfl, Or.inl rfl⟩, ((Below.refl _ _).alloc (Nat.le_refl _) _).trans (hb1.mono (by simp))⟩
  · exact ⟨⟨_, rfl, Or.inr ⟨by omega, rfl⟩⟩, ((Below.refl _ _).alloc (Nat.le_refl _) _).trans (hb1.mono (by simp))⟩

end Go.Proofs.YtfdkdjngeomcdaaDoor

namespace Go.Proofs.YtfdkdjngeomcdaaDoor
open Go.ChangeShapes Go.WideShapes Go.ChangeAt Go.RowKit

theorem Tryd.cells24 : Tryd.prog.cellsOf 24 = 3 := by kernel_rfl
theorem Tryd.cells22 : Tryd.prog.cellsOf 22 = 1 := by kernel_rfl
theorem Tryd.cells54 : Tryd.prog.cellsOf 54 = 4 := by kernel_rfl
theorem Tryd.cells3 : Tryd.prog.cellsOf 3 = 1 := by kernel_rfl
theorem Tryd.cells44 : Tryd.prog.cellsOf 44 = 1 := by kernel_rfl

theorem in64_of_wf {n : Int} (h : (Lit.int .i64 n).wf = true) : In64 n := by
  simpa [Lit.wf, IntKind.min, IntKind.max, IntKind.signed, IntKind.bits, In64] using h

section
variable {H : Type} {enc : TypeId × Value → H} {W : World}

theorem ints_of {n : Nat} {v : Value} {y : DataW H × List MemPlace} (h : DataW.trod enc Tryd.prog W 0 (fun _ => true) true n 44 [v] = some y) : ∃ xs, IntsAt 0 W.heap.size W v xs := by
  rcases open_ints Tryd.underlying44 Tryd.underlying3 Tryd.cells3 h with ⟨hcs, -⟩ | ⟨a, len, cap, zs, hcs, -, hl, hm, hz, -, hcell, hwz⟩
  · simp only [List.cons.injEq, and_true] at hcs
    subst hcs
    exact ⟨[], none, 0, rfl, by simp, by intro i; simp [In64], by simp⟩
  · simp only [List.cons.injEq, and_true] at hcs
    subst hcs
    simp only [if_true] at hz
    have hlen : (zs.take len).length = len := by rw [List.length_take]; omega
    refine ⟨zs.take len, some a, cap, by rw [hlen], by omega, fun i => ?_, fun hp => ?_⟩
    · by_cases hi : i < (zs.take len).length
      · rw [List.getElem?_eq_getElem hi]
        exact in64_of_wf (hwz _ (List.mem_of_mem_take (List.getElem_mem hi)))
      · rw [List.getElem?_eq_none (by omega)]
        simp [In64]
    · obtain ⟨b, off, rfl, hc⟩ := ints_at hcell (by omega)
      refine ⟨b, off, rfl, Nat.zero_le _, World.block_lt_of_cell? _ _ (hc 0 (by omega)), fun i hi => ?_⟩
      rw [hlen] at hi
      rw [hc i (by omega), List.getElem?_take_of_lt hi]
      rfl

theorem el_of {n b o : Nat} {cs : List Value} {y : DataW H × List MemPlace} (hc : W.cells? 0 ⟨b, o, none⟩ 4 = some cs) (h : DataW.trod enc Tryd.prog W 0 (fun _ => true) true n 54 cs = some y) : ∃ x, ElAt 0 W.heap.size W b o x := by
  obtain ⟨-, hlen, hcell⟩ := World.cells?_some hc
  match cs, hlen with
  | [c0, c1, c2, c3], _ =>
    obtain ⟨y0, y1, y2, y3, m, -, -, h0, h1, h2, h3⟩ := Go.Joins.trod_struct4 Tryd.underlying54 h
    simp only [Tryd.cells3, Tryd.cells44, List.drop_zero, List.take_succ_cons, List.take_zero, List.drop_succ_cons] at h0 h1 h2 h3
    obtain ⟨k, e0, -, wk⟩ := DataW.trod_int Tryd.underlying3 h0
    obtain ⟨mn, e2, -, wmn⟩ := DataW.trod_int Tryd.underlying3 h2
    obtain ⟨mx, e3, -, wmx⟩ := DataW.trod_int Tryd.underlying3 h3
    simp only [List.cons.injEq, and_true] at e0 e2 e3
    subst e0 e2 e3
    obtain ⟨xs, hxs⟩ := ints_of h1
    have k0 := hcell 0 (by omega)
    have k1 := hcell 1 (by omega)
    have k2 := hcell 2 (by omega)
    have k3 := hcell 3 (by omega)
    rw [add_plain] at k0 k1 k2 k3
    exact ⟨⟨k, xs, mn, mx⟩, in64_of_wf wk, in64_of_wf wmn, in64_of_wf wmx, c1, k0, k1, k2, k3, hxs⟩

theorem els_of {n : Nat} {v : Value} {y : DataW H × List MemPlace} (h : DataW.trod enc Tryd.prog W 0 (fun _ => true) true n 22 [v] = some y) : ∃ xs, ElsAt 0 W.heap.size W v xs := by
  rcases Go.Deep.open_slice Tryd.underlying22 h with ⟨hcs, -⟩ | ⟨a, len, cap, m, fu, D, Pl, hcs, -, hl, hm, hmm, -, hx⟩
  · simp only [List.cons.injEq, and_true] at hcs
    subst hcs
    exact ⟨[], none, 0, rfl, by simp, by simp⟩
  · simp only [List.cons.injEq, and_true] at hcs
    subst hcs
    simp only [if_true] at hmm
    subst hmm
    rw [Tryd.cells54] at hx
    by_cases h0 : len = 0
    · subst h0
      exact ⟨[], some a, m, rfl, ⟨by simp, hm⟩, by simp⟩
    · obtain ⟨cs0, hc0, -⟩ := hx 0 (by omega)
      obtain ⟨-, -, hcell0⟩ := World.cells?_some hc0
      obtain ⟨cs00, hh, hsome⟩ : ∃ q w', cs0 = q ∧ W.cell? a = some w' := by
        obtain ⟨-, hlen0, -⟩ := World.cells?_some hc0
        match cs0, hlen0 with
        | [c0, c1, c2, c3], _ => exact ⟨_, c0, rfl, by simpa [Addr.add] using hcell0 0 (by omega)⟩
      obtain ⟨b, off, spot⟩ := a
      have hspot : spot = none := World.cell?_spot hsome.2
      subst hspot
      have inh : Inhabited El := ⟨dE⟩
      obtain ⟨f, hf⟩ := Go.Deep.choose_lt (α := El) (p := fun i x => ElAt 0 W.heap.size W b (off + i * 4) x) (n := len) (fun i hi => by
        obtain ⟨cs', h1, h2⟩ := hx i (by omega)
        rw [add_plain] at h1
        exact el_of h1 h2)
      have hb : b < W.heap.size := World.block_lt_of_cell? _ _ hsome.2
      refine ⟨(List.range len).map f, _, m, by simp, ⟨by simpa using hl, hm⟩, fun _ => ⟨b, off, rfl, Nat.zero_le _, hb, fun i hi => ?_⟩⟩
      have hi' : i < len := by simpa using hi
      have := hf i hi'
      simpa [hi'] using this

end
end Go.Proofs.YtfdkdjngeomcdaaDoor

namespace Go.Proofs.YtfdkdjngeomcdaaDoor
open Go.ChangeShapes Go.WideShapes Go.ChangeAt Go.RowKit

theorem Tryd.own : ownKnob Tryd.prog.godebug = none := by kernel_rfl
theorem Tryd.laidOut : laidOutB Tryd.prog = true := by kernel_rfl
theorem Tryd.cells5 : Tryd.prog.cellsOf 5 = 1 := by kernel_rfl
theorem IntsAt.sl {lo n : Nat} {w : World} {v : Value} {xs : List Int} (h : IntsAt lo n w v xs) : SlAt mI 0 lo n w v xs ∧ ∀ i : Nat, In64 (xs[i]?.getD 0) := by
  obtain ⟨a, cap, rfl, hl, hr, hc⟩ := h
  exact ⟨⟨a, cap, rfl, hl, hc⟩, hr⟩

section
variable {H : Type} {enc : TypeId × Value → H} {W : World}

theorem bytes_of {n : Nat} {v : Value} {y : DataW H × List MemPlace} (h : DataW.trod enc Tryd.prog W 0 (fun _ => true) true n 25 [v] = some y) : ∃ bs, SlAt mB 0 0 W.heap.size W v bs ∧ Bytes bs := by
  rcases open_ints Tryd.underlying25 Tryd.underlying5 Tryd.cells5 h with ⟨hcs, -⟩ | ⟨a, len, cap, zs, hcs, -, hl, hm, hz, -, hcell, hwz⟩
  · simp only [List.cons.injEq, and_true] at hcs
    subst hcs
    exact ⟨[], ⟨none, 0, rfl, by simp, by simp⟩, by intro i; simp⟩
  · simp only [List.cons.injEq, and_true] at hcs
    subst hcs
    simp only [if_true] at hz
    have hlen : (zs.take len).length = len := by rw [List.length_take]; omega
    refine ⟨zs.take len, ⟨some a, cap, by rw [hlen], by omega, fun hp => ?_⟩, fun i => ?_⟩
    · obtain ⟨b, off, rfl, hc⟩ := ints_at hcell (by omega)
      refine ⟨b, off, rfl, Nat.zero_le _, World.block_lt_of_cell? _ _ (hc 0 (by omega)), fun i hi => ?_⟩
      rw [hlen] at hi
      rw [hc i (by omega), List.getElem?_take_of_lt hi]
      rfl
    · by_cases hi : i < (zs.take len).length
      · rw [List.getElem?_eq_getElem hi]
        have := hwz _ (List.mem_of_mem_take (List.getElem_mem hi))
        simpa [Lit.wf, IntKind.min, IntKind.max, IntKind.signed, IntKind.bits] using this
      · rw [List.getElem?_eq_none (by omega)]
        simp

end
end Go.Proofs.YtfdkdjngeomcdaaDoor
