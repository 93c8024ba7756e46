import Derived.Test.YtfdkdjngeomcdaaDoorP9
import Derived.Test.YtfdkdjngeomcdaaDoorP14
import Derived.Test.YtfdkdjngeomcdaaDoorP4
import Derived.Deep.RegionWith
import Derived.Test.YtfdkdjngeomcdaaDoorP5
namespace Go.Proofs.YtfdkdjngeomcdaaDoor
open Go.RowKit

/-- All links lie below n. -/
def LkB (ln : List Lk) (n : Nat) : Prop := ∀ p ∈ ln, (∀ y ∈ p.1, y < n) ∧ ∀ y ∈ p.2, y < n
theorem LkB.mono {ln : List Lk} {n m : Nat} (h : LkB ln n) (hm : n ≤ m) : LkB ln m := fun p hp => ⟨fun y hy => Nat.lt_of_lt_of_le ((h p hp).1 y hy) hm, fun y hy => Nat.lt_of_lt_of_le ((h p hp).2 y hy) hm⟩
theorem LkB.snoc {ln : List Lk} {n : Nat} {A B : List Nat} (h : LkB ln n) (ha : ∀ y ∈ A, y < n) (hb : ∀ y ∈ B, y < n) : LkB (ln ++ [(A, B)]) n := fun p hp => by
  rcases List.mem_append.1 hp with hp | hp
  · exact h p hp
  · rw [List.mem_singleton] at hp
    subst hp
    exact ⟨ha, hb⟩
def OkMs (s : Ms) : Prop := (∀ a ∈ s.st, Bdd a s.c) ∧ LkB s.ln s.c
theorem OkMs.push {s : Ms} (h : OkMs s) (x : El) : OkMs (oPush s x) := by
  obtain ⟨c, st, ln, ss⟩ := s
  obtain ⟨h1, h2⟩ := h
  simp only at h1 h2
  unfold oPush
  simp only
  repeat' split
  all_goals first
    | exact ⟨h1, h2⟩
    | skip
  · exact ⟨fun a ha => by rcases List.mem_cons.1 ha with rfl | ha; (constructor <;> simp); exact h1 a ha, h2⟩
  · exact ⟨fun a ha => by rcases List.mem_cons.1 ha with rfl | ha; (constructor <;> simp); exact (h1 a ha).mono (Nat.le_succ _), h2.mono (Nat.le_succ _)⟩
  · rename_i o _
    have ho := h1 o (by simp)
    exact ⟨fun a ha => by rw [List.mem_singleton] at ha; subst ha; exact ho, h2.snoc ho.2 ho.1⟩
  · rename_i r l b _
    have hr := h1 r (by simp)
    exact ⟨fun a ha => by rcases List.mem_cons.1 ha with rfl | ha; exact hr; exact h1 a (List.mem_cons_of_mem _ ha), h2.snoc hr.2 hr.1⟩
  · rename_i r l b _ _
    have hr := h1 r (by simp)
    have hl := h1 l (by simp)
    exact ⟨fun a ha => by rcases List.mem_cons.1 ha with rfl | ha; exact hl.cat hr; exact h1 a (by simp [ha]), h2.snoc hl.2 hr.1⟩
  · rename_i r l b _ _
    have hr := h1 r (by simp)
    have hl := h1 l (by simp)
    exact ⟨fun a ha => by rcases List.mem_cons.1 ha with rfl | ha; exact hl.alt hr; exact h1 a (by simp [ha]), h2⟩
theorem OkMs.run (L : List El) : ∀ s : Ms, OkMs s → OkMs (oRun s L) := by
  induction L with
  | nil => intro s h; exact h
  | cons x r ih => intro s h; exact ih _ (h.push x)
theorem SegO.lkb {L : List El} {n : Nat} {a : It} {ln : List Lk} {ss : List (List Int)} (h : SegO L n a ln ss) : LkB ln n := by
  have h1 := (OkMs.run L ini ⟨by simp [ini], by intro p hp; simp [ini] at hp⟩).2
  rw [h ini] at h1
  simpa [ini, shL] using h1
theorem mkd_far {ln : List Lk} {n : Nat} (h : LkB ln n) (i j : Nat) (hj : n ≤ j) : mkd ln i j = false := by
  unfold mkd
  rw [Bool.eq_false_iff]
  intro q
  obtain ⟨p, hp, hq⟩ := List.any_eq_true.1 q
  rw [Bool.and_eq_true] at hq
  have := (h p hp).2 j (List.contains_iff_mem.1 hq.2)
  omega
theorem fol_is {ln : List Lk} {n i : Nat} {f : Nat → Nat} (h : LkB ln n) (hf : ∀ j, Bt f j = mkd ln i j) (hn : n ≤ 512) : blN f 512 = (List.range n).filter (mkd ln i) := by
  unfold blN
  refine ascN_uniq (List.Pairwise.filter _ (range_asc 512)) (List.Pairwise.filter _ (range_asc n)) (fun z => ?_)
  rw [List.mem_filter, List.mem_filter, List.mem_range, List.mem_range, hf z]
  constructor
  · rintro ⟨-, h2⟩
    refine ⟨?_, h2⟩
    apply Nat.lt_of_not_le
    intro e
    rw [mkd_far h i z e] at h2
    cases h2
  · rintro ⟨h1, h2⟩
    exact ⟨by omega, h2⟩

end Go.Proofs.YtfdkdjngeomcdaaDoor

namespace Go.Proofs.YtfdkdjngeomcdaaDoor
open Go.RowKit

/-- Beginning at a place with position p, k positions more, to the end of what is shown. -/
def Suf (n : Nat) (S : Nat → Nat → Prop) (K : Nat → Nat → Prop) (E : Nat → Prop) : Nat → Nat → Nat → Prop
  | 0, p, i => i < n ∧ S p i ∧ E p
  | k + 1, p, i => i < n ∧ S p i ∧ ∃ q, K p q ∧ Suf n S K E k q (i + 1)
/-- The relation is what the positions read. -/
def Glu (n : Nat) (S : Nat → Nat → Prop) (R : Rl) (a : It) (ln : List Lk) : Prop :=
  ∀ i j, R i j ↔ (i = j ∧ j ≤ n ∧ a.nl = true) ∨ ∃ k p, j = i + k + 1 ∧ p ∈ a.fi ∧ Suf n S (fun x y => mkd ln x y = true) (fun x => x ∈ a.la) k p i
section
variable {n : Nat}
theorem Suf.lt {S K : Nat → Nat → Prop} {E : Nat → Prop} : ∀ {k p i}, Suf n S K E k p i → i + k < n
  | 0, _, _, h => h.1
  | _ + 1, _, _, ⟨_, _, _, _, h⟩ => by have := Suf.lt h; omega
theorem Suf.imp {S S' K K' : Nat → Nat → Prop} {E E' : Nat → Prop} {N : Nat} (hS : ∀ p i, p < N → S p i → S' p i) (hK : ∀ p q, p < N → K p q → K' p q ∧ q < N) (hE : ∀ p, p < N → E p → E' p) : ∀ {k p i}, p < N → Suf n S K E k p i → Suf n S' K' E' k p i
  | 0, _, _, hp, h => ⟨h.1, hS _ _ hp h.2.1, hE _ hp h.2.2⟩
  | _ + 1, _, _, hp, ⟨h1, h2, q, h3, h4⟩ => ⟨h1, hS _ _ hp h2, q, (hK _ _ hp h3).1, Suf.imp hS hK hE (hK _ _ hp h3).2 h4⟩
theorem mkd_sh (c : Nat) (ln : List Lk) (i j : Nat) : mkd (shL c ln) i j = true ↔ ∃ i' j', i = c + i' ∧ j = c + j' ∧ mkd ln i' j' = true := by
  unfold mkd shL
  simp only [List.any_eq_true, List.mem_map, Bool.and_eq_true, List.contains_iff_mem]
  constructor
  · rintro ⟨p, ⟨q, hq, rfl⟩, h1, h2⟩
    obtain ⟨i', h3, rfl⟩ := List.mem_map.1 h1
    obtain ⟨j', h4, rfl⟩ := List.mem_map.1 h2
    exact ⟨i', j', rfl, rfl, q, hq, h3, h4⟩
  · rintro ⟨i', j', rfl, rfl, q, hq, h3, h4⟩
    exact ⟨_, ⟨q, hq, rfl⟩, List.mem_map.2 ⟨_, h3, rfl⟩, List.mem_map.2 ⟨_, h4, rfl⟩⟩
theorem mkd_lt {ln : List Lk} {N : Nat} (h : LkB ln N) {i j : Nat} (hm : mkd ln i j = true) : i < N ∧ j < N := by
  unfold mkd at hm
  simp only [List.any_eq_true, Bool.and_eq_true, List.contains_iff_mem] at hm
  obtain ⟨p, hp, h1, h2⟩ := hm
  exact ⟨(h p hp).1 _ h1, (h p hp).2 _ h2⟩
theorem mem_sh (c : Nat) (xs : List Nat) (p : Nat) : p ∈ xs.map (c + ·) ↔ ∃ q, p = c + q ∧ q ∈ xs := by
  rw [List.mem_map]
  exact ⟨fun ⟨q, h1, h2⟩ => ⟨q, h2.symm, h1⟩, fun ⟨q, h1, h2⟩ => ⟨q, h2, h1.symm⟩⟩
/-- The same positions, counted from c on. -/
theorem Suf.sh {S S' K K' : Nat → Nat → Prop} {E E' : Nat → Prop} (c : Nat) (hS : ∀ p i, S' (c + p) i ↔ S p i) (hK : ∀ p q, K' (c + p) q ↔ ∃ q', q = c + q' ∧ K p q') (hE : ∀ p, E' (c + p) ↔ E p) : ∀ {k p i}, Suf n S' K' E' k (c + p) i ↔ Suf n S K E k p i
  | 0, p, i => by
    show (_ ∧ _ ∧ _) ↔ (_ ∧ _ ∧ _)
    rw [hS, hE]
  | k + 1, p, i => by
    show (_ ∧ _ ∧ _) ↔ (_ ∧ _ ∧ _)
    rw [hS]
    constructor
    · rintro ⟨h1, h2, q, h3, h4⟩
      obtain ⟨q', rfl, h5⟩ := (hK _ _).1 h3
      exact ⟨h1, h2, q', h5, (Suf.sh c hS hK hE).1 h4⟩
    · rintro ⟨h1, h2, q, h3, h4⟩
      exact ⟨h1, h2, c + q, (hK _ _).2 ⟨q, rfl, h3⟩, (Suf.sh c hS hK hE).2 h4⟩
/-- The set of each position. -/
def SetP (hs : List Int → Nat → Prop) (ss : List (List Int)) : Nat → Nat → Prop := fun p i => hs (ss[p]?.getD []) i
theorem setP_l (hs : List Int → Nat → Prop) (sa sb : List (List Int)) {N : Nat} (hN : sa.length = N) {p : Nat} (hp : p < N) (i : Nat) : SetP hs (sa ++ sb) p i ↔ SetP hs sa p i := by
  unfold SetP
  rw [List.getElem?_append_left (by omega)]
theorem setP_r (hs : List Int → Nat → Prop) (sa sb : List (List Int)) {N : Nat} (hN : sa.length = N) (p i : Nat) : SetP hs (sa ++ sb) (N + p) i ↔ SetP hs sb p i := by
  unfold SetP
  rw [List.getElem?_append_right (by omega), show N + p - sa.length = p by omega]

variable {hs : List Int → Nat → Prop}
theorem glu_e : Glu n (SetP hs []) (rEps n) ⟨true, [], []⟩ [] := fun i j => by
  constructor
  · rintro ⟨h1, h2⟩; exact Or.inl ⟨h1, h2, rfl⟩
  · rintro (⟨h1, h2, -⟩ | ⟨k, p, -, h, -⟩)
    · exact ⟨h1, h2⟩
    · cases h
theorem glu_s (xs : List Int) : Glu n (SetP hs [xs]) (rOne n (hs xs)) ⟨false, [0], [0]⟩ [] := fun i j => by
  constructor
  · rintro ⟨rfl, h1, h2⟩
    exact Or.inr ⟨0, 0, rfl, by simp, h1, h2, by simp⟩
  · rintro (⟨-, -, h⟩ | ⟨k, p, rfl, h1, h2⟩)
    · cases h
    · simp only [List.mem_singleton] at h1
      subst h1
      match k, h2 with
      | 0, h2 => exact ⟨rfl, h2.1, h2.2.1⟩
      | k + 1, ⟨_, _, q, h, _⟩ => simp [mkd] at h
section
variable {A B : Rl} {a b : It} {la lb : List Lk} {sa sb : List (List Int)} {N M : Nat}
theorem glu_alt (hA : Glu n (SetP hs sa) A a la) (hB : Glu n (SetP hs sb) B b lb) (ha : Bdd a N) (hla : LkB la N) (hN : sa.length = N) :
    Glu n (SetP hs (sa ++ sb)) (rAlt A B) (itAlt a (b.sh N)) (la ++ shL N lb) := fun i j => by
  have kL : ∀ p q, p < N → (mkd (la ++ shL N lb) p q = true ↔ mkd la p q = true) := fun p q hp => by
    rw [mkd_app, Bool.or_eq_true, mkd_sh]
    exact ⟨fun h => h.elim id (fun ⟨i', _, e, _⟩ => by omega), Or.inl⟩
  have kR : ∀ p q, mkd (la ++ shL N lb) (N + p) q = true ↔ ∃ q', q = N + q' ∧ mkd lb p q' = true := fun p q => by
    rw [mkd_app, Bool.or_eq_true, mkd_sh]
    constructor
    · rintro (h | ⟨i', j', e, rfl, h⟩)
      · have := (mkd_lt hla h).1; omega
      · obtain rfl : p = i' := by omega
        exact ⟨j', rfl, h⟩
    · rintro ⟨q', rfl, h⟩; exact Or.inr ⟨p, q', rfl, rfl, h⟩
  have eL : ∀ p, p < N → (p ∈ (itAlt a (b.sh N)).la ↔ p ∈ a.la) := fun p hp => by
    show p ∈ a.la ++ b.la.map (N + ·) ↔ _
    rw [List.mem_append, mem_sh]
    exact ⟨fun h => h.elim id (fun ⟨q, e, _⟩ => by omega), Or.inl⟩
  have eR : ∀ p, N + p ∈ (itAlt a (b.sh N)).la ↔ p ∈ b.la := fun p => by
    show N + p ∈ a.la ++ b.la.map (N + ·) ↔ _
    rw [List.mem_append, mem_sh]
    constructor
    · rintro (h | ⟨q, e, h⟩)
      · have := ha.2 _ h; omega
      · obtain rfl : p = q := by omega
        exact h
    · intro h; exact Or.inr ⟨p, rfl, h⟩
  have sL : ∀ k p i, p < N → (Suf n (SetP hs (sa ++ sb)) (fun x y => mkd (la ++ shL N lb) x y = true) (fun x => x ∈ (itAlt a (b.sh N)).la) k p i ↔ Suf n (SetP hs sa) (fun x y => mkd la x y = true) (fun x => x ∈ a.la) k p i) := fun k p i hp =>
    ⟨Suf.imp (N := N) (fun p i hp h => (setP_l hs sa sb hN hp i).1 h) (fun p q hp h => ⟨(kL p q hp).1 h, (mkd_lt hla ((kL p q hp).1 h)).2⟩) (fun p hp h => (eL p hp).1 h) hp,
     Suf.imp (N := N) (fun p i hp h => (setP_l hs sa sb hN hp i).2 h) (fun p q hp h => ⟨(kL p q hp).2 h, (mkd_lt hla h).2⟩) (fun p hp h => (eL p hp).2 h) hp⟩
  have sR : ∀ k p i, Suf n (SetP hs (sa ++ sb)) (fun x y => mkd (la ++ shL N lb) x y = true) (fun x => x ∈ (itAlt a (b.sh N)).la) k (N + p) i ↔ Suf n (SetP hs sb) (fun x y => mkd lb x y = true) (fun x => x ∈ b.la) k p i := fun k p i =>
    Suf.sh N (fun p i => setP_r hs sa sb hN p i) kR eR
  show (A i j ∨ B i j) ↔ _
  rw [hA i j, hB i j]
  constructor
  · rintro ((⟨h1, h2, h3⟩ | ⟨k, p, h1, h2, h3⟩) | (⟨h1, h2, h3⟩ | ⟨k, p, h1, h2, h3⟩))
    · exact Or.inl ⟨h1, h2, by show (a.nl || b.nl) = true; rw [h3, Bool.true_or]⟩
    · exact Or.inr ⟨k, p, h1, List.mem_append.2 (Or.inl h2), (sL _ _ _ (ha.1 _ h2)).2 h3⟩
    · exact Or.inl ⟨h1, h2, by show (a.nl || b.nl) = true; rw [h3, Bool.or_true]⟩
    · exact Or.inr ⟨k, N + p, h1, List.mem_append.2 (Or.inr ((mem_sh _ _ _).2 ⟨p, rfl, h2⟩)), (sR _ _ _).2 h3⟩
  · rintro (⟨h1, h2, h3⟩ | ⟨k, p, h1, h2, h3⟩)
    · have h3' : (a.nl || b.nl) = true := h3
      rcases (Bool.or_eq_true _ _).mp h3' with h | h
      · exact Or.inl (Or.inl ⟨h1, h2, h⟩)
      · exact Or.inr (Or.inl ⟨h1, h2, h⟩)
    · rcases List.mem_append.1 h2 with h | h
      · exact Or.inl (Or.inr ⟨k, p, h1, h, (sL _ _ _ (ha.1 _ h)).1 h3⟩)
      · obtain ⟨q, rfl, h'⟩ := (mem_sh _ _ _).1 h
        exact Or.inr (Or.inr ⟨k, q, h1, h', (sR _ _ _).1 h3⟩)
theorem glu_cat (hA : Glu n (SetP hs sa) A a la) (hB : Glu n (SetP hs sb) B b lb) (ha : Bdd a N) (hla : LkB la N) (hN : sa.length = N) :
    Glu n (SetP hs (sa ++ sb)) (rCat A B) (itCat a (b.sh N)) (la ++ shL N lb ++ [(a.la, (b.sh N).fi)]) := fun i j => by
  obtain ⟨KK, hKK⟩ : ∃ KK, KK = la ++ shL N lb ++ [(a.la, (b.sh N).fi)] := ⟨_, rfl⟩
  rw [← hKK]
  have kA : ∀ p q, mkd KK p q = true ↔ mkd la p q = true ∨ (∃ p' q', p = N + p' ∧ q = N + q' ∧ mkd lb p' q' = true) ∨ (p ∈ a.la ∧ ∃ q', q = N + q' ∧ q' ∈ b.fi) := fun p q => by
    rw [hKK, mkd_app, mkd_app, mkd_one, Bool.or_eq_true, Bool.or_eq_true, Bool.and_eq_true, mkd_sh, List.contains_iff_mem, List.contains_iff_mem, or_assoc]
    show _ ∨ _ ∨ (_ ∧ q ∈ b.fi.map (N + ·)) ↔ _
    rw [mem_sh]
  have kR : ∀ p q, mkd KK (N + p) q = true ↔ ∃ q', q = N + q' ∧ mkd lb p q' = true := fun p q => by
    rw [kA]
    constructor
    · rintro (h | ⟨i', j', e, rfl, h⟩ | ⟨h, -⟩)
      · have := (mkd_lt hla h).1; omega
      · obtain rfl : p = i' := by omega
        exact ⟨j', rfl, h⟩
      · have := ha.2 _ h; omega
    · rintro ⟨q', rfl, h⟩; exact Or.inr (Or.inl ⟨p, q', rfl, rfl, h⟩)
  have eA : ∀ p, p ∈ (itCat a (b.sh N)).la ↔ (b.nl = true ∧ p ∈ a.la) ∨ ∃ q, p = N + q ∧ q ∈ b.la := fun p => by
    show p ∈ (if b.nl then a.la else []) ++ b.la.map (N + ·) ↔ _
    rw [List.mem_append, mem_sh]
    cases b.nl <;> simp
  have eR : ∀ p, N + p ∈ (itCat a (b.sh N)).la ↔ p ∈ b.la := fun p => by
    rw [eA]
    constructor
    · rintro (⟨-, h⟩ | ⟨q, e, h⟩)
      · have := ha.2 _ h; omega
      · obtain rfl : p = q := by omega
        exact h
    · intro h; exact Or.inr ⟨p, rfl, h⟩
  have sR : ∀ k p i, Suf n (SetP hs (sa ++ sb)) (fun x y => mkd KK x y = true) (fun x => x ∈ (itCat a (b.sh N)).la) k (N + p) i ↔ Suf n (SetP hs sb) (fun x y => mkd lb x y = true) (fun x => x ∈ b.la) k p i := fun k p i =>
    Suf.sh N (fun p i => setP_r hs sa sb hN p i) kR eR
  have sL : ∀ k p i, p < N → (Suf n (SetP hs (sa ++ sb)) (fun x y => mkd KK x y = true) (fun x => x ∈ (itCat a (b.sh N)).la) k p i ↔
      (b.nl = true ∧ Suf n (SetP hs sa) (fun x y => mkd la x y = true) (fun x => x ∈ a.la) k p i) ∨ ∃ k1 k2 q, k = k1 + k2 + 1 ∧ Suf n (SetP hs sa) (fun x y => mkd la x y = true) (fun x => x ∈ a.la) k1 p i ∧ q ∈ b.fi ∧ Suf n (SetP hs sb) (fun x y => mkd lb x y = true) (fun x => x ∈ b.la) k2 q (i + k1 + 1)) := by
    intro k
    induction k with
    | zero =>
      intro p i hp
      show (_ ∧ _ ∧ p ∈ (itCat a (b.sh N)).la) ↔ _
      rw [setP_l hs sa sb hN hp, eA]
      constructor
      · rintro ⟨h1, h2, (⟨h3, h4⟩ | ⟨q, e, -⟩)⟩
        · exact Or.inl ⟨h3, h1, h2, h4⟩
        · omega
      · rintro (⟨h1, h2, h3, h4⟩ | ⟨k1, k2, q, e, -⟩)
        · exact ⟨h2, h3, Or.inl ⟨h1, h4⟩⟩
        · omega
    | succ k ih =>
      intro p i hp
      constructor
      · rintro ⟨h1, h2, q, h3, h4⟩
        have h2 := (setP_l hs sa sb hN hp i).1 h2
        rcases (kA _ _).1 h3 with h | ⟨i', j', e, -⟩ | ⟨h, q', rfl, h'⟩
        · rcases (ih q (i + 1) (mkd_lt hla h).2).1 h4 with ⟨h5, h6⟩ | ⟨k1, k2, q', h5, h6, h7, h8⟩
          · exact Or.inl ⟨h5, h1, h2, q, h, h6⟩
          · exact Or.inr ⟨k1 + 1, k2, q', by omega, ⟨h1, h2, q, h, h6⟩, h7, by rw [show i + (k1 + 1) + 1 = i + 1 + k1 + 1 by omega]; exact h8⟩
        · omega
        · exact Or.inr ⟨0, k, q', by omega, ⟨h1, h2, h⟩, h', (sR _ _ _).1 h4⟩
      · rintro (⟨h1, h2, h3, q, h4, h5⟩ | ⟨k1, k2, q, h1, h2, h3, h4⟩)
        · exact ⟨h2, (setP_l hs sa sb hN hp i).2 h3, q, (kA _ _).2 (Or.inl h4), (ih q (i + 1) (mkd_lt hla h4).2).2 (Or.inl ⟨h1, h5⟩)⟩
        · match k1, h2 with
          | 0, ⟨h5, h6, h7⟩ =>
            obtain rfl : k = k2 := by omega
            exact ⟨h5, (setP_l hs sa sb hN hp i).2 h6, N + q, (kA _ _).2 (Or.inr (Or.inr ⟨h7, q, rfl, h3⟩)), (sR _ _ _).2 h4⟩
          | k1 + 1, ⟨h5, h6, q', h7, h8⟩ =>
            exact ⟨h5, (setP_l hs sa sb hN hp i).2 h6, q', (kA _ _).2 (Or.inl h7), (ih q' (i + 1) (mkd_lt hla h7).2).2 (Or.inr ⟨k1, k2, q, by omega, h8, h3, by rw [show i + 1 + k1 + 1 = i + (k1 + 1) + 1 by omega]; exact h4⟩)⟩
  have fA : ∀ p, p ∈ (itCat a (b.sh N)).fi ↔ p ∈ a.fi ∨ (a.nl = true ∧ ∃ q, p = N + q ∧ q ∈ b.fi) := fun p => by
    show p ∈ a.fi ++ (if a.nl then b.fi.map (N + ·) else []) ↔ _
    rw [List.mem_append]
    cases a.nl <;> simp [eq_comm, and_comm]
  have nA : (itCat a (b.sh N)).nl = true ↔ a.nl = true ∧ b.nl = true := by show (a.nl && b.nl) = true ↔ _; rw [Bool.and_eq_true]
  rw [nA]
  constructor
  · rintro ⟨m, h1, h2⟩
    rcases (hA i m).1 h1 with ⟨rfl, h3, h4⟩ | ⟨k, p, rfl, h3, h4⟩
    · rcases (hB i j).1 h2 with ⟨h5, h6, h7⟩ | ⟨k, p, h5, h6, h7⟩
      · exact Or.inl ⟨h5, h6, h4, h7⟩
      · exact Or.inr ⟨k, N + p, h5, (fA _).2 (Or.inr ⟨h4, p, rfl, h6⟩), (sR _ _ _).2 h7⟩
    · rcases (hB _ j).1 h2 with ⟨h5, h6, h7⟩ | ⟨k2, p2, h5, h6, h7⟩
      · exact Or.inr ⟨k, p, h5.symm, (fA _).2 (Or.inl h3), (sL _ _ _ (ha.1 _ h3)).2 (Or.inl ⟨h7, h4⟩)⟩
      · exact Or.inr ⟨k + k2 + 1, p, by omega, (fA _).2 (Or.inl h3), (sL _ _ _ (ha.1 _ h3)).2 (Or.inr ⟨k, k2, p2, rfl, h4, h6, h7⟩)⟩
  · rintro (⟨h1, h2, h3, h4⟩ | ⟨k, p, h1, h2, h3⟩)
    · exact ⟨i, (hA i i).2 (Or.inl ⟨rfl, by omega, h3⟩), (hB i j).2 (Or.inl ⟨h1, h2, h4⟩)⟩
    · rcases (fA _).1 h2 with h | ⟨h, q, rfl, h'⟩
      · have hlt := Suf.lt h3
        rcases (sL _ _ _ (ha.1 _ h)).1 h3 with ⟨h4, h5⟩ | ⟨k1, k2, q, h4, h5, h6, h7⟩
        · exact ⟨j, (hA i j).2 (Or.inr ⟨k, p, h1, h, h5⟩), (hB j j).2 (Or.inl ⟨rfl, by omega, h4⟩)⟩
        · exact ⟨i + k1 + 1, (hA _ _).2 (Or.inr ⟨k1, p, rfl, h, h5⟩), (hB _ _).2 (Or.inr ⟨k2, q, by omega, h6, h7⟩)⟩
      · have h4 := (sR _ _ _).1 h3
        have hlt := Suf.lt h4
        exact ⟨i, (hA i i).2 (Or.inl ⟨rfl, by omega, h⟩), (hB i j).2 (Or.inr ⟨k, q, h1, h', h4⟩)⟩
theorem glu_rep (hA : Glu n (SetP hs sa) A a la) (hb : RB n A) (mn : Int) (h0 : 0 ≤ mn) (h1 : mn ≤ 1) : Glu n (SetP hs sa) (rRep n A mn (-1)) (itRep a mn) (la ++ [(a.la, a.fi)]) := fun i j => by
  have kA : ∀ p q, mkd (la ++ [(a.la, a.fi)]) p q = true ↔ mkd la p q = true ∨ (p ∈ a.la ∧ q ∈ a.fi) := fun p q => by
    rw [mkd_app, mkd_one, Bool.or_eq_true, Bool.and_eq_true, List.contains_iff_mem, List.contains_iff_mem]
  have up : ∀ {k1 : Nat} {p i : Nat}, Suf n (SetP hs sa) (fun x y => mkd la x y = true) (fun x => x ∈ a.la) k1 p i → Suf n (SetP hs sa) (fun x y => mkd (la ++ [(a.la, a.fi)]) x y = true) (fun x => x ∈ a.la) k1 p i := by
    intro k1
    induction k1 with
    | zero => intro p i h; exact h
    | succ k ih => rintro p i ⟨h1, h2, q, h3, h4⟩; exact ⟨h1, h2, q, (kA _ _).2 (Or.inl h3), ih h4⟩
  have join : ∀ {k1 k2 : Nat} {p i q : Nat}, Suf n (SetP hs sa) (fun x y => mkd la x y = true) (fun x => x ∈ a.la) k1 p i → q ∈ a.fi → Suf n (SetP hs sa) (fun x y => mkd (la ++ [(a.la, a.fi)]) x y = true) (fun x => x ∈ a.la) k2 q (i + k1 + 1) →
      Suf n (SetP hs sa) (fun x y => mkd (la ++ [(a.la, a.fi)]) x y = true) (fun x => x ∈ a.la) (k1 + k2 + 1) p i := by
    intro k1
    induction k1 with
    | zero => rintro k2 p i q ⟨h1, h2, h3⟩ h4 h5; rw [Nat.zero_add]; exact ⟨h1, h2, q, (kA _ _).2 (Or.inr ⟨h3, h4⟩), h5⟩
    | succ k ih =>
      rintro k2 p i q ⟨h1, h2, q', h3, h4⟩ h5 h6
      rw [show k + 1 + k2 + 1 = k + k2 + 1 + 1 by omega]
      exact ⟨h1, h2, q', (kA _ _).2 (Or.inl h3), ih h4 h5 (by rw [show i + 1 + k + 1 = i + (k + 1) + 1 by omega]; exact h6)⟩
  have cut : ∀ {k : Nat} {p i : Nat}, Suf n (SetP hs sa) (fun x y => mkd (la ++ [(a.la, a.fi)]) x y = true) (fun x => x ∈ a.la) k p i →
      Suf n (SetP hs sa) (fun x y => mkd la x y = true) (fun x => x ∈ a.la) k p i ∨ ∃ k1 k2 q, k = k1 + k2 + 1 ∧ Suf n (SetP hs sa) (fun x y => mkd la x y = true) (fun x => x ∈ a.la) k1 p i ∧ q ∈ a.fi ∧ Suf n (SetP hs sa) (fun x y => mkd (la ++ [(a.la, a.fi)]) x y = true) (fun x => x ∈ a.la) k2 q (i + k1 + 1) := by
    intro k
    induction k with
    | zero => intro p i h; exact Or.inl h
    | succ k ih =>
      rintro p i ⟨h1, h2, q, h3, h4⟩
      rcases (kA _ _).1 h3 with h | ⟨h, h'⟩
      · rcases ih h4 with h5 | ⟨k1, k2, q', h5, h6, h7, h8⟩
        · exact Or.inl ⟨h1, h2, q, h, h5⟩
        · exact Or.inr ⟨k1 + 1, k2, q', by omega, ⟨h1, h2, q, h, h6⟩, h7, by rw [show i + (k1 + 1) + 1 = i + 1 + k1 + 1 by omega]; exact h8⟩
      · exact Or.inr ⟨0, k, q, by omega, ⟨h1, h2, h⟩, h', h4⟩
  have fwd : ∀ (t i j : Nat), rPow n A t i j → (i = j ∧ j ≤ n ∧ (t = 0 ∨ a.nl = true)) ∨ ∃ k p, j = i + k + 1 ∧ p ∈ a.fi ∧ Suf n (SetP hs sa) (fun x y => mkd (la ++ [(a.la, a.fi)]) x y = true) (fun x => x ∈ a.la) k p i := by
    intro t
    induction t with
    | zero => rintro i j ⟨h1, h2⟩; exact Or.inl ⟨h1, h2, Or.inl rfl⟩
    | succ t ih =>
      intro i j h
      rw [pow_front hb] at h
      obtain ⟨m, h1, h2⟩ := h
      rcases (hA i m).1 h1 with ⟨rfl, h3, h4⟩ | ⟨k, p, rfl, h3, h4⟩
      · rcases ih i j h2 with ⟨h5, h6, -⟩ | h5
        · exact Or.inl ⟨h5, h6, Or.inr h4⟩
        · exact Or.inr h5
      · rcases ih _ j h2 with ⟨h5, h6, -⟩ | ⟨k2, q, h5, h6, h7⟩
        · exact Or.inr ⟨k, p, h5.symm, h3, up h4⟩
        · exact Or.inr ⟨k + k2 + 1, p, by omega, h3, join h4 h6 h7⟩
  have bwd : ∀ (k : Nat), ∀ k', k' ≤ k → ∀ p i, p ∈ a.fi → Suf n (SetP hs sa) (fun x y => mkd (la ++ [(a.la, a.fi)]) x y = true) (fun x => x ∈ a.la) k' p i → ∃ t, rPow n A (t + 1) i (i + k' + 1) := by
    intro k
    induction k with
    | zero =>
      intro k' hk p i hp h
      obtain rfl : k' = 0 := by omega
      refine ⟨0, ?_⟩
      show rCat (rEps n) A _ _
      rw [eps_cat hb]
      exact (hA _ _).2 (Or.inr ⟨0, p, rfl, hp, h⟩)
    | succ k ih =>
      intro k' hk p i hp h
      rcases cut h with h1 | ⟨k1, k2, q, h1, h2, h3, h4⟩
      · refine ⟨0, ?_⟩
        show rCat (rEps n) A _ _
        rw [eps_cat hb]
        exact (hA _ _).2 (Or.inr ⟨k', p, rfl, hp, h1⟩)
      · obtain ⟨t, ht⟩ := ih k2 (by omega) q _ h3 h4
        refine ⟨t + 1, ?_⟩
        rw [pow_front hb]
        exact ⟨i + k1 + 1, (hA _ _).2 (Or.inr ⟨k1, p, rfl, hp, h2⟩), by rw [show i + k' + 1 = i + k1 + 1 + k2 + 1 by omega]; exact ht⟩
  have nA : (itRep a mn).nl = true ↔ a.nl = true ∨ mn = 0 := by show (a.nl || decide (mn = 0)) = true ↔ _; rw [Bool.or_eq_true, decide_eq_true_eq]
  rw [nA]
  constructor
  · rintro ⟨t, h2, -, h3⟩
    rcases fwd t i j h3 with ⟨h4, h5, h6⟩ | h4
    · exact Or.inl ⟨h4, h5, h6.symm.imp id (fun e => by omega)⟩
    · exact Or.inr h4
  · rintro (⟨rfl, h2, h3⟩ | ⟨k, p, rfl, h2, h3⟩)
    · rcases h3 with h3 | h3
      · refine ⟨1, by omega, Or.inl rfl, ?_⟩
        show rCat (rEps n) A _ _
        rw [eps_cat hb]
        exact (hA _ _).2 (Or.inl ⟨rfl, h2, h3⟩)
      · exact ⟨0, by omega, Or.inl rfl, rfl, h2⟩
    · obtain ⟨t, ht⟩ := bwd k k (Nat.le_refl _) p i h2 h3
      exact ⟨t + 1, by omega, Or.inl rfl, ht⟩
end
end
/-- The positions that may be read next behind k bytes. -/
def Pnd (S K : Nat → Nat → Prop) (fi : List Nat) : Nat → Nat → Prop
  | 0, p => p ∈ fi
  | k + 1, q => ∃ p, Pnd S K fi k p ∧ S p k ∧ K p q
/-- May the line end behind k bytes. -/
def PEnd (S K : Nat → Nat → Prop) (a : It) : Nat → Prop
  | 0 => a.nl = true
  | k + 1 => ∃ p, Pnd S K a.fi k p ∧ S p k ∧ p ∈ a.la
theorem pnd_suf {n : Nat} {S K : Nat → Nat → Prop} {fi : List Nat} {E : Nat → Prop} : ∀ (t k : Nat), k + t + 1 = n → ((∃ p, Pnd S K fi k p ∧ Suf n S K E t p k) ↔ ∃ p, Pnd S K fi (n - 1) p ∧ S p (n - 1) ∧ E p)
  | 0, k, h => by
    obtain rfl : n - 1 = k := by omega
    exact ⟨fun ⟨p, h1, h2⟩ => ⟨p, h1, h2.2⟩, fun ⟨p, h1, h2⟩ => ⟨p, h1, by omega, h2⟩⟩
  | t + 1, k, h => by
    rw [← pnd_suf t (k + 1) (by omega)]
    constructor
    · rintro ⟨p, h1, h2, h3, q, h4, h5⟩
      exact ⟨q, ⟨p, h1, h3, h4⟩, h5⟩
    · rintro ⟨q, ⟨p, h1, h3, h4⟩, h5⟩
      exact ⟨p, h1, by omega, h3, q, h4, h5⟩
theorem glu_end {n : Nat} {S : Nat → Nat → Prop} {R : Rl} {a : It} {ln : List Lk} (h : Glu n S R a ln) : R 0 n ↔ PEnd S (fun x y => mkd ln x y = true) a n := by
  rw [h 0 n]
  match n with
  | 0 =>
    constructor
    · rintro (⟨-, -, h⟩ | ⟨k, p, e, -⟩)
      · exact h
      · omega
    · intro h; exact Or.inl ⟨rfl, Nat.le_refl _, h⟩
  | n + 1 =>
    have := pnd_suf (n := n + 1) (S := S) (K := fun x y => mkd ln x y = true) (fi := a.fi) (E := fun x => x ∈ a.la) n 0 (by omega)
    show _ ↔ ∃ p, Pnd S _ a.fi n p ∧ S p n ∧ p ∈ a.la
    rw [show n + 1 - 1 = n from rfl] at this
    rw [← this]
    constructor
    · rintro (⟨e, -, -⟩ | ⟨k, p, e, h1, h2⟩)
      · omega
      · obtain rfl : n = k := by omega
        exact ⟨p, h1, h2⟩
    · rintro ⟨p, h1, h2⟩
      exact Or.inr ⟨n, p, by omega, h1, h2⟩

end Go.Proofs.YtfdkdjngeomcdaaDoor

namespace Go.Proofs.YtfdkdjngeomcdaaDoor
open Go.RowKit

set_option maxHeartbeats 400000 in
theorem cappedSize_any (n : Int) (w : World) : Calls Tryd.prog 87 #[.int .i64 n] w fun e w' => e = .returned (.int .i64 (cap n)) ∧ w' = w := by
  go_enter Tryd.func87, Tryd.ntmps87
  go_wp2
  all_goals
    go_ret
    exact ⟨ret_int (by unfold cap; split <;> omega), rfl⟩

/-- u is an interface value whose method size answers n. -/
def SizeAs (u : Value) (n : Int) : Prop := ∃ (T : TypeId) (x : Value) (F : FuncId), u = .iface T x ∧
  (∀ w, Sem.run Tryd.prog (method 251 T x "loop.example/s0027/impl.size") w = .ok (F, x) w) ∧ (∀ w, Sem.run Tryd.prog (callFunc F #[x]) w = .ok (.enter F #[x]) w) ∧
  ∀ w, Calls Tryd.prog F #[x] w fun e w' => e = .returned (.int .i64 n) ∧ Below w.heap.size w w'

set_option maxHeartbeats 400000 in
set_option maxRecDepth 100000 in
theorem catSize_any (a b : Int) (u v : Value) (w : World) (hu : SizeAs u a) (hv : SizeAs v b) (a0 : 0 ≤ a) (a1 : a ≤ 501) (b0 : 0 ≤ b) (b1 : b ≤ 501) : Calls Tryd.prog 89 #[.agg #[u, v]] w fun e w' => e = .returned (.int .i64 (cap (a + b))) ∧ Below w.heap.size w w' := by
  obtain ⟨T, x, F, rfl, hm, hcf, hF⟩ := hu
  obtain ⟨T', x', F', rfl, hm', hcf', hF'⟩ := hv
  have hw2 : IntKind.i64.wrap (a + b) = a + b := by rw [IntKind.wrap_i64]; omega
  have hw1 : wrap64 (a + b) = a + b := by unfold wrap64; omega
  have HF := hide hF
  have HG := hide hF'
  clear hF hF'
  go_enter Tryd.func89, Tryd.ntmps89
  go_wp2
  go_region_with ((first | ((with_reducible refine (unhide HF _).mono ?_); rintro e w1 ⟨rfl, hb1⟩; have hb1' : Below (w.heap.size + 1) (w.alloc (.cells #[.iface T x, .iface T' x'] 71)) w1 := ⟨hb1.os, hb1.tape, hb1.output, hb1.size, fun k hk => hb1.block k (by simpa using hk)⟩; have hc1 := (bcell hb1').1; clear hb1) | ((with_reducible refine (unhide HG _).mono ?_); rintro e w2 ⟨rfl, hb2⟩) | (go_at_call 87; refine (cappedSize_any _ _).mono ?_; rintro e w3 ⟨rfl, rfl⟩)))
  all_goals
    have hB1 : Below w.heap.size w w1 := (below1 w _).trans (hb1'.mono (by omega))
    have hB2 : Below w.heap.size w w3 := hB1.trans (hb2.mono hB1.size)
    clear hc1 hb1' hb2
    go_wp2
    go_ret
    exact ⟨rfl, hB2⟩
end Go.Proofs.YtfdkdjngeomcdaaDoor

namespace Go.Proofs.YtfdkdjngeomcdaaDoor
open Go.RowKit

set_option maxHeartbeats 400000 in
set_option maxRecDepth 100000 in
theorem altSize_any (a b : Int) (u v : Value) (w : World) (hu : SizeAs u a) (hv : SizeAs v b) (a0 : 0 ≤ a) (a1 : a ≤ 501) (b0 : 0 ≤ b) (b1 : b ≤ 501) : Calls Tryd.prog 92 #[.agg #[u, v]] w fun e w' => e = .returned (.int .i64 (cap (a + b))) ∧ Below w.heap.size w w' := by
  obtain ⟨T, x, F, rfl, hm, hcf, hF⟩ := hu
  obtain ⟨T', x', F', rfl, hm', hcf', hF'⟩ := hv
  have hw2 : IntKind.i64.wrap (a + b) = a + b := by rw [IntKind.wrap_i64]; omega
  have hw1 : wrap64 (a + b) = a + b := by unfold wrap64; omega
  have HF := hide hF
  have HG := hide hF'
  clear hF hF'
  go_enter Tryd.func92, Tryd.ntmps92
  go_wp2
  go_region_with ((first | ((with_reducible refine (unhide HF _).mono ?_); rintro e w1 ⟨rfl, hb1⟩; have hb1' : Below (w.heap.size + 1) (w.alloc (.cells #[.iface T x, .iface T' x'] 106)) w1 := ⟨hb1.os, hb1.tape, hb1.output, hb1.size, fun k hk => hb1.block k (by simpa using hk)⟩; have hc1 := (bcell hb1').1; clear hb1) | ((with_reducible refine (unhide HG _).mono ?_); rintro e w2 ⟨rfl, hb2⟩) | (go_at_call 87; refine (cappedSize_any _ _).mono ?_; rintro e w3 ⟨rfl, rfl⟩)))
  all_goals
    have hB1 : Below w.heap.size w w1 := (below1 w _).trans (hb1'.mono (by omega))
    have hB2 : Below w.heap.size w w3 := hB1.trans (hb2.mono hB1.size)
    clear hc1 hb1' hb2
    go_wp2
    go_ret
    exact ⟨rfl, hB2⟩
end Go.Proofs.YtfdkdjngeomcdaaDoor

namespace Go.Proofs.YtfdkdjngeomcdaaDoor
open Go.RowKit

theorem w64q {n : Int} (h0 : 0 ≤ n) (h1 : n ≤ 1000000) : wrap64 n = n := by unfold wrap64; omega
theorem cap_self {c : Int} (h : c ≤ 501) : cap c = c := by unfold cap; split <;> omega

set_option maxHeartbeats 400000 in
set_option maxRecDepth 100000 in
theorem repSize_any (c mn mx : Int) (u : Value) (w : World) (hu : SizeAs u c) (a0 : 0 ≤ c) (a1 : c ≤ 501) (o2 : 0 ≤ mn) (o3 : mn ≤ 250) (o4 : mx = -1 ∨ (mn ≤ mx ∧ mx ≤ 250)) :
    Calls Tryd.prog 86 #[.agg #[u, .int .i64 mn, .int .i64 mx]] w fun e w' => e = .returned (.int .i64 (cap (repSize c mn mx))) ∧ Below w.heap.size w w' := by
  obtain ⟨T, x, F, rfl, hm, hcf, hF⟩ := hu
  have HF := hide hF
  clear hF
  have m1 : mn * c ≤ 250 * 501 := Int.mul_le_mul o3 a1 a0 (by omega)
  have m0 : 0 ≤ mn * c := Int.mul_nonneg o2 a0
  have x1 : wrap64 (mn * c) = mn * c := w64q (by omega) (by omega)
  have x2 : wrap64 (mn * c + 1) = mn * c + 1 := w64q (by omega) (by omega)
  rcases o4 with rfl | ⟨o4, o5⟩
  · by_cases hm1 : mn < 1
    · rw [repSize_a hm1]
      have hmx : max (1 : Int) mn = 1 := by omega
      go_enter Tryd.func86, Tryd.ntmps86
      go_wp2_with ((first | ((with_reducible refine (unhide HF _).mono ?_); rintro e w1 ⟨rfl, hb1⟩; have hc1 := (bcell hb1).1; simp only [sz_alloc] at hc1) | (go_at_call 87; refine (cappedSize_any _ _).mono ?_; rintro e w3 ⟨rfl, hw3⟩; subst hw3)))
      go_ret
      exact ⟨rfl, (below1 w _).trans (hb1.mono (by rw [sz_alloc]; omega))⟩
    · rw [repSize_b hm1]
      by_cases hm2 : 1 < mn
      · have hm3 : ¬ mn ≤ 1 := by omega
        have hmx : max (1 : Int) mn = mn := by omega
        go_enter Tryd.func86, Tryd.ntmps86
        go_wp2_with ((first | ((with_reducible refine (unhide HF _).mono ?_); rintro e w1 ⟨rfl, hb1⟩; have hc1 := (bcell hb1).1; simp only [sz_alloc] at hc1) | (go_at_call 87; refine (cappedSize_any _ _).mono ?_; rintro e w3 ⟨rfl, hw3⟩; subst hw3)))
        go_ret
        exact ⟨rfl, (below1 w _).trans (hb1.mono (by rw [sz_alloc]; omega))⟩
      · obtain rfl : mn = 1 := by omega
        rw [Int.one_mul]
        clear m1 m0 x1 x2
        go_enter Tryd.func86, Tryd.ntmps86
        go_wp2_with ((first | ((with_reducible refine (unhide HF _).mono ?_); rintro e w1 ⟨rfl, hb1⟩; have hc1 := (bcell hb1).1; simp only [sz_alloc] at hc1) | (go_at_call 87; refine (cappedSize_any _ _).mono ?_; rintro e w3 ⟨rfl, hw3⟩; subst hw3)))
        go_ret
        exact ⟨rfl, (below1 w _).trans (hb1.mono (by rw [sz_alloc]; omega))⟩
  · by_cases hx0 : mx = 0
    · subst hx0
      rw [repSize_c, cap_self a1]
      go_enter Tryd.func86, Tryd.ntmps86
      go_wp2_with ((first | ((with_reducible refine (unhide HF _).mono ?_); rintro e w1 ⟨rfl, hb1⟩; have hc1 := (bcell hb1).1; simp only [sz_alloc] at hc1) | (go_at_call 87; refine (cappedSize_any _ _).mono ?_; rintro e w3 ⟨rfl, hw3⟩; subst hw3)))
      go_ret
      exact ⟨rfl, (below1 w _).trans (hb1.mono (by rw [sz_alloc]; omega))⟩
    · rw [repSize_d (by omega) hx0]
      have hx1 : (mx == -1) = false := by simp; omega
      have hx2 : (mx == 0) = false := by simp [hx0]
      have m2 : (mx - mn) * (c + 1) ≤ 250 * 502 := Int.mul_le_mul (by omega) (by omega) (by omega) (by omega)
      have m3 : 0 ≤ (mx - mn) * (c + 1) := Int.mul_nonneg (by omega) (by omega)
      have x3 : wrap64 ((mx - mn) * (c + 1)) = (mx - mn) * (c + 1) := w64q (by omega) (by omega)
      have x4 : wrap64 (mn * c + (mx - mn) * (c + 1)) = mn * c + (mx - mn) * (c + 1) := w64q (by omega) (by omega)
      go_enter Tryd.func86, Tryd.ntmps86
      go_wp2_with ((first | ((with_reducible refine (unhide HF _).mono ?_); rintro e w1 ⟨rfl, hb1⟩; have hc1 := (bcell hb1).1; simp only [sz_alloc] at hc1) | (go_at_call 87; refine (cappedSize_any _ _).mono ?_; rintro e w3 ⟨rfl, hw3⟩; subst hw3)))
      go_ret
      exact ⟨rfl, (below1 w _).trans (hb1.mono (by rw [sz_alloc]; omega))⟩

set_option maxHeartbeats 400000 in
theorem eSize_any (w : World) : Calls Tryd.prog 95 #[.agg #[]] w fun e w' => e = .returned (.int .i64 1) ∧ Below w.heap.size w w' := by
  go_enter Tryd.func95, Tryd.ntmps95
  go_wp2
  go_ret
  exact ⟨rfl, below1 w _⟩

set_option maxHeartbeats 400000 in
theorem sSize_any (a b c d : Int) (w : World) : Calls Tryd.prog 84 #[.agg #[.int .u64 a, .int .u64 b, .int .u64 c, .int .u64 d]] w fun e w' => e = .returned (.int .i64 1) ∧ Below w.heap.size w w' := by
  go_enter Tryd.func84, Tryd.ntmps84
  go_wp2
  go_ret
  exact ⟨rfl, below1 w _⟩

theorem size_e (w : World) : Sem.run Tryd.prog (method 251 125 (.agg #[]) "loop.example/s0027/impl.size") w = .ok (95, .agg #[]) w := by kernel_rfl
theorem call_e (w : World) : Sem.run Tryd.prog (callFunc 95 #[.agg #[]]) w = .ok (.enter 95 #[.agg #[]]) w := by kernel_rfl
theorem size_s (x : Value) (w : World) : Sem.run Tryd.prog (method 251 67 x "loop.example/s0027/impl.size") w = .ok (84, x) w := by kernel_rfl
theorem call_s (x : Value) (w : World) : Sem.run Tryd.prog (callFunc 84 #[x]) w = .ok (.enter 84 #[x]) w := by kernel_rfl
theorem size_cat (x : Value) (w : World) : Sem.run Tryd.prog (method 251 71 x "loop.example/s0027/impl.size") w = .ok (89, x) w := by kernel_rfl
theorem call_cat (x : Value) (w : World) : Sem.run Tryd.prog (callFunc 89 #[x]) w = .ok (.enter 89 #[x]) w := by kernel_rfl
theorem size_alt (x : Value) (w : World) : Sem.run Tryd.prog (method 251 106 x "loop.example/s0027/impl.size") w = .ok (92, x) w := by kernel_rfl
theorem call_alt (x : Value) (w : World) : Sem.run Tryd.prog (callFunc 92 #[x]) w = .ok (.enter 92 #[x]) w := by kernel_rfl
theorem size_rep (x : Value) (w : World) : Sem.run Tryd.prog (method 251 69 x "loop.example/s0027/impl.size") w = .ok (86, x) w := by kernel_rfl
theorem call_rep (x : Value) (w : World) : Sem.run Tryd.prog (callFunc 86 #[x]) w = .ok (.enter 86 #[x]) w := by kernel_rfl

/-- u is an interface value whose method size answers c, a size within the bounds. -/
def SzV (u : Value) (c : Int) : Prop := SizeAs u c ∧ 0 ≤ c ∧ c ≤ 501

theorem SzV.iface {u : Value} {c : Int} (h : SzV u c) : ∃ T x, u = .iface T x := by
  obtain ⟨⟨T, x, F, rfl, -⟩, -⟩ := h
  exact ⟨T, x, rfl⟩
theorem SzV.e : SzV (.iface 125 (.agg #[])) 1 := ⟨⟨125, _, 95, rfl, size_e, call_e, eSize_any⟩, by omega⟩
theorem SzV.s (a b c d : Int) : SzV (.iface 67 (.agg #[.int .u64 a, .int .u64 b, .int .u64 c, .int .u64 d])) 1 := ⟨⟨67, _, 84, rfl, size_s _, call_s _, sSize_any a b c d⟩, by omega⟩
theorem SzV.cat {u v : Value} {a b : Int} (hu : SzV u a) (hv : SzV v b) : SzV (.iface 71 (.agg #[u, v])) (cap (a + b)) :=
  ⟨⟨71, _, 89, rfl, size_cat _, call_cat _, fun w => catSize_any _ _ u v w hu.1 hv.1 hu.2.1 hu.2.2 hv.2.1 hv.2.2⟩, cap_bd (by have := hu.2; have := hv.2; omega)⟩
theorem SzV.alt {u v : Value} {a b : Int} (hu : SzV u a) (hv : SzV v b) : SzV (.iface 106 (.agg #[u, v])) (cap (a + b)) :=
  ⟨⟨106, _, 92, rfl, size_alt _, call_alt _, fun w => altSize_any _ _ u v w hu.1 hv.1 hu.2.1 hu.2.2 hv.2.1 hv.2.2⟩, cap_bd (by have := hu.2; have := hv.2; omega)⟩
theorem SzV.rep {u : Value} {c mn mx : Int} (hu : SzV u c) (o2 : 0 ≤ mn) (o3 : mn ≤ 250) (o4 : mx = -1 ∨ (mn ≤ mx ∧ mx ≤ 250)) : SzV (.iface 69 (.agg #[u, .int .i64 mn, .int .i64 mx])) (cap (repSize c mn mx)) := by
  refine ⟨⟨69, _, 86, rfl, size_rep _, call_rep _, fun w => repSize_any _ mn mx u w hu.1 hu.2.1 hu.2.2 o2 o3 o4⟩, cap_bd ?_⟩
  have hc := hu.2
  unfold repSize
  split
  · have : 0 ≤ (if mn < 1 then 1 else mn) * c := Int.mul_nonneg (by split <;> omega) hc.1
    omega
  · split
    · exact hc.1
    · have h1 : 0 ≤ mn * c := Int.mul_nonneg o2 hc.1
      have h2 : 0 ≤ (mx - mn) * (c + 1) := Int.mul_nonneg (by omega) (by omega)
      omega

end Go.Proofs.YtfdkdjngeomcdaaDoor
