import Derived.Test.YtijejbdpagbmpaaDoorPb1
namespace Go.Proofs.YtijejbdpagbmpaaDoor
open Go.RowKit

/-- All links lie below n. -/
def LkB (ln : List Lk) (n : Nat) : Prop := ∀ p ∈ ln, (∀ y ∈ p.1, y < n) ∧ ∀ y ∈ p.2, y < n
theorem LkB.mono {ln : List Lk} {n m : Nat} (h : LkB ln n) (hm : n ≤ m) : LkB ln m := fun p hp => ⟨fun y hy => Nat.lt_of_lt_of_le ((h p hp).1 y hy) hm, fun y hy => Nat.lt_of_lt_of_le ((h p hp).2 y hy) hm⟩
theorem LkB.snoc {ln : List Lk} {n : Nat} {A B : List Nat} (h : LkB ln n) (ha : ∀ y ∈ A, y < n) (hb : ∀ y ∈ B, y < n) : LkB (ln ++ [(A, B)]) n := fun p hp => by
  rcases List.mem_append.1 hp with hp | hp
  · exact h p hp
  · rw [List.mem_singleton] at hp
    subst hp
    exact ⟨ha, hb⟩
def OkMs (s : Ms) : Prop := (∀ a ∈ s.st, Bdd a s.c) ∧ LkB s.ln s.c
theorem OkMs.push {s : Ms} (h : OkMs s) (x : El) : OkMs (oPush s x) := by
  obtain ⟨c, st, ln, ss⟩ := s
  obtain ⟨h1, h2⟩ := h
  simp only at h1 h2
  unfold oPush
  simp only
  repeat' split
  all_goals first
    | exact ⟨h1, h2⟩
    | skip
  · exact ⟨fun a ha => by rcases List.mem_cons.1 ha with rfl | ha; (constructor <;> simp); exact h1 a ha, h2⟩
  · exact ⟨fun a ha => by rcases List.mem_cons.1 ha with rfl | ha; (constructor <;> simp); exact (h1 a ha).mono (Nat.le_succ _), h2.mono (Nat.le_succ _)⟩
  · rename_i o _
    have ho := h1 o (by simp)
    exact ⟨fun a ha => by rw [List.mem_singleton] at ha; subst ha; exact ho, h2.snoc ho.2 ho.1⟩
  · rename_i r l b _
    have hr := h1 r (by simp)
    exact ⟨fun a ha => by rcases List.mem_cons.1 ha with rfl | ha; exact hr; exact h1 a (List.mem_cons_of_mem _ ha), h2.snoc hr.2 hr.1⟩
  · rename_i r l b _ _
    have hr := h1 r (by simp)
    have hl := h1 l (by simp)
    exact ⟨fun a ha => by rcases List.mem_cons.1 ha with rfl | ha; exact hl.cat hr; exact h1 a (by simp [ha]), h2.snoc hl.2 hr.1⟩
  · rename_i r l b _ _
    have hr := h1 r (by simp)
    have hl := h1 l (by simp)
    exact ⟨fun a ha => by rcases List.mem_cons.1 ha with rfl | ha; exact hl.alt hr; exact h1 a (by simp [ha]), h2⟩
theorem OkMs.run (L : List El) : ∀ s : Ms, OkMs s → OkMs (oRun s L) := by
  induction L with
  | nil => intro s h; exact h
  | cons x r ih => intro s h; exact ih _ (h.push x)
theorem SegO.lkb {L : List El} {n : Nat} {a : It} {ln : List Lk} {ss : List (List Int)} (h : SegO L n a ln ss) : LkB ln n := by
  have h1 := (OkMs.run L ini ⟨by simp [ini], by intro p hp; simp [ini] at hp⟩).2
  rw [h ini] at h1
  simpa [ini, shL] using h1
theorem mkd_far {ln : List Lk} {n : Nat} (h : LkB ln n) (i j : Nat) (hj : n ≤ j) : mkd ln i j = false := by
  unfold mkd
  rw [Bool.eq_false_iff]
  intro q
  obtain ⟨p, hp, hq⟩ := List.any_eq_true.1 q
  rw [Bool.and_eq_true] at hq
  have := (h p hp).2 j (List.contains_iff_mem.1 hq.2)
  omega
theorem fol_is {ln : List Lk} {n i : Nat} {f : Nat → Nat} (h : LkB ln n) (hf : ∀ j, Bt f j = mkd ln i j) (hn : n ≤ 512) : blN f 512 = (List.range n).filter (mkd ln i) := by
  unfold blN
  refine ascN_uniq (List.Pairwise.filter _ (range_asc 512)) (List.Pairwise.filter _ (range_asc n)) (fun z => ?_)
  rw [List.mem_filter, List.mem_filter, List.mem_range, List.mem_range, hf z]
  constructor
  · rintro ⟨-, h2⟩
    refine ⟨?_, h2⟩
    apply Nat.lt_of_not_le
    intro e
    rw [mkd_far h i z e] at h2
    cases h2
  · rintro ⟨h1, h2⟩
    exact ⟨by omega, h2⟩

end Go.Proofs.YtijejbdpagbmpaaDoor
