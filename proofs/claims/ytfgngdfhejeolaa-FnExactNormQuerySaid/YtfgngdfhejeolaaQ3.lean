import Derived.Test.YtfgngdfhejeolaaQ2
import Derived.Deep.RegionHeld3
import Derived.Deep.RegionWith
namespace Go.Proofs.Ytfgngdfhejeolaa
open Go.RowKit Go.Shelf

theorem RetB.is_true {e : Ending} {P : Prop} (h : RetB e P) (hp : P) : e = .returned (.bool true) := by
  rcases h.cases with ⟨h1, -⟩ | ⟨-, h2⟩
  · exact h1
  · exact absurd hp h2
theorem RetB.is_false {e : Ending} {P : Prop} (h : RetB e P) (hp : ¬ P) : e = .returned (.bool false) := by
  rcases h.cases with ⟨-, h2⟩ | ⟨h1, -⟩
  · exact absurd h2 hp
  · exact h1

theorem clone_any (v : Value) (xs : List Int) (w : World) (hv : SlAt mI 0 0 w.heap.size w v xs) (hl : xs.length ≤ 1048576) :
    Calls Try.prog 32 #[v] w fun e w' => ∃ v', e = .returned v' ∧ w'.ownsRow w.heap.size 3 1 v' xs.length (xs.map mI) ∧ Below w.heap.size w w' := by
  obtain ⟨a, cap, rfl, -, hc⟩ := hv
  by_cases hp : 0 < xs.length
  · obtain ⟨b, off, rfl, -, -, hcell⟩ := hc hp
    refine (Any.slices_Clone_int Try.laysClone b off xs.length cap xs w (Nat.le_refl _) (by omega) (fun j hj => ?_)).mono ?_
    · rw [hcell j hj, List.getD_eq_getElem?_getD]
      rfl
    · rintro e w' ⟨v', rfl, h1, -, h2⟩
      rw [List.take_length] at h1
      exact ⟨v', rfl, h1, h2⟩
  · have e : xs = [] := List.eq_nil_of_length_eq_zero (by omega)
    subst e
    cases a with
    | none =>
      refine (Any.slices_Clone_int_nil Try.laysClone 0 cap w).mono ?_
      rintro e w' ⟨rfl, rfl⟩
      exact ⟨_, rfl, World.ownsRow_nil _ _ _ _, Below.refl _ _⟩
    | some ad =>
      refine (Any.slices_Clone_int_zero Try.laysClone ad cap w).mono ?_
      rintro e w' ⟨v', rfl, h1, -, h2⟩
      exact ⟨v', rfl, h1, h2⟩

theorem evalP_halves (xss : List (List Int)) (ts : List Int) (k : Nat) : EvalP xss ts ↔ EvalP (xss.take k) ts ∨ EvalP (xss.drop k) ts := by
  unfold EvalP
  constructor
  · rintro ⟨i, hi, h⟩
    by_cases hk : i < k
    · exact Or.inl ⟨i, by simp; omega, by rw [List.getElem?_take, if_pos hk]; exact h⟩
    · exact Or.inr ⟨i - k, by simp; omega, by rw [List.getElem?_drop, show k + (i - k) = i by omega]; exact h⟩
  · rintro (⟨i, hi, h⟩ | ⟨i, hi, h⟩)
    · simp at hi
      rw [List.getElem?_take, if_pos (by omega)] at h
      exact ⟨i, by omega, h⟩
    · simp at hi
      rw [List.getElem?_drop] at h
      exact ⟨k + i, by omega, h⟩

/-- The boxes that the closure sees. -/
structure Sees (w : World) (Kb Ib : Nat) (kv : Value) : Prop where
  kb : Boxed w Kb 23 kv
  ib : ∃ t, Boxed w Ib t (.func (.func 42) #[] #[.pointer (some ⟨Kb, 0, none⟩), .pointer (some ⟨Ib, 0, none⟩)])
theorem Sees.below {w w' : World} {Kb Ib m : Nat} {kv : Value} (h : Sees w Kb Ib kv) (hb : Below m w w') (hm : w.heap.size ≤ m) : Sees w' Kb Ib kv := by
  obtain ⟨t, h2⟩ := h.ib
  exact ⟨(hb.block Kb (by have := h.kb.lt; omega)).trans h.kb, t, (hb.block Ib (by have := h2.lt; omega)).trans h2⟩

set_option maxHeartbeats 2000000 in
set_option maxRecDepth 100000 in
theorem isTrue_any (Kb Ib : Nat) (kv : Value) (ks ts : List Int) (ho : Ord ts ks) (N : Nat) : ∀ (cl : Value) (xss : List (List Int)) (w : World), xss.length ≤ N → tot xss ≤ 1048576 → xss.length ≤ 1048576 → SsAt mI 0 w.heap.size w cl xss → Sees w Kb Ib kv → SlAt mI 0 0 w.heap.size w kv ks → CapOk kv →
    Calls Try.prog 42 #[cl, .pointer (some ⟨Kb, 0, none⟩), .pointer (some ⟨Ib, 0, none⟩)] w fun e w' => RetB e (EvalP xss ts) ∧ Below w.heap.size w w' := by
  induction N with
  | zero =>
    intro cl xss w hN hT hL hcl hs hk hck
    have e : xss = [] := List.eq_nil_of_length_eq_zero (by omega)
    subst e
    obtain ⟨a, cap, rfl, -, -⟩ := hcl
    clear hs hk hck ho
    go_enter Try.func42, Try.ntmps42
    go_wp2
    go_ret
    exact ⟨RetB.no (fun ⟨k, hk, _⟩ => by simp at hk), Below.refl _ _⟩
  | succ N ih =>
    intro cl xss w hN hT hL hcl hs hk hck
    have Hs := hide hs
    have Hk := hide hk
    have Hck := hide hck
    have Ho := hide ho
    have hkb := hs.kb.cell
    obtain ⟨t, hib⟩ := hs.ib
    have hib' := hib.cell
    obtain ⟨a, cap, rfl, hcap, hc⟩ := hcl
    obtain ⟨ka, kc, rfl, -, -⟩ := hk
    clear hs hck ho hib
    by_cases h0 : xss.length = 0
    · have e : xss = [] := List.eq_nil_of_length_eq_zero h0
      subst e
      clear hc ih
      go_enter Try.func42, Try.ntmps42
      go_wp2
      go_ret
      exact ⟨RetB.no (fun ⟨k, hk, _⟩ => by simp at hk), Below.refl _ _⟩
    · by_cases h1 : xss.length = 1
      · obtain ⟨x, rfl⟩ : ∃ x, xss = [x] := by
          match xss, h1 with
          | [x], _ => exact ⟨x, rfl⟩
        obtain ⟨b, off, rfl, hbn, hcell⟩ := hc (by simp)
        obtain ⟨sv, hx, hsv, -⟩ := hcell 0 (by simp)
        have Hsv := hide hsv
        obtain ⟨sa, sc, rfl, -⟩ := hsv
        clear hcell hc ih
        simp only [List.getElem?_cons_zero, Option.getD_some, Nat.add_zero] at hx Hsv
        go_enter Try.func42, Try.ntmps42
        have hlx : x.length ≤ 1048576 := by simp [tot] at hT; omega
        have hS : Hid (∀ W' : World, Below w.heap.size w W' → W'.cell? ⟨Kb, 0, none⟩ = some (.slice ka ks.length kc) ∧ W'.cell? ⟨b, off, none⟩ = some (.slice sa x.length sc)) := fun W' hW => ⟨((unhide Hs).below hW (Nat.le_refl _)).kb.cell, by rw [hW.cell (p := ⟨b, off, none⟩) hbn]; exact hx⟩
        go_wp2_with fail
        go_region_held3 (fun W' => W'.cell? ⟨Kb, 0, none⟩ = some (.slice ka ks.length kc) ∧ W'.cell? ⟨b, off, none⟩ = some (.slice sa x.length sc))
          (first | go_keep | exact unhide hS _ hB3 | exact unhide hS _ hB2 | exact unhide hS _ hB1)
          (first
            | (go_at_call 32; refine (clone_any _ x _ (by exact unhide Hsv) hlx).mono ?_; rintro e w1 ⟨v1, rfl, hown1, hb1⟩; have hB1 : Below w.heap.size w w1 := ⟨hb1.os, hb1.tape, hb1.output, hb1.size, hb1.block⟩; have Hown1 := hide hown1; obtain ⟨oa1, oc1, rfl⟩ := own_is hown1; clear hown1 hb1)
            | (go_at_call 31; refine (ascending_any w.heap.size _ x _ (by exact unhide Hown1) hB1.size (by omega)).mono ?_; rintro e w2 ⟨v2, zs, rfl, ho2, hle2, hown2, hb2, hg2⟩; have hB2 : Below w.heap.size w w2 := hB1.trans hb2; have Hown2 := hide hown2; have Ho2 := hide ho2; obtain ⟨oa2, oc2, rfl⟩ := own_is hown2; clear hown2 hb2 hg2 ho2)
            | (go_at_call 43; refine (holdsAll_any _ _ ks zs _ (by exact (unhide Hk).below hB2 (Nat.le_refl _)) (unhide Hck) (unhide Ho).asc (by exact (own_slw (lo := 0) (unhide Hown2) (Nat.zero_le _) (by unfold maxLen; omega)).at) (own_cap (unhide Hown2)) (unhide Ho2).asc).mono ?_; rintro e w3 ⟨⟨r, rfl, hr⟩, q3, rfl⟩; have hB3 : Below w.heap.size w (w2.drewN q3) := below_drewN hB2 q3; have Hr := hide hr; clear hr))
        go_wp2
        go_ret
        refine ⟨⟨r, rfl, (unhide Hr).trans ?_⟩, hB3⟩
        unfold EvalP
        constructor
        · intro h
          exact ⟨0, by simp, fun z hz => ((unhide Ho).mem z).1 (h z (((unhide Ho2).mem z).2 (by simpa using hz)))⟩
        · rintro ⟨k, hk, h⟩ z hz
          have e : k = 0 := by simpa using hk
          subst e
          exact ((unhide Ho).mem z).2 (h z (by simpa using ((unhide Ho2).mem z).1 hz))
      · have h2 : 2 ≤ xss.length := by omega
        obtain ⟨b, off, rfl, hbn, hcell⟩ := hc (by omega)
        have hA : Hid (SsAt mI 0 w.heap.size w (.slice (some ⟨b, off, none⟩) (xss.length / 2) cap) (xss.take (xss.length / 2))) := SsAt.take (by omega) hcap hbn hcell
        have hB : Hid (SsAt mI 0 w.heap.size w (.slice (some ⟨b, off + xss.length / 2, none⟩) (xss.length - xss.length / 2) (cap - xss.length / 2)) (xss.drop (xss.length / 2))) := SsAt.drop (by omega) ⟨by omega, by omega⟩ hbn hcell
        have hev := hide (evalP_halves xss ts (xss.length / 2))
        have ht1 := tot_take xss (xss.length / 2)
        have ht2 := tot_drop xss (xss.length / 2)
        have g0 : ((xss.length : Int) == 0) = false := beq_eq_false_iff_ne.2 (by omega)
        have g1 : ((xss.length : Int) == 1) = false := beq_eq_false_iff_ne.2 (by omega)
        obtain ⟨hc1, hc2⟩ := hcap
        unfold maxLen at hc2
        clear hcell hc
        have hS : Hid (∀ W' : World, Below w.heap.size w W' → W'.cell? ⟨Ib, 0, none⟩ = some (.func (.func 42) #[] #[.pointer (some ⟨Kb, 0, none⟩), .pointer (some ⟨Ib, 0, none⟩)])) := fun W' hW => by
          obtain ⟨t, h⟩ := ((unhide Hs).below hW (Nat.le_refl _)).ib
          exact h.cell
        have hq0 : (0 : Int) ≤ (xss.length : Int) / 2 := by omega
        have hq1 : (xss.length : Int) / 2 ≤ (cap : Int) := by omega
        have hq2 : (xss.length : Int) / 2 ≤ (xss.length : Int) := by omega
        have hq3 : (xss.length : Int) ≤ (cap : Int) := by omega
        have Hih := hide ih
        clear ih
        have hl1 : (xss.take (xss.length / 2)).length ≤ N := by simp; omega
        have hl2 : (xss.drop (xss.length / 2)).length ≤ N := by simp; omega
        have hl3 : (xss.take (xss.length / 2)).length ≤ 1048576 := by simp; omega
        have hl4 : (xss.drop (xss.length / 2)).length ≤ 1048576 := by simp; omega
        by_cases hP : EvalP (xss.take (xss.length / 2)) ts
        · have HP := hide hP
          clear hP
          go_enter Try.func42, Try.ntmps42
          go_wp2_with fail
          first | (go_region_with ((go_at_call 42; refine (unhide Hih _ _ _ hl1 (by omega) hl3 (by exact unhide hA) (by exact (unhide Hs).below ((Below.refl _ _).drew) (Nat.le_refl _)) (by exact unhide Hk) (unhide Hck)).mono ?_; rintro e w1 ⟨hret, hb1⟩; obtain rfl := hret.is_true (unhide HP); have hB1 : Below w.heap.size w w1 := ⟨hb1.os, hb1.tape, hb1.output, hb1.size, hb1.block⟩; clear hret hb1))) | fail
          all_goals go_wp2
          all_goals go_ret
          all_goals exact ⟨RetB.yes ((unhide hev).2 (Or.inl (unhide HP))), hB1⟩
        · have HP := hide hP
          clear hP
          go_enter Try.func42, Try.ntmps42
          go_wp2_with fail
          first | (go_region_with (first
              | (go_at_call 42; refine (unhide Hih _ _ _ hl1 (by omega) hl3 (by exact unhide hA) (by exact (unhide Hs).below ((Below.refl _ _).drew) (Nat.le_refl _)) (by exact unhide Hk) (unhide Hck)).mono ?_; rintro e w1 ⟨hret, hb1⟩; obtain rfl := hret.is_false (unhide HP); have hB1 : Below w.heap.size w w1 := ⟨hb1.os, hb1.tape, hb1.output, hb1.size, hb1.block⟩; have hibB := unhide hS _ hB1; clear hret hb1 hA)
              | (go_at_call 42; refine (unhide Hih _ _ _ hl2 (by omega) hl4 (by exact (unhide hB).below hB1 (Nat.le_refl _)) (by exact (unhide Hs).below hB1 (Nat.le_refl _)) (by exact (unhide Hk).below hB1 (Nat.le_refl _)) (unhide Hck)).mono ?_; rintro e w2 ⟨⟨r, rfl, hr⟩, hb2⟩; have hB2 : Below w.heap.size w w2 := hB1.trans (⟨hb2.os, hb2.tape, hb2.output, hb2.size, fun k hk => hb2.block k (by have := hB1.size; show k < w1.heap.size; omega)⟩); have Hr := hide hr; clear hr hb2))) | fail
          go_wp2
          go_ret
          refine ⟨⟨r, rfl, (unhide Hr).trans ?_⟩, hB2⟩
          rw [unhide hev]
          exact ⟨Or.inr, fun h => h.elim (fun q => absurd q (unhide HP)) id⟩

end Go.Proofs.Ytfgngdfhejeolaa
