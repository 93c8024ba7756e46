import Derived.Test.YtpkghafpelilfaaI8
namespace Go.Proofs.Ytpkghafpelilfaa
open Go.RowKit

/-- What building a segment answers: by the model. -/
def BuildRet (e : Ending) (w w' : World) (base : Int) (xss : List (List Int)) : Prop :=
  (Fits base xss ∧ ∃ v ks pss, e = .returned (.tuple #[v, .int .i64 0]) ∧ SegR base xss ks pss ∧ SegAt w.heap.size w' v base xss ks pss) ∨ (¬ Fits base xss ∧ e = .returned (.tuple #[.agg #[.int .i64 0, .slice none 0 0, .slice none 0 0, .slice none 0 0], .int .i64 4]))

theorem ix_iff (x : List Int) : ix x < 0 ↔ 10 ∉ x := by
  induction x with
  | nil => simp [ix, hd]
  | cons y r ih =>
    have h1 := ix_lo r
    rw [ix_cons]
    by_cases e : y = 10
    · subst e; simp
    · rw [if_neg e]
      by_cases h2 : ix r = -1
      · rw [if_pos h2]
        have := ih.1 (by omega)
        simp [this, Ne.symm e]
      · rw [if_neg h2]
        have h3 : ¬ ix r < 0 := by omega
        have h4 : 10 ∈ r := by
          by_cases q : 10 ∈ r
          · exact q
          · exact absurd (ih.2 q) h3
        simp [h4]
        omega
theorem not_mem_get {x : List Int} (h : 10 ∉ x) : ∀ j : Nat, j < x.length → x[j]?.getD 0 ≠ 10 := fun j hj e => h (mem_get.2 ⟨j, hj, e⟩)

theorem holdsNewline_any (v : Value) (x : List Int) (N : Nat) (w : World) (hv : SlAt mB 0 0 N w v x) (hb : Bytes x) :
    Calls Try.prog 72 #[v] w fun e w' => e = .returned (.bool (decide (0 ≤ ix x))) ∧ w' = w := by
  have HV := hide hv
  obtain ⟨a, cap, rfl, -, -⟩ := hv
  have hB := hide hb
  clear hb
  go_enter Try.func72, Try.ntmps72
  go_wp2_with fail
  refine (indexByte_any _ x _ _ (unhide HV) (unhide hB)).mono ?_
  rintro e w2 ⟨rfl, rfl⟩
  go_wp2
  go_ret
  exact ⟨rfl, rfl⟩

set_option maxHeartbeats 2000000 in
set_option maxRecDepth 100000 in
theorem fitSegment_any (base : Int) (v : Value) (xss : List (List Int)) (w : World) (hv : SsAt mB 0 w.heap.size w v xss) (hbb : ∀ x ∈ xss, Bytes x) (hT : tot xss ≤ 1048576) (hL : xss.length ≤ 1048576) (hb0 : -9223372036854775808 ≤ base) (hb1 : base ≤ 9223372036854775807) :
    Calls Try.prog 61 #[.int .i64 base, v] w fun e w' => RetB e (Fits base xss) ∧ ∃ q, w' = w.drewN q := by
  have Hv := hide hv
  have HB := hide hbb
  obtain ⟨a, cap, rfl, hl, hc⟩ := hv
  clear hbb
  by_cases h1 : base < 0
  · have HN : Hid (¬ Fits base xss) := fun h => by obtain ⟨q1, q2, q3, -⟩ := h; omega
    clear hc
    go_enter Try.func61, Try.ntmps61
    go_wp2
    go_ret
    exact ⟨RetB.no (unhide HN), 0, rfl⟩
  · have k1 : IntKind.i64.wrap (1000 - base) = 1000 - base := k64i (by omega) (by omega)
    by_cases h2 : xss.length = 0
    · have HN : Hid (¬ Fits base xss) := fun h => by obtain ⟨q1, q2, q3, -⟩ := h; omega
      clear hc
      rw [h2]
      go_enter Try.func61, Try.ntmps61
      go_wp2
      go_ret
      exact ⟨RetB.no (unhide HN), 0, rfl⟩
    · have h2' : ((xss.length : Int) == 0) = false := by rw [beq_eq_false_iff_ne]; omega
      by_cases h3 : 1000 - base < (xss.length : Int)
      · have HN : Hid (¬ Fits base xss) := fun h => by obtain ⟨q1, q2, q3, -⟩ := h; omega
        clear hc
        go_enter Try.func61, Try.ntmps61
        go_wp2
        go_ret
        exact ⟨RetB.no (unhide HN), 0, rfl⟩
      · have hx1 : base + (xss.length : Int) ≤ 1000 := by omega
        go_enter Try.func61, Try.ntmps61
        go_wp2_with fail
        go_loopw [5, 24] (fun rv iv wr => (∃ k : Nat, k ≤ xss.length ∧ iv = .int .i64 k ∧ rv = .int .i64 (20000 - (tot (xss.take k) : Int)) ∧ tot (xss.take k) ≤ 20000 ∧ ∀ i : Nat, i < k → ∀ j : Nat, j < (xss[i]?.getD []).length → (xss[i]?.getD [])[j]?.getD 0 ≠ 10) ∧ ∃ q, wr = w.drewN q) (fun _ iv _ => xss.length - (intOf iv).toNat)
        case atStart => exact ⟨⟨0, Nat.zero_le _, rfl, by simp [tot], by simp [tot], fun i hi => absurd hi (Nat.not_lt_zero _)⟩, 0, rfl⟩
        case round =>
          obtain ⟨⟨k, hk, rfl, rfl, htk, hp⟩, q, rfl⟩ := hrel
          have Hp := hide hp
          clear hp
          by_cases hlt : k < xss.length
          · have hlt' : (k : Int) < (xss.length : Int) := by omega
            obtain ⟨b, off, rfl, hbn, hcell⟩ := hc (by omega)
            obtain ⟨s, hx, hs, -⟩ := hcell k hlt
            have Hs : Hid (SlAt mB 0 0 w.heap.size (w.drewN q) s (xss[k]?.getD [])) := hs
            obtain ⟨sa, sc, rfl, -, -⟩ := hs
            have ht1 := hide (tot_step xss k hlt)
            have ht2 := tot_take xss (k + 1)
            have ht3 := tot_get xss k
            have Hb := hide (unhide HB (xss[k]?.getD []) (by rw [List.getElem?_eq_getElem hlt]; exact List.getElem_mem _))
            have Hno : Hid (10 ∈ (xss[k]?.getD []) → ¬ Plain xss) := fun h hpl => by
              obtain ⟨j, hj, e⟩ := mem_get.1 h
              exact hpl k hlt j hj e
            have Hyes : Hid (10 ∉ (xss[k]?.getD []) → ∀ i : Nat, i < k + 1 → ∀ j : Nat, j < (xss[i]?.getD []).length → (xss[i]?.getD [])[j]?.getD 0 ≠ 10) := fun h i hi => by
              by_cases e : i = k
              · subst e; exact not_mem_get h
              · exact unhide Hp i (by omega)
            clear hcell hc Hp
            generalize xss[k]?.getD [] = x at *
            by_cases hr : 20000 - (tot (xss.take k) : Int) < (x.length : Int)
            · have HN : Hid (¬ Fits base xss) := fun h => by
                obtain ⟨_, _, _, _, q5⟩ := h
                have := unhide ht1
                omega
              generalize 20000 - (tot (xss.take k) : Int) = rm at *
              go_wp2
              go_ret
              exact ⟨RetB.no (unhide HN), _, rfl⟩
            · have hrm : Hid (tot (xss.take (k + 1)) ≤ 20000 ∧ 20000 - (tot (xss.take (k + 1)) : Int) = 20000 - (tot (xss.take k) : Int) - (x.length : Int)) := by
                have := unhide ht1
                exact ⟨by omega, by omega⟩
              have hr0 : (0 : Int) ≤ 20000 - (tot (xss.take k) : Int) := by omega
              have hr1 : 20000 - (tot (xss.take k) : Int) ≤ 20000 := by omega
              generalize 20000 - (tot (xss.take k) : Int) = rm at *
              clear ht2 htk
              by_cases h10 : ix x < 0
              · have HN := hide (unhide Hyes ((ix_iff x).1 h10))
                have hd0 : decide (0 ≤ ix x) = false := decide_eq_false (by omega)
                have hd1 : ¬ (0 ≤ ix x) := by omega
                go_wp2_with fail
                refine (holdsNewline_any _ x _ _ (unhide Hs) (unhide Hb)).mono ?_
                rintro e w2 ⟨rfl, rfl⟩
                rw [hd0]
                go_wp2
                go_roundw
                case rel => exact ⟨⟨k + 1, by omega, by go_num, by rw [(unhide hrm).2], (unhide hrm).1, unhide HN⟩, _, rfl⟩
                case measure => simp [intOf]; omega
              · have HN : Hid (¬ Fits base xss) := fun h => by
                  obtain ⟨_, _, _, q4, _⟩ := h
                  refine unhide Hno ?_ q4
                  by_cases q : 10 ∈ x
                  · exact q
                  · exact absurd ((ix_iff x).2 q) h10
                have hd1 : decide (0 ≤ ix x) = true := decide_eq_true (by omega)
                go_wp2_with fail
                refine (holdsNewline_any _ x _ _ (unhide Hs) (unhide Hb)).mono ?_
                rintro e w2 ⟨rfl, rfl⟩
                rw [hd1]
                go_wp2
                go_ret
                exact ⟨RetB.no (unhide HN), _, rfl⟩
          · obtain rfl : k = xss.length := by omega
            have HY : Hid (Fits base xss) := ⟨by omega, by omega, by omega, unhide Hp, by rw [List.take_length] at htk; exact htk⟩
            clear hc
            go_wp2
            go_ret
            exact ⟨RetB.yes (unhide HY), _, rfl⟩

end Go.Proofs.Ytpkghafpelilfaa
