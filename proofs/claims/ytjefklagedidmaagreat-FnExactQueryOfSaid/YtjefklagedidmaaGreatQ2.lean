import Derived.Test.YtjefklagedidmaaGreatP3
import Derived.Test.YtjefklagedidmaaGreatP6
namespace Go.Proofs.YtjefklagedidmaaGreat
open Go.RowKit

theorem sub_tail {p l : Int} {ps ls : List Int} (hp : Asc (p :: ps)) (h : l = p) : (∀ z, z ∈ p :: ps → z ∈ l :: ls) ↔ ∀ z, z ∈ ps → z ∈ ls := by
  subst h
  constructor
  · intro h z hz
    rcases List.mem_cons.1 (h z (List.mem_cons_of_mem _ hz)) with e | m
    · have := (List.pairwise_cons.1 hp).1 z hz
      omega
    · exact m
  · intro h z hz
    rcases List.mem_cons.1 hz with e | m
    · subst e; exact List.mem_cons_self
    · exact List.mem_cons_of_mem _ (h z m)
theorem sub_skip {p l : Int} {ps ls : List Int} (hp : Asc (p :: ps)) (h : l < p) : (∀ z, z ∈ p :: ps → z ∈ l :: ls) ↔ ∀ z, z ∈ p :: ps → z ∈ ls := by
  constructor
  · intro h' z hz
    rcases List.mem_cons.1 (h' z hz) with e | m
    · rcases List.mem_cons.1 hz with e2 | m2
      · omega
      · have := (List.pairwise_cons.1 hp).1 z m2
        omega
    · exact m
  · intro h' z hz
    exact List.mem_cons_of_mem _ (h' z hz)
theorem sub_none {p l : Int} {ps ls : List Int} (hl : Asc (l :: ls)) (h : p < l) : ¬ ∀ z, z ∈ p :: ps → z ∈ l :: ls := by
  intro h'
  rcases List.mem_cons.1 (h' p List.mem_cons_self) with e | m
  · omega
  · have := (List.pairwise_cons.1 hl).1 p m
    omega
theorem sub_len : ∀ {ls ps : List Int}, Asc ps → Asc ls → (∀ z, z ∈ ps → z ∈ ls) → ps.length ≤ ls.length
  | [], [], _, _, _ => Nat.le_refl _
  | [], p :: ps, _, _, h => absurd (h p List.mem_cons_self) (by simp)
  | _ :: _, [], _, _, _ => Nat.zero_le _
  | l :: ls, p :: ps, hp, hl, h => by
    by_cases e : l = p
    · have := sub_len (List.pairwise_cons.1 hp).2 (List.pairwise_cons.1 hl).2 ((sub_tail hp e).1 h)
      simp only [List.length_cons]
      omega
    · by_cases e2 : l < p
      · have := sub_len hp (List.pairwise_cons.1 hl).2 ((sub_skip hp e2).1 h)
        simp only [List.length_cons] at this ⊢
        omega
      · exact absurd h (sub_none hl (by omega))

theorem cons_of {xs : List Int} (h : 0 < xs.length) : xs = xs[0]?.getD 0 :: xs.drop 1 := by
  cases xs with
  | nil => simp at h
  | cons x xs => simp

/-- How long a slice is. -/
def slLen (v : Value) : Nat := match v with
  | .slice _ n _ => n
  | _ => 0

theorem SlAt.tail {lo n cap : Nat} {w : World} {b off : Nat} {x : Int} {xs : List Int} (hl : (x :: xs).length ≤ maxLen) (h1 : lo ≤ b) (h2 : b < n) (hc : ∀ i : Nat, i < (x :: xs).length → w.cell? ⟨b, off + i, none⟩ = some (mI ((x :: xs)[i]?.getD 0))) :
    SlAt mI 0 lo n w (.slice (some ⟨b, off + 1, none⟩) xs.length cap) xs := by
  refine ⟨_, cap, rfl, by simp at hl; omega, fun _ => ⟨b, off + 1, rfl, h1, h2, fun i hi => ?_⟩⟩
  have := hc (i + 1) (by simp; omega)
  rw [Nat.add_assoc, Nat.add_comm 1 i, this]
  rfl
theorem SlAt.none {lo n cap : Nat} {w : World} {a : Option Addr} : SlAt mI 0 lo n w (.slice a 0 cap) ([] : List Int) := ⟨a, cap, rfl, Nat.zero_le _, fun h => absurd h (by simp)⟩

set_option maxHeartbeats 2000000 in
set_option maxRecDepth 100000 in
theorem holdsAll_any (u v : Value) (xs ys : List Int) (w : World) (hu : SlAt mI 0 0 w.heap.size w u xs) (hcu : CapOk u) (ha : Asc xs) (hv : SlAt mI 0 0 w.heap.size w v ys) (hcv : CapOk v) (hb : Asc ys) :
    Calls Tryz.prog 108 #[u, v] w fun e w' => RetB e (∀ z, z ∈ ys → z ∈ xs) ∧ ∃ q, w' = w.drewN q := by
  have h0 := hide (show ∃ ls ps, SlAt mI 0 0 w.heap.size w u ls ∧ CapOk u ∧ Asc ls ∧ SlAt mI 0 0 w.heap.size w v ps ∧ CapOk v ∧ Asc ps ∧ ((∀ z, z ∈ ys → z ∈ xs) ↔ ∀ z, z ∈ ps → z ∈ ls) from ⟨xs, ys, hu, hcu, ha, hv, hcv, hb, Iff.rfl⟩)
  obtain ⟨a1, c1, rfl, -, -⟩ := hu
  obtain ⟨a2, c2, rfl, -, -⟩ := hv
  clear hcu hcv ha hb
  generalize hP : (∀ z, z ∈ ys → z ∈ xs) = P at *
  clear hP
  go_enter Tryz.func108, Tryz.ntmps108
  go_wp2_with fail
  go_loopw [0, 1] (fun lv pv wr => (∃ ls ps, SlAt mI 0 0 w.heap.size w lv ls ∧ CapOk lv ∧ Asc ls ∧ SlAt mI 0 0 w.heap.size w pv ps ∧ CapOk pv ∧ Asc ps ∧ (P ↔ ∀ z, z ∈ ps → z ∈ ls)) ∧ ∃ q, wr = w.drewN q) (fun lv _ _ => slLen lv)
  case atStart => exact ⟨unhide h0, 0, rfl⟩
  case round =>
    clear h0
    obtain ⟨⟨ls, ps, s1, k1, al, s2, k2, ap, hiff⟩, q, rfl⟩ := hrel
    obtain ⟨a1, c1, rfl, m1, hc1⟩ := s1
    obtain ⟨a2, c2, rfl, m2, hc2⟩ := s2
    obtain ⟨k1, k1'⟩ := k1.le
    obtain ⟨k2, k2'⟩ := k2.le
    unfold maxLen at k1' k2'
    have Hiff := hide hiff
    have Hal := hide al
    have Hap := hide ap
    clear hiff al ap
    by_cases hp : 0 < ps.length
    · by_cases hle : ps.length ≤ ls.length
      · obtain ⟨b1, o1, rfl, -, hn1, hcell1⟩ := hc1 (by omega)
        obtain ⟨b2, o2, rfl, -, hn2, hcell2⟩ := hc2 hp
        have hx1 : w.cell? ⟨b1, o1, none⟩ = some (.int .i64 (ls[0]?.getD 0)) := hcell1 0 (by omega)
        have hx2 : w.cell? ⟨b2, o2, none⟩ = some (.int .i64 (ps[0]?.getD 0)) := hcell2 0 hp
        have e1 : ls = ls[0]?.getD 0 :: ls.drop 1 := cons_of (by omega)
        have e2 : ps = ps[0]?.getD 0 :: ps.drop 1 := cons_of hp
        have t1 : Hid (SlAt mI 0 0 w.heap.size w (.slice (some ⟨b1, o1 + 1, none⟩) (ls.length - 1) (c1 - 1)) (ls.drop 1)) := SlAt.drop (by omega) m1 (Nat.zero_le _) hn1 hcell1
        have t2 : Hid (SlAt mI 0 0 w.heap.size w (.slice (some ⟨b2, o2 + 1, none⟩) (ps.length - 1) (c2 - 1)) (ps.drop 1)) := SlAt.drop (by omega) m2 (Nat.zero_le _) hn2 hcell2
        have z1 : Hid (c1 = 1 → SlAt mI 0 0 w.heap.size w (.slice (some ⟨b1, o1, none⟩) 0 0) (ls.drop 1)) := fun e => by
          have e3 : ls.drop 1 = [] := by rw [List.drop_eq_nil_iff]; omega
          rw [e3]
          exact SlAt.none
        have z2 : Hid (c2 = 1 → SlAt mI 0 0 w.heap.size w (.slice (some ⟨b2, o2, none⟩) 0 0) (ps.drop 1)) := fun e => by
          have e3 : ps.drop 1 = [] := by rw [List.drop_eq_nil_iff]; omega
          rw [e3]
          exact SlAt.none
        have s2' : Hid (SlAt mI 0 0 w.heap.size w (.slice (some ⟨b2, o2, none⟩) ps.length c2) ps) := ⟨_, c2, rfl, m2, fun _ => ⟨b2, o2, rfl, Nat.zero_le _, hn2, hcell2⟩⟩
        have Hl : Hid (Asc (ls.drop 1)) := by have := unhide Hal; rw [e1] at this; exact (List.pairwise_cons.1 this).2
        have Hp : Hid (Asc (ps.drop 1)) := by have := unhide Hap; rw [e2] at this; exact (List.pairwise_cons.1 this).2
        have r1 : Hid (ls[0]?.getD 0 = ps[0]?.getD 0 → (P ↔ ∀ z, z ∈ ps.drop 1 → z ∈ ls.drop 1)) := fun h => by
          have h1 := unhide Hiff
          have h2 := unhide Hap
          rw [e1, e2] at h1
          rw [e2] at h2
          exact h1.trans (sub_tail h2 h)
        have r2 : Hid (ls[0]?.getD 0 < ps[0]?.getD 0 → (P ↔ ∀ z, z ∈ ps → z ∈ ls.drop 1)) := fun h => by
          have h1 := unhide Hiff
          have h2 := unhide Hap
          rw [e1, e2] at h1
          rw [e2] at h2
          rw [e2]
          exact h1.trans (sub_skip h2 h)
        have r3 : Hid (ps[0]?.getD 0 < ls[0]?.getD 0 → ¬ P) := fun h hP => by
          have h1 := unhide Hiff
          have h2 := unhide Hal
          rw [e1, e2] at h1
          rw [e1] at h2
          exact sub_none h2 h (h1.1 hP)
        clear hcell1 hcell2 e1 e2 hc1 hc2 Hal Hiff
        generalize ls[0]?.getD 0 = l at *
        generalize ps[0]?.getD 0 = p at *
        have g0 : (0 : Int) < (ps.length : Int) := by omega
        have g1 : (0 : Int) < (ls.length : Int) := by omega
        have g2 : decide (ps.length ≤ ls.length) = true := decide_eq_true hle
        by_cases hlp : l ≤ p
        · by_cases heq : l = p
          · subst heq
            have R1 := hide (unhide r1 rfl)
            clear r1 r2 r3
            by_cases hc1 : c1 = 1
            · subst hc1
              have Z1 := hide (unhide z1 rfl)
              clear z1 t1
              by_cases hc2 : c2 = 1
              · subst hc2
                have Z2 := hide (unhide z2 rfl)
                clear z2 t2
                go_wp2_with fail
                go_quiet (fail)
                go_wp2_with fail
                go_quiet (fail)
                go_wp2
                go_roundw
                case rel => exact ⟨⟨ls.drop 1, ps.drop 1, by simpa using unhide Z1, CapOk.mk (by omega) (by unfold maxLen; omega), unhide Hl, by simpa using unhide Z2, CapOk.mk (by omega) (by unfold maxLen; omega), unhide Hp, unhide R1⟩, _, rfl⟩
                case measure => simp only [slLen]; omega
              · have hc2' : 1 < c2 := by omega
                go_wp2_with fail
                go_quiet (fail)
                go_wp2_with fail
                go_quiet (fail)
                go_wp2
                go_roundw
                case rel => exact ⟨⟨ls.drop 1, ps.drop 1, by simpa using unhide Z1, CapOk.mk (by omega) (by unfold maxLen; omega), unhide Hl, by simpa using unhide t2, CapOk.mk (by omega) (by unfold maxLen; omega), unhide Hp, unhide R1⟩, _, rfl⟩
                case measure => simp only [slLen]; omega
            · have hc1' : 1 < c1 := by omega
              by_cases hc2 : c2 = 1
              · subst hc2
                have Z2 := hide (unhide z2 rfl)
                clear z2 t2
                go_wp2_with fail
                go_quiet (fail)
                go_wp2_with fail
                go_quiet (fail)
                go_wp2
                go_roundw
                case rel => exact ⟨⟨ls.drop 1, ps.drop 1, by simpa using unhide t1, CapOk.mk (by omega) (by unfold maxLen; omega), unhide Hl, by simpa using unhide Z2, CapOk.mk (by omega) (by unfold maxLen; omega), unhide Hp, unhide R1⟩, _, rfl⟩
                case measure => simp only [slLen]; omega
              · have hc2' : 1 < c2 := by omega
                go_wp2_with fail
                go_quiet (fail)
                go_wp2_with fail
                go_quiet (fail)
                go_wp2
                go_roundw
                case rel => exact ⟨⟨ls.drop 1, ps.drop 1, by simpa using unhide t1, CapOk.mk (by omega) (by unfold maxLen; omega), unhide Hl, by simpa using unhide t2, CapOk.mk (by omega) (by unfold maxLen; omega), unhide Hp, unhide R1⟩, _, rfl⟩
                case measure => simp only [slLen]; omega
          · have heq' : (l == p) = false := by simp [heq]
            by_cases hc1 : c1 = 1
            · subst hc1
              have Z1 := hide (unhide z1 rfl)
              clear z1 t1
              go_wp2_with fail
              go_quiet (fail)
              go_wp2_with fail
              go_quiet (fail)
              go_wp2
              go_roundw
              case rel => exact ⟨⟨ls.drop 1, ps, by simpa using unhide Z1, CapOk.mk (by omega) (by unfold maxLen; omega), unhide Hl, unhide s2', CapOk.mk (by omega) (by unfold maxLen; omega), unhide Hap, unhide r2 (by omega)⟩, _, rfl⟩
              case measure => simp only [slLen]; omega
            · have hc1' : 1 < c1 := by omega
              go_wp2_with fail
              go_quiet (fail)
              go_wp2_with fail
              go_quiet (fail)
              go_wp2
              go_roundw
              case rel => exact ⟨⟨ls.drop 1, ps, by simpa using unhide t1, CapOk.mk (by omega) (by unfold maxLen; omega), unhide Hl, unhide s2', CapOk.mk (by omega) (by unfold maxLen; omega), unhide Hap, unhide r2 (by omega)⟩, _, rfl⟩
              case measure => simp only [slLen]; omega
        · have hlp' : decide (l ≤ p) = false := decide_eq_false hlp
          have g3 : ((ps.length : Int) == 0) = false := beq_eq_false_iff_ne.2 (by omega)
          go_wp2_with fail
          go_quiet (fail)
          go_wp2_with fail
          go_ret
          exact ⟨RetB.no (unhide r3 (by omega)), _, rfl⟩
      · have g0 : (0 : Int) < (ps.length : Int) := by omega
        have g2 : decide (ps.length ≤ ls.length) = false := decide_eq_false hle
        have g3 : ((ps.length : Int) == 0) = false := beq_eq_false_iff_ne.2 (by omega)
        have hno : Hid (¬ P) := fun hP => hle (sub_len (unhide Hap) (unhide Hal) ((unhide Hiff).1 hP))
        clear hc1 hc2
        go_wp2_with fail
        go_quiet (fail)
        go_wp2_with fail
        go_ret
        exact ⟨RetB.no (unhide hno), _, rfl⟩
    · have e : ps = [] := List.eq_nil_of_length_eq_zero (by omega)
      subst e
      have hyes : Hid P := (unhide Hiff).2 (by simp)
      clear hc1 hc2
      go_wp2_with fail
      go_quiet (fail)
      go_wp2_with fail
      go_ret
      exact ⟨RetB.yes (unhide hyes), _, rfl⟩

end Go.Proofs.YtjefklagedidmaaGreat
