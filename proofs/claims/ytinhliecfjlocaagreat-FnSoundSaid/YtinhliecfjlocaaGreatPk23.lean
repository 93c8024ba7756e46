import Derived.Test.YtinhliecfjlocaaGreatPk14
import Derived.Test.YtinhliecfjlocaaGreatPk7
import Derived.Test.YtinhliecfjlocaaGreatPk9
import Derived.Deep.RegionHeld3
import Derived.Deep.RegionWith
import Derived.Test.YtinhliecfjlocaaGreatPk18
import Derived.Test.YtinhliecfjlocaaGreatPk8
import Derived.Shelf.SlSortCmp.NoneTotal
import Derived.Laws.EntriesVeiled
namespace Go.Proofs.YtinhliecfjlocaaGreat
open Go.RowKit
theorem own_byte {base n e g cap j : Nat} {w : World} {xs : List Int} (h : w.ownsRow base e 1 (.slice (some ⟨g, 0, none⟩) n cap) n (xs.map mB)) (hj : j < n) : w.cell? ⟨g, j, none⟩ = some (mB (xs[j]?.getD 0)) ∧ w.frozen? ⟨g, j, none⟩ = false := by
  have hl : n = xs.length := by have := h.1; rw [List.length_map] at this; omega
  refine ⟨?_, h.frozenAt j⟩
  rw [h.cellAt j (by omega), List.getElem?_map, getD_of_lt (by omega)]
  rfl
theorem own_setB {base n e g cap j : Nat} {w : World} {xs : List Int} {y : Int} (h : w.ownsRow base e 1 (.slice (some ⟨g, 0, none⟩) n cap) n (xs.map mB)) (hj : j < n) : (w.setCell ⟨g, j, none⟩ (.int .u8 y)).ownsRow base e 1 (.slice (some ⟨g, 0, none⟩) n cap) n ((xs.set j y).map mB) := by
  have h1 := own_set (u := mB y) h hj
  rw [← List.map_set] at h1
  exact h1
theorem sub_tail {p l : Int} {ps ls : List Int} (hp : Asc (p :: ps)) (h : l = p) : (∀ z, z ∈ p :: ps → z ∈ l :: ls) ↔ ∀ z, z ∈ ps → z ∈ ls := by
  subst h
  constructor
  · intro h z hz
    rcases List.mem_cons.1 (h z (List.mem_cons_of_mem _ hz)) with e | m
    · have := (List.pairwise_cons.1 hp).1 z hz
      omega
    · exact m
  · intro h z hz
    rcases List.mem_cons.1 hz with e | m
    · subst e; exact List.mem_cons_self
    · exact List.mem_cons_of_mem _ (h z m)
theorem sub_skip {p l : Int} {ps ls : List Int} (hp : Asc (p :: ps)) (h : l < p) : (∀ z, z ∈ p :: ps → z ∈ l :: ls) ↔ ∀ z, z ∈ p :: ps → z ∈ ls := by
  constructor
  · intro h' z hz
    rcases List.mem_cons.1 (h' z hz) with e | m
    · rcases List.mem_cons.1 hz with e2 | m2
      · omega
      · have := (List.pairwise_cons.1 hp).1 z m2
        omega
    · exact m
  · intro h' z hz
    exact List.mem_cons_of_mem _ (h' z hz)
theorem sub_none {p l : Int} {ps ls : List Int} (hl : Asc (l :: ls)) (h : p < l) : ¬ ∀ z, z ∈ p :: ps → z ∈ l :: ls := by
  intro h'
  rcases List.mem_cons.1 (h' p List.mem_cons_self) with e | m
  · omega
  · have := (List.pairwise_cons.1 hl).1 p m
    omega
theorem sub_len : ∀ {ls ps : List Int}, Asc ps → Asc ls → (∀ z, z ∈ ps → z ∈ ls) → ps.length ≤ ls.length
  | [], [], _, _, _ => Nat.le_refl _
  | [], p :: ps, _, _, h => absurd (h p List.mem_cons_self) (by simp)
  | _ :: _, [], _, _, _ => Nat.zero_le _
  | l :: ls, p :: ps, hp, hl, h => by
    by_cases e : l = p
    · have := sub_len (List.pairwise_cons.1 hp).2 (List.pairwise_cons.1 hl).2 ((sub_tail hp e).1 h)
      simp only [List.length_cons]
      omega
    · by_cases e2 : l < p
      · have := sub_len hp (List.pairwise_cons.1 hl).2 ((sub_skip hp e2).1 h)
        simp only [List.length_cons] at this ⊢
        omega
      · exact absurd h (sub_none hl (by omega))
theorem cons_of {xs : List Int} (h : 0 < xs.length) : xs = xs[0]?.getD 0 :: xs.drop 1 := by
  cases xs with
  | nil => simp at h
  | cons x xs => simp
def slLen (v : Value) : Nat := match v with
  | .slice _ n _ => n
  | _ => 0
theorem SlAt.tail {lo n cap : Nat} {w : World} {b off : Nat} {x : Int} {xs : List Int} (hl : (x :: xs).length ≤ maxLen) (h1 : lo ≤ b) (h2 : b < n) (hc : ∀ i : Nat, i < (x :: xs).length → w.cell? ⟨b, off + i, none⟩ = some (mI ((x :: xs)[i]?.getD 0))) :
    SlAt mI 0 lo n w (.slice (some ⟨b, off + 1, none⟩) xs.length cap) xs := by
  refine ⟨_, cap, rfl, by simp at hl; omega, fun _ => ⟨b, off + 1, rfl, h1, h2, fun i hi => ?_⟩⟩
  have := hc (i + 1) (by simp; omega)
  rw [Nat.add_assoc, Nat.add_comm 1 i, this]
  rfl
theorem SlAt.none {lo n cap : Nat} {w : World} {a : Option Addr} : SlAt mI 0 lo n w (.slice a 0 cap) ([] : List Int) := ⟨a, cap, rfl, Nat.zero_le _, fun h => absurd h (by simp)⟩
set_option maxHeartbeats 2000000 in
set_option maxRecDepth 100000 in
theorem holdsAll_any (u v : Value) (xs ys : List Int) (w : World) (hu : SlAt mI 0 0 w.heap.size w u xs) (hcu : CapOk u) (ha : Asc xs) (hv : SlAt mI 0 0 w.heap.size w v ys) (hcv : CapOk v) (hb : Asc ys) :
    Calls Tryz.prog 22 #[u, v] w fun e w' => RetB e (∀ z, z ∈ ys → z ∈ xs) ∧ ∃ q, w' = w.drewN q := by
  have h0 := hide (show ∃ ls ps, SlAt mI 0 0 w.heap.size w u ls ∧ CapOk u ∧ Asc ls ∧ SlAt mI 0 0 w.heap.size w v ps ∧ CapOk v ∧ Asc ps ∧ ((∀ z, z ∈ ys → z ∈ xs) ↔ ∀ z, z ∈ ps → z ∈ ls) from ⟨xs, ys, hu, hcu, ha, hv, hcv, hb, Iff.rfl⟩)
  obtain ⟨a1, c1, rfl, -, -⟩ := hu
  obtain ⟨a2, c2, rfl, -, -⟩ := hv
  clear hcu hcv ha hb
  generalize hP : (∀ z, z ∈ ys → z ∈ xs) = P at *
  clear hP
  go_enter Tryz.func22, Tryz.ntmps22
  go_wp2_with fail
  go_loopw [0, 1] (fun lv pv wr => (∃ ls ps, SlAt mI 0 0 w.heap.size w lv ls ∧ CapOk lv ∧ Asc ls ∧ SlAt mI 0 0 w.heap.size w pv ps ∧ CapOk pv ∧ Asc ps ∧ (P ↔ ∀ z, z ∈ ps → z ∈ ls)) ∧ ∃ q, wr = w.drewN q) (fun lv _ _ => slLen lv)
  case atStart => exact ⟨unhide h0, 0, rfl⟩
  case round =>
    clear h0
    obtain ⟨⟨ls, ps, s1, k1, al, s2, k2, ap, hiff⟩, q, rfl⟩ := hrel
    obtain ⟨a1, c1, rfl, m1, hc1⟩ := s1
    obtain ⟨a2, c2, rfl, m2, hc2⟩ := s2
    obtain ⟨k1, k1'⟩ := k1.le
    obtain ⟨k2, k2'⟩ := k2.le
    unfold maxLen at k1' k2'
    have Hiff := hide hiff
    have Hal := hide al
    have Hap := hide ap
    clear hiff al ap
    by_cases hp : 0 < ps.length
    · by_cases hle : ps.length ≤ ls.length
      · obtain ⟨b1, o1, rfl, -, hn1, hcell1⟩ := hc1 (by omega)
        obtain ⟨b2, o2, rfl, -, hn2, hcell2⟩ := hc2 hp
        have hx1 : w.cell? ⟨b1, o1, none⟩ = some (.int .i64 (ls[0]?.getD 0)) := hcell1 0 (by omega)
        have hx2 : w.cell? ⟨b2, o2, none⟩ = some (.int .i64 (ps[0]?.getD 0)) := hcell2 0 hp
        have e1 : ls = ls[0]?.getD 0 :: ls.drop 1 := cons_of (by omega)
        have e2 : ps = ps[0]?.getD 0 :: ps.drop 1 := cons_of hp
        have t1 : Hid (SlAt mI 0 0 w.heap.size w (.slice (some ⟨b1, o1 + 1, none⟩) (ls.length - 1) (c1 - 1)) (ls.drop 1)) := SlAt.drop (by omega) m1 (Nat.zero_le _) hn1 hcell1
        have t2 : Hid (SlAt mI 0 0 w.heap.size w (.slice (some ⟨b2, o2 + 1, none⟩) (ps.length - 1) (c2 - 1)) (ps.drop 1)) := SlAt.drop (by omega) m2 (Nat.zero_le _) hn2 hcell2
        have z1 : Hid (c1 = 1 → SlAt mI 0 0 w.heap.size w (.slice (some ⟨b1, o1, none⟩) 0 0) (ls.drop 1)) := fun e => by
          have e3 : ls.drop 1 = [] := by rw [List.drop_eq_nil_iff]; omega
          rw [e3]
          exact SlAt.none
        have z2 : Hid (c2 = 1 → SlAt mI 0 0 w.heap.size w (.slice (some ⟨b2, o2, none⟩) 0 0) (ps.drop 1)) := fun e => by
          have e3 : ps.drop 1 = [] := by rw [List.drop_eq_nil_iff]; omega
          rw [e3]
          exact SlAt.none
        have s2' : Hid (SlAt mI 0 0 w.heap.size w (.slice (some ⟨b2, o2, none⟩) ps.length c2) ps) := ⟨_, c2, rfl, m2, fun _ => ⟨b2, o2, rfl, Nat.zero_le _, hn2, hcell2⟩⟩
        have Hl : Hid (Asc (ls.drop 1)) := by have := unhide Hal; rw [e1] at this; exact (List.pairwise_cons.1 this).2
        have Hp : Hid (Asc (ps.drop 1)) := by have := unhide Hap; rw [e2] at this; exact (List.pairwise_cons.1 this).2
        have r1 : Hid (ls[0]?.getD 0 = ps[0]?.getD 0 → (P ↔ ∀ z, z ∈ ps.drop 1 → z ∈ ls.drop 1)) := fun h => by
          have h1 := unhide Hiff
          have h2 := unhide Hap
          rw [e1, e2] at h1
          rw [e2] at h2
          exact h1.trans (sub_tail h2 h)
        have r2 : Hid (ls[0]?.getD 0 < ps[0]?.getD 0 → (P ↔ ∀ z, z ∈ ps → z ∈ ls.drop 1)) := fun h => by
          have h1 := unhide Hiff
          have h2 := unhide Hap
          rw [e1, e2] at h1
          rw [e2] at h2
          rw [e2]
          exact h1.trans (sub_skip h2 h)
        have r3 : Hid (ps[0]?.getD 0 < ls[0]?.getD 0 → ¬ P) := fun h hP => by
          have h1 := unhide Hiff
          have h2 := unhide Hal
          rw [e1, e2] at h1
          rw [e1] at h2
          exact sub_none h2 h (h1.1 hP)
        clear hcell1 hcell2 e1 e2 hc1 hc2 Hal Hiff
        generalize ls[0]?.getD 0 = l at *
        generalize ps[0]?.getD 0 = p at *
        have g0 : (0 : Int) < (ps.length : Int) := by omega
        have g1 : (0 : Int) < (ls.length : Int) := by omega
        have g2 : decide (ps.length ≤ ls.length) = true := decide_eq_true hle
        by_cases hlp : l ≤ p
        · by_cases heq : l = p
          · subst heq
            have R1 := hide (unhide r1 rfl)
            clear r1 r2 r3
            by_cases hc1 : c1 = 1
            · subst hc1
              have Z1 := hide (unhide z1 rfl)
              clear z1 t1
              by_cases hc2 : c2 = 1
              · subst hc2
                have Z2 := hide (unhide z2 rfl)
                clear z2 t2
                go_wp2_with fail
                go_quiet (fail)
                go_wp2_with fail
                go_quiet (fail)
                go_wp2
                go_roundw
                case rel => exact ⟨⟨ls.drop 1, ps.drop 1, by simpa using unhide Z1, CapOk.mk (by omega) (by unfold maxLen; omega), unhide Hl, by simpa using unhide Z2, CapOk.mk (by omega) (by unfold maxLen; omega), unhide Hp, unhide R1⟩, _, rfl⟩
                case measure => simp only [slLen]; omega
              · have hc2' : 1 < c2 := by omega
                go_wp2_with fail
                go_quiet (fail)
                go_wp2_with fail
                go_quiet (fail)
                go_wp2
                go_roundw
                case rel => exact ⟨⟨ls.drop 1, ps.drop 1, by simpa using unhide Z1, CapOk.mk (by omega) (by unfold maxLen; omega), unhide Hl, by simpa using unhide t2, CapOk.mk (by omega) (by unfold maxLen; omega), unhide Hp, unhide R1⟩, _, rfl⟩
                case measure => simp only [slLen]; omega
            · have hc1' : 1 < c1 := by omega
              by_cases hc2 : c2 = 1
              · subst hc2
                have Z2 := hide (unhide z2 rfl)
                clear z2 t2
                go_wp2_with fail
                go_quiet (fail)
                go_wp2_with fail
                go_quiet (fail)
                go_wp2
                go_roundw
                case rel => exact ⟨⟨ls.drop 1, ps.drop 1, by simpa using unhide t1, CapOk.mk (by omega) (by unfold maxLen; omega), unhide Hl, by simpa using unhide Z2, CapOk.mk (by omega) (by unfold maxLen; omega), unhide Hp, unhide R1⟩, _, rfl⟩
                case measure => simp only [slLen]; omega
              · have hc2' : 1 < c2 := by omega
                go_wp2_with fail
                go_quiet (fail)
                go_wp2_with fail
                go_quiet (fail)
                go_wp2
                go_roundw
                case rel => exact ⟨⟨ls.drop 1, ps.drop 1, by simpa using unhide t1, CapOk.mk (by omega) (by unfold maxLen; omega), unhide Hl, by simpa using unhide t2, CapOk.mk (by omega) (by unfold maxLen; omega), unhide Hp, unhide R1⟩, _, rfl⟩
                case measure => simp only [slLen]; omega
          · have heq' : (l == p) = false := by simp [heq]
            by_cases hc1 : c1 = 1
            · subst hc1
              have Z1 := hide (unhide z1 rfl)
              clear z1 t1
              go_wp2_with fail
              go_quiet (fail)
              go_wp2_with fail
              go_quiet (fail)
              go_wp2
              go_roundw
              case rel => exact ⟨⟨ls.drop 1, ps, by simpa using unhide Z1, CapOk.mk (by omega) (by unfold maxLen; omega), unhide Hl, unhide s2', CapOk.mk (by omega) (by unfold maxLen; omega), unhide Hap, unhide r2 (by omega)⟩, _, rfl⟩
              case measure => simp only [slLen]; omega
            · have hc1' : 1 < c1 := by omega
              go_wp2_with fail
              go_quiet (fail)
              go_wp2_with fail
              go_quiet (fail)
              go_wp2
              go_roundw
              case rel => exact ⟨⟨ls.drop 1, ps, by simpa using unhide t1, CapOk.mk (by omega) (by unfold maxLen; omega), unhide Hl, unhide s2', CapOk.mk (by omega) (by unfold maxLen; omega), unhide Hap, unhide r2 (by omega)⟩, _, rfl⟩
              case measure => simp only [slLen]; omega
        · have hlp' : decide (l ≤ p) = false := decide_eq_false hlp
          have g3 : ((ps.length : Int) == 0) = false := beq_eq_false_iff_ne.2 (by omega)
          go_wp2_with fail
          go_quiet (fail)
          go_wp2_with fail
          go_ret
          exact ⟨RetB.no (unhide r3 (by omega)), _, rfl⟩
      · have g0 : (0 : Int) < (ps.length : Int) := by omega
        have g2 : decide (ps.length ≤ ls.length) = false := decide_eq_false hle
        have g3 : ((ps.length : Int) == 0) = false := beq_eq_false_iff_ne.2 (by omega)
        have hno : Hid (¬ P) := fun hP => hle (sub_len (unhide Hap) (unhide Hal) ((unhide Hiff).1 hP))
        clear hc1 hc2
        go_wp2_with fail
        go_quiet (fail)
        go_wp2_with fail
        go_ret
        exact ⟨RetB.no (unhide hno), _, rfl⟩
    · have e : ps = [] := List.eq_nil_of_length_eq_zero (by omega)
      subst e
      have hyes : Hid P := (unhide Hiff).2 (by simp)
      clear hc1 hc2
      go_wp2_with fail
      go_quiet (fail)
      go_wp2_with fail
      go_ret
      exact ⟨RetB.yes (unhide hyes), _, rfl⟩
open Go.RowKit Go.Shelf
theorem RetB.is_true {e : Ending} {P : Prop} (h : RetB e P) (hp : P) : e = .returned (.bool true) := by
  rcases h.cases with ⟨h1, -⟩ | ⟨-, h2⟩
  · exact h1
  · exact absurd hp h2
theorem RetB.is_false {e : Ending} {P : Prop} (h : RetB e P) (hp : ¬ P) : e = .returned (.bool false) := by
  rcases h.cases with ⟨-, h2⟩ | ⟨h1, -⟩
  · exact absurd h2 hp
  · exact h1
theorem clone_any (v : Value) (xs : List Int) (w : World) (hv : SlAt mI 0 0 w.heap.size w v xs) (hl : xs.length ≤ 1048576) :
    Calls Tryz.prog 20 #[v] w fun e w' => ∃ v', e = .returned v' ∧ w'.ownsRow w.heap.size 3 1 v' xs.length (xs.map mI) ∧ Below w.heap.size w w' := by
  obtain ⟨a, cap, rfl, -, hc⟩ := hv
  by_cases hp : 0 < xs.length
  · obtain ⟨b, off, rfl, -, -, hcell⟩ := hc hp
    refine (Any.slices_Clone_int Tryz.laysClone b off xs.length cap xs w (Nat.le_refl _) (by omega) (fun j hj => ?_)).mono ?_
    · rw [hcell j hj, List.getD_eq_getElem?_getD]
      rfl
    · rintro e w' ⟨v', rfl, h1, -, h2⟩
      rw [List.take_length] at h1
      exact ⟨v', rfl, h1, h2⟩
  · have e : xs = [] := List.eq_nil_of_length_eq_zero (by omega)
    subst e
    cases a with
    | none =>
      refine (Any.slices_Clone_int_nil Tryz.laysClone 0 cap w).mono ?_
      rintro e w' ⟨rfl, rfl⟩
      exact ⟨_, rfl, World.ownsRow_nil _ _ _ _, Below.refl _ _⟩
    | some ad =>
      refine (Any.slices_Clone_int_zero Tryz.laysClone ad cap w).mono ?_
      rintro e w' ⟨v', rfl, h1, -, h2⟩
      exact ⟨v', rfl, h1, h2⟩
theorem evalP_halves (xss : List (List Int)) (ts : List Int) (k : Nat) : EvalP xss ts ↔ EvalP (xss.take k) ts ∨ EvalP (xss.drop k) ts := by
  unfold EvalP
  constructor
  · rintro ⟨i, hi, h⟩
    by_cases hk : i < k
    · exact Or.inl ⟨i, by simp; omega, by rw [List.getElem?_take, if_pos hk]; exact h⟩
    · exact Or.inr ⟨i - k, by simp; omega, by rw [List.getElem?_drop, show k + (i - k) = i by omega]; exact h⟩
  · rintro (⟨i, hi, h⟩ | ⟨i, hi, h⟩)
    · simp at hi
      rw [List.getElem?_take, if_pos (by omega)] at h
      exact ⟨i, by omega, h⟩
    · simp at hi
      rw [List.getElem?_drop] at h
      exact ⟨k + i, by omega, h⟩
theorem cpt_sub (ps : List (Cl Int)) : ∀ m : Nat, m ≤ ps.length → (cpt ps m).Sublist (ps.take m)
  | 0, _ => by simp [cpt]
  | m + 1, h => by
    have ih := cpt_sub ps m (by omega)
    have e : ps.take (m + 1) = ps.take m ++ [ps[m]?.getD dC] := by
      rw [List.take_add_one]
      simp [show m < ps.length by omega]
    by_cases hk : KpC ps m
    · rw [cpt_keep hk, e]
      exact ih.append (List.Sublist.refl _)
    · rw [cpt_skip hk, e]
      exact ih.trans (List.sublist_append_left _ _)
theorem cpt_mem {ps : List (Cl Int)} : ∀ m : Nat, m ≤ ps.length → ∀ j : Nat, j < m → (ps[j]?.getD dC).xs ∈ (cpt ps m).map Cl.xs
  | 0, _, j, hj => absurd hj (Nat.not_lt_zero _)
  | m + 1, h, j, hj => by
    have ih := cpt_mem (ps := ps) m (by omega)
    by_cases hk : KpC ps m
    · rw [cpt_keep hk, List.map_append, List.mem_append]
      by_cases e : j = m
      · subst e; exact Or.inr (by simp)
      · exact Or.inl (ih j (by omega))
    · rw [cpt_skip hk]
      by_cases e : j = m
      · subst e
        rw [kpc_iff] at hk
        have h0 : j ≠ 0 := fun h => hk (Or.inl h)
        have e2 : (ps[j]?.getD dC).xs = (ps[j - 1]?.getD dC).xs := by
          by_cases e3 : (ps[j]?.getD dC).xs = (ps[j - 1]?.getD dC).xs
          · exact e3
          · exact absurd (Or.inr e3) hk
        rw [e2]
        exact ih (j - 1) (by omega)
      · exact ih j (by omega)
theorem cpt_lasc {ps : List (Cl Int)} (hs : ps.Pairwise (fun p q => lexc p.xs q.xs ≤ 0)) : ∀ m : Nat, m ≤ ps.length → LAsc ((cpt ps m).map Cl.xs)
  | 0, _ => by simp [cpt, LAsc]
  | m + 1, h => by
    have ih := cpt_lasc hs m (by omega)
    by_cases hk : KpC ps m
    · rw [cpt_keep hk, List.map_append]
      refine List.pairwise_append.2 ⟨ih, by simp, fun a ha b hb => ?_⟩
      simp at hb
      subst hb
      obtain ⟨p, hp, rfl⟩ := List.mem_map.1 ha
      have hp' := (cpt_sub ps m (by omega)).subset hp
      obtain ⟨i, hi, e⟩ := List.mem_iff_getElem.1 hp'
      have him : i < m := by simp at hi; omega
      have hpw := List.pairwise_iff_getElem.1 hs
      have e0 : ps[i]'(by omega) = p := by rw [← e]; simp
      have g1 := hpw i m (by omega) (by omega) him
      rw [e0] at g1
      have em : ps[m]?.getD dC = ps[m]'(by omega) := by simp [show m < ps.length by omega]
      rw [em]
      have hne : lexc p.xs (ps[m]'(by omega)).xs ≠ 0 := by
        intro e2
        rw [lexc_zero] at e2
        rw [kpc_iff] at hk
        rcases hk with h0 | h0
        · omega
        · apply h0
          rw [em]
          have em1 : ps[m - 1]?.getD dC = ps[m - 1]'(by omega) := by simp [show m - 1 < ps.length by omega]
          rw [em1]
          have a1 := hpw (m - 1) m (by omega) (by omega) (by omega)
          have a2 : lexc p.xs (ps[m - 1]'(by omega)).xs ≤ 0 := by
            by_cases e3 : i = m - 1
            · subst e3; rw [e0, lexc_zero.2 rfl]; exact Int.le_refl _
            · have := hpw i (m - 1) (by omega) (by omega) (by omega)
              rwa [e0] at this
          rw [e2] at a2
          have a3 := lexc_swap (ps[m - 1]'(by omega)).xs (ps[m]'(by omega)).xs
          exact (lexc_zero.1 (show lexc (ps[m]'(by omega)).xs (ps[m - 1]'(by omega)).xs = 0 by omega))
      omega
    · rw [cpt_skip hk]
      exact ih
set_option maxHeartbeats 4000000 in
set_option maxRecDepth 100000 in
theorem within_any (u : Value) (xss : List (List Int)) (w : World) (hu : SsAt mI 0 w.heap.size w u xss) :
    Calls Tryz.prog 46 #[u] w fun e w' => RetB e (Lim xss) ∧ w' = w := by
  obtain ⟨a, cap, rfl, hml, hc⟩ := hu
  unfold maxLen at hml
  by_cases h1 : 1000 < xss.length
  · have h1' : (1000 : Int) < (xss.length : Int) := by omega
    clear hc
    go_enter Tryz.func46, Tryz.ntmps46
    go_wp2
    go_ret
    exact ⟨RetB.no (fun h => by have := h.len; omega), rfl⟩
  · have h1' : ¬ (1000 : Int) < (xss.length : Int) := by omega
    go_enter Tryz.func46, Tryz.ntmps46
    go_wp2_with fail
    go_loop [12] (fun iv => ∃ i : Nat, i ≤ xss.length ∧ iv = .int .i64 i ∧ ∀ k : Nat, k < i → (xss[k]?.getD []).length ≤ 1000 ∧ ∀ j : Nat, j < (xss[k]?.getD []).length → 0 ≤ (xss[k]?.getD [])[j]?.getD 0 ∧ (xss[k]?.getD [])[j]?.getD 0 ≤ 16777215) (fun iv => xss.length - (intOf iv).toNat)
    case atStart => exact ⟨0, Nat.zero_le _, rfl, fun k hk => absurd hk (Nat.not_lt_zero _)⟩
    case round =>
      obtain ⟨i, hix, rfl, hin⟩ := hrel
      have Hin := hide hin
      clear hin
      by_cases hlt : i < xss.length
      · have hlt' : (i : Int) < (xss.length : Int) := by omega
        obtain ⟨b, off, rfl, hbn, hcell⟩ := hc (by omega)
        obtain ⟨sv, hx, hsx, -⟩ := hcell i hlt
        obtain ⟨sa, sc, rfl, hsl, hcs⟩ := hsx
        unfold maxLen at hsl
        have Hno : Hid (¬ ((xss[i]?.getD []).length ≤ 1000 ∧ ∀ j : Nat, j < (xss[i]?.getD []).length → 0 ≤ (xss[i]?.getD [])[j]?.getD 0 ∧ (xss[i]?.getD [])[j]?.getD 0 ≤ 16777215) → ¬ Lim xss) := fun h hl => h (hl.each i hlt)
        have Hnx : Hid (((xss[i]?.getD []).length ≤ 1000 ∧ ∀ j : Nat, j < (xss[i]?.getD []).length → 0 ≤ (xss[i]?.getD [])[j]?.getD 0 ∧ (xss[i]?.getD [])[j]?.getD 0 ≤ 16777215) → ∀ k : Nat, k < i + 1 → (xss[k]?.getD []).length ≤ 1000 ∧ ∀ j : Nat, j < (xss[k]?.getD []).length → 0 ≤ (xss[k]?.getD [])[j]?.getD 0 ∧ (xss[k]?.getD [])[j]?.getD 0 ≤ 16777215) := fun h k hk => by
          by_cases e : k = i
          · subst e; exact h
          · exact unhide Hin k (by omega)
        clear hcell hc Hin
        generalize xss[i]?.getD [] = x at *
        by_cases h2 : 1000 < x.length
        · have h2' : (1000 : Int) < (x.length : Int) := by omega
          have hno := hide (unhide Hno (fun h => by omega))
          clear Hno Hnx hcs
          go_wp2
          go_ret
          exact ⟨RetB.no (unhide hno), rfl⟩
        · have h2' : ¬ (1000 : Int) < (x.length : Int) := by omega
          go_wp2_with fail
          go_loop [21] (fun jv => ∃ j : Nat, j ≤ x.length ∧ jv = .int .i64 j ∧ ∀ m : Nat, m < j → 0 ≤ x[m]?.getD 0 ∧ x[m]?.getD 0 ≤ 16777215) (fun jv => x.length - (intOf jv).toNat)
          case atStart => exact ⟨0, Nat.zero_le _, rfl, fun k hk => absurd hk (Nat.not_lt_zero _)⟩
          case round =>
            obtain ⟨j, hjx, rfl, hjn⟩ := hrel
            have Hjn := hide hjn
            clear hjn
            by_cases hj : j < x.length
            · have hj' : (j : Int) < (x.length : Int) := by omega
              obtain ⟨sb, so, rfl, -, hsb, hsc⟩ := hcs (by omega)
              have hy : w.cell? ⟨sb, so + j, none⟩ = some (.int .i64 (x[j]?.getD 0)) := hsc j hj
              have Hn1 : Hid (¬ (0 ≤ x[j]?.getD 0 ∧ x[j]?.getD 0 ≤ 16777215) → ¬ Lim xss) := fun h => unhide Hno (fun h3 => h (h3.2 j hj))
              have Hn2 : Hid ((0 ≤ x[j]?.getD 0 ∧ x[j]?.getD 0 ≤ 16777215) → ∀ m : Nat, m < j + 1 → 0 ≤ x[m]?.getD 0 ∧ x[m]?.getD 0 ≤ 16777215) := fun h m hm => by
                by_cases e : m = j
                · subst e; exact h
                · exact unhide Hjn m (by omega)
              clear hsc hcs
              generalize x[j]?.getD 0 = z at *
              by_cases g1 : z < 0
              · have hno := hide (unhide Hn1 (fun h => by omega))
                clear Hn1 Hn2 Hno Hnx
                go_wp2
                go_ret
                exact ⟨RetB.no (unhide hno), rfl⟩
              · by_cases g2 : 16777216 ≤ z
                · have hno := hide (unhide Hn1 (fun h => by omega))
                  clear Hn1 Hn2 Hno Hnx
                  go_wp2
                  go_ret
                  exact ⟨RetB.no (unhide hno), rfl⟩
                · have hn := hide (unhide Hn2 ⟨by omega, by omega⟩)
                  clear Hn1 Hn2
                  go_wp2
                  go_round
                  case rel => exact ⟨j + 1, by omega, by go_num, unhide hn⟩
                  case measure => simp [intOf]; omega
            · obtain rfl : j = x.length := by omega
              have hn := hide (unhide Hnx ⟨by omega, unhide Hjn⟩)
              go_wp2
              go_round
              case rel => exact ⟨i + 1, by omega, by go_num, unhide hn⟩
              case measure => simp [intOf]; omega
      · obtain rfl : i = xss.length := by omega
        have Hlim : Hid (Lim xss) := ⟨by omega, unhide Hin⟩
        clear hc
        go_wp2
        go_ret
        exact ⟨RetB.yes (unhide Hlim), rfl⟩
def OneOf (c : List Int) (oss : List (List Int)) : Prop := ∃ k : Nat, k < oss.length ∧ SubP (oss[k]?.getD []) c
set_option maxHeartbeats 2000000 in
set_option maxRecDepth 100000 in
theorem holdsOneOf_any (u v : Value) (c : List Int) (oss : List (List Int)) (w : World) (hu : SlAt mI 0 0 w.heap.size w u c) (hcu : CapOk u) (ha : Asc c) (hv : SsAt mI 0 w.heap.size w v oss) (has : ∀ k : Nat, k < oss.length → Asc (oss[k]?.getD [])) :
    Calls Tryz.prog 88 #[u, v] w fun e w' => RetB e (OneOf c oss) ∧ ∃ q, w' = w.drewN q := by
  have Hu := hide hu
  have Hcu := hide hcu
  have Ha := hide ha
  have Has := hide has
  obtain ⟨ua, uc, rfl, -, -⟩ := hu
  obtain ⟨a, cap, rfl, hml, hc⟩ := hv
  unfold maxLen at hml
  clear hcu ha has
  go_enter Tryz.func88, Tryz.ntmps88
  go_wp2_with fail
  go_loopw [9] (fun iv wr => (∃ i : Nat, i ≤ oss.length ∧ iv = .int .i64 i ∧ ∀ k : Nat, k < i → ¬ SubP (oss[k]?.getD []) c) ∧ ∃ q, wr = w.drewN q) (fun iv _ => oss.length - (intOf iv).toNat)
  case atStart => exact ⟨⟨0, Nat.zero_le _, rfl, fun k hk => absurd hk (Nat.not_lt_zero _)⟩, 0, rfl⟩
  case round =>
    obtain ⟨⟨i, hix, rfl, hin⟩, q, rfl⟩ := hrel
    have Hin := hide hin
    clear hin
    by_cases hlt : i < oss.length
    · have hlt' : (i : Int) < (oss.length : Int) := by omega
      obtain ⟨b, off, rfl, hbn, hcell⟩ := hc (by omega)
      obtain ⟨sv, hx, hsx, hcx⟩ := hcell i hlt
      have HX := hide hsx
      have HCX := hide hcx
      have HAx := hide (unhide Has i hlt)
      obtain ⟨sa, sc, rfl, -⟩ := hsx
      have Hyes : Hid (SubP (oss[i]?.getD []) c → OneOf c oss) := fun h => ⟨i, hlt, h⟩
      have Hnx : Hid (¬ SubP (oss[i]?.getD []) c → ∀ k : Nat, k < i + 1 → ¬ SubP (oss[k]?.getD []) c) := fun h k hk => by
        by_cases e : k = i
        · subst e; exact h
        · exact unhide Hin k (by omega)
      clear hcell hc hcx Hin
      generalize oss[i]?.getD [] = x at *
      go_wp2_with fail
      refine (holdsAll_any _ _ c x _ (by exact unhide Hu) (unhide Hcu) (unhide Ha) (by exact unhide HX) (unhide HCX) (unhide HAx)).mono ?_
      rintro e w1 ⟨hret, q1, rfl⟩
      rcases hret.cases with ⟨rfl, hy⟩ | ⟨rfl, hn⟩
      · have HY := hide (unhide Hyes hy)
        clear hy Hyes Hnx hret
        go_wp2
        go_ret
        exact ⟨RetB.yes (unhide HY), _, rfl⟩
      · have HN := hide (unhide Hnx hn)
        clear hn Hyes Hnx hret
        go_wp2
        go_roundw
        case rel => exact ⟨⟨i + 1, by omega, by go_num, unhide HN⟩, _, rfl⟩
        case measure => simp [intOf]; omega
    · obtain rfl : i = oss.length := by omega
      clear hc
      go_wp2
      go_ret
      exact ⟨RetB.no (fun ⟨k, hk, h⟩ => unhide Hin k hk h), _, rfl⟩
theorem OneOf.is_true {e : Ending} {P : Prop} (h : RetB e P) (hp : P) : e = .returned (.bool true) := by
  rcases h.cases with ⟨h1, -⟩ | ⟨-, h2⟩
  · exact h1
  · exact absurd hp h2
theorem OneOf.is_false {e : Ending} {P : Prop} (h : RetB e P) (hp : ¬ P) : e = .returned (.bool false) := by
  rcases h.cases with ⟨-, h2⟩ | ⟨h1, -⟩
  · exact absurd h2 hp
  · exact h1
theorem mn_parts {cs : List (List Int)} (hl : LAsc cs) {i : Nat} (hi : i < cs.length) : mn cs (cs[i]?.getD []) = true ↔ ¬ OneOf (cs[i]?.getD []) (cs.take i) ∧ ¬ OneOf (cs[i]?.getD []) (cs.drop (i + 1)) := by
  have hpw := List.pairwise_iff_getElem.1 hl
  have hself : ∀ a : List Int, ¬ lexc a a < 0 := fun a => by rw [lexc_zero.2 rfl]; omega
  have ei : cs[i]?.getD [] = cs[i] := by simp [hi]
  rw [mn_iff]
  constructor
  · intro h
    refine ⟨fun ⟨k, hk, hs⟩ => ?_, fun ⟨k, hk, hs⟩ => ?_⟩
    · have hk' : k < i := by simp at hk; omega
      rw [List.getElem?_take, if_pos hk'] at hs
      have ek : cs[k]?.getD [] = cs[k]'(by omega) := by simp [show k < cs.length by omega]
      refine h (cs[k]?.getD []) (by rw [ek]; exact List.getElem_mem _) (fun e => ?_) hs
      have := hpw k i (by omega) hi hk'
      rw [← ek, ← ei, e] at this
      exact hself _ this
    · have hk' : i + 1 + k < cs.length := by simp at hk; omega
      rw [List.getElem?_drop] at hs
      have ek : cs[i + 1 + k]?.getD [] = cs[i + 1 + k]'hk' := by simp [hk']
      refine h (cs[i + 1 + k]?.getD []) (by rw [ek]; exact List.getElem_mem _) (fun e => ?_) hs
      have := hpw i (i + 1 + k) hi hk' (by omega)
      rw [← ek, ← ei, e] at this
      exact hself _ this
  · rintro ⟨h1, h2⟩ d hd hne hs
    obtain ⟨k, hk, e⟩ := List.mem_iff_getElem.1 hd
    have ek : cs[k]?.getD [] = d := by simp [hk, e]
    rcases Nat.lt_trichotomy k i with g | g | g
    · exact h1 ⟨k, by simp; omega, by rw [List.getElem?_take, if_pos g, ek]; exact hs⟩
    · subst g
      exact hne ek.symm
    · refine h2 ⟨k - (i + 1), by simp; omega, ?_⟩
      rw [List.getElem?_drop, show i + 1 + (k - (i + 1)) = k by omega, ek]
      exact hs
set_option maxHeartbeats 8000000 in
set_option maxRecDepth 100000 in
theorem smallest_any (base : Nat) (v : Value) (qs : List (Cl Int)) (w : World) (h : LR base w v qs) (hl : LAsc (qs.map Cl.xs)) (ha : ∀ p ∈ qs, Asc p.xs) (hlen : qs.length ≤ 1048576) :
    Calls Tryz.prog 49 #[v] w fun e w' => ∃ v', e = .returned v' ∧ LR w.heap.size w' v' (qs.filter (fun p => mn (qs.map Cl.xs) p.xs)) ∧ Below w.heap.size w w' := by
  obtain ⟨i0, hi, hz0, hz1, hz2⟩ := info_parts Tryz.zinIntS
  have H := hide h
  have Hl := hide hl
  have Ha := hide ha
  have hat := h.at
  have Hat := hide hat
  obtain ⟨a, cap, rfl⟩ := own_is h.own
  obtain ⟨hcp, hcm⟩ := (own_cap h.own).le
  unfold maxLen at hcm
  clear h hl ha hat
  go_enter Tryz.func49, Tryz.ntmps49
  go_wp2_with fail
  go_loopw [3, 8] (fun ov iv wr => ∃ i : Nat, i ≤ qs.length ∧ iv = .int .i64 i ∧ LR w.heap.size wr ov ((qs.take i).filter (fun p => mn (qs.map Cl.xs) p.xs)) ∧ Below w.heap.size w wr) (fun _ iv _ => qs.length - (intOf iv).toNat)
  case atStart => exact ⟨0, Nat.zero_le _, rfl, LR.nil, Below.refl _ _⟩
  case round =>
    obtain ⟨i, hiq, rfl, hlr, hb⟩ := hrel
    have hszr := hb.size
    have Hlr := hide hlr
    obtain ⟨va, vc, rfl⟩ := own_is hlr.own
    have hkl := List.length_filter_le (fun p : Cl Int => mn (qs.map Cl.xs) p.xs) (qs.take i)
    rw [List.length_take] at hkl
    clear hlr
    by_cases hit : i < qs.length
    · have hit' : (i : Int) < (qs.length : Int) := by omega
      have hitc : i < (qs.map Cl.xs).length := by rw [List.length_map]; exact hit
      obtain ⟨g, cap', e, hcl⟩ := own_at_s (unhide H).own (by omega)
      cases e
      have hg : g < w.heap.size := ((unhide H).own.lt g rfl).2
      have hm : qs[i]?.getD dC ∈ qs := by rw [List.getElem?_eq_getElem hit]; exact List.getElem_mem _
      have hx : wr.cell? ⟨g, i, none⟩ = some (qs[i]?.getD dC).v := by
        rw [hb.cell (p := ⟨g, i, none⟩) hg, hcl i hit, List.getElem?_map, List.getElem?_eq_getElem hit]
        rfl
      have hok := hide (((unhide H).ok _ hm).below hb (Nat.le_refl _))
      have hasc := hide (unhide Ha _ hm)
      have exs : (qs.map Cl.xs)[i]?.getD [] = (qs[i]?.getD dC).xs := by simp [hit]
      have Hmn := hide (mn_parts (unhide Hl) hitc)
      rw [exs] at Hmn
      have Htk : Hid ((qs.take (i + 1)).filter (fun p => mn (qs.map Cl.xs) p.xs) = if mn (qs.map Cl.xs) (qs[i]?.getD dC).xs = true then (qs.take i).filter (fun p => mn (qs.map Cl.xs) p.xs) ++ [qs[i]?.getD dC] else (qs.take i).filter (fun p => mn (qs.map Cl.xs) p.xs)) := by
        show List.filter _ _ = _
        rw [List.take_add_one, List.filter_append, List.getElem?_eq_getElem hit]
        simp only [Option.toList_some, Option.getD_some, List.filter_cons, List.filter_nil]
        split <;> simp
      have Hasc : Hid (∀ z ∈ qs.map Cl.xs, Asc z) := fun z hz => by
        obtain ⟨p, hp, rfl⟩ := List.mem_map.1 hz
        exact unhide Ha p hp
      have Has1 : Hid (∀ k : Nat, k < ((qs.map Cl.xs).take i).length → Asc (((qs.map Cl.xs).take i)[k]?.getD [])) := fun k hk => by
        rw [List.getElem?_eq_getElem hk]
        exact unhide Hasc _ (List.mem_of_mem_take (List.getElem_mem hk))
      have Has2 : Hid (∀ k : Nat, k < ((qs.map Cl.xs).drop (i + 1)).length → Asc (((qs.map Cl.xs).drop (i + 1))[k]?.getD [])) := fun k hk => by
        rw [List.getElem?_eq_getElem hk]
        exact unhide Hasc _ (List.mem_of_mem_drop (List.getElem_mem hk))
      obtain ⟨_, cap2, e, hcapp, hc2⟩ := (unhide Hat).below hb (Nat.le_refl _)
      have hcapp' := hcapp
      rw [List.length_map] at e hcapp
      cases e
      obtain ⟨b', off', e2, hbn, hcell⟩ := hc2 (by rw [List.length_map]; omega)
      cases e2
      have T1 : Hid (SsAt mI 0 wr.heap.size wr (.slice (some ⟨g, 0, none⟩) i cap) ((qs.map Cl.xs).take i)) := SsAt.take (by rw [List.length_map]; omega) hcapp' hbn hcell
      have T2 : Hid (SsAt mI 0 wr.heap.size wr (.slice (some ⟨g, i + 1, none⟩) (qs.length - (i + 1)) (cap - (i + 1))) ((qs.map Cl.xs).drop (i + 1))) := by
        have := SsAt.drop (k := i + 1) (m := qs.length - (i + 1)) (cap := cap - (i + 1)) (by rw [List.length_map]; omega) ⟨by omega, by omega⟩ hbn hcell
        rwa [Nat.zero_add] at this
      have T3 : Hid (cap = i + 1 → SsAt mI 0 wr.heap.size wr (.slice (some ⟨g, 0, none⟩) 0 0) ((qs.map Cl.xs).drop (i + 1))) := fun h => by
        rw [List.drop_eq_nil_of_le (by rw [List.length_map]; omega)]
        exact ⟨_, 0, rfl, ⟨Nat.le_refl _, Nat.zero_le _⟩, fun h => absurd h (by simp)⟩
      generalize (qs.take i).filter (fun p => mn (qs.map Cl.xs) p.xs) = ks at *
      clear hcl hm exs hcell hc2 Hasc hitc
      generalize qs[i]?.getD dC = pi at *
      have SI := hide (unhide hok).at
      have CI' := hide (unhide hok).cap
      obtain ⟨pa, pc, e1⟩ : ∃ a c, pi.v = .slice a pi.xs.length c := by obtain ⟨a, c, e, -⟩ := unhide SI; exact ⟨a, c, e⟩
      have E1 := hide e1
      rw [e1] at hx SI CI'
      clear e1
      have hic : (i : Int) ≤ (cap : Int) := by omega
      have hic1 : (i : Int) + 1 ≤ (cap : Int) := by omega
      have hic2 : (i : Int) + 1 ≤ (qs.length : Int) := by omega
      have hic0 : (0 : Int) ≤ (i : Int) + 1 := by omega
      by_cases hP1 : OneOf pi.xs ((qs.map Cl.xs).take i)
      · have Hks : Hid ((qs.take (i + 1)).filter (fun p => mn (qs.map Cl.xs) p.xs) = ks) := (unhide Htk).trans (if_neg (fun h => ((unhide Hmn).1 h).1 hP1))
        have HP1 := hide hP1
        clear hP1 Htk Hmn
        go_wp2_with fail
        refine (holdsOneOf_any _ _ pi.xs _ _ (unhide SI) (unhide CI') (unhide hasc) (unhide T1) (unhide Has1)).mono ?_
        rintro e w1 ⟨hret, q1, rfl⟩
        obtain rfl := OneOf.is_true hret (unhide HP1)
        go_wp2
        go_roundw
        case rel => exact ⟨i + 1, by omega, by go_num, by rw [unhide Hks]; exact ⟨(unhide Hlr).own, (unhide Hlr).ok⟩, below_drewN hb q1⟩
        case measure => simp [intOf]; omega
      · have HP1 := hide hP1
        by_cases hce : cap = i + 1
        · have hn0 := hide (show qs.length = i + 1 by omega)
          have T3' := hide (unhide T3 hce)
          clear T3
          subst hce
          by_cases hP2 : OneOf pi.xs ((qs.map Cl.xs).drop (i + 1))
          · have Hks : Hid ((qs.take (i + 1)).filter (fun p => mn (qs.map Cl.xs) p.xs) = ks) := (unhide Htk).trans (if_neg (fun h => ((unhide Hmn).1 h).2 hP2))
            have HP2 := hide hP2
            clear hP2 hP1 Htk Hmn
            go_wp2_with fail
            refine (holdsOneOf_any _ _ pi.xs _ _ (unhide SI) (unhide CI') (unhide hasc) (unhide T1) (unhide Has1)).mono ?_
            rintro e w1 ⟨hret, q1, rfl⟩
            obtain rfl := OneOf.is_false hret (unhide HP1)
            go_wp2_with fail
            refine (holdsOneOf_any _ _ pi.xs _ _ (by exact unhide SI) (unhide CI') (unhide hasc) (by exact unhide T3') (unhide Has2)).mono ?_
            rintro e w2 ⟨hret2, q2, rfl⟩
            obtain rfl := OneOf.is_true hret2 (unhide HP2)
            go_wp2
            go_roundw
            case rel => exact ⟨i + 1, by omega, by go_num, by rw [unhide Hks]; exact ⟨(unhide Hlr).own, (unhide Hlr).ok⟩, below_drewN hb (q1 + q2)⟩
            case measure => simp [intOf]; omega
          · have Hks : Hid ((qs.take (i + 1)).filter (fun p => mn (qs.map Cl.xs) p.xs) = ks ++ [pi]) := (unhide Htk).trans (if_pos ((unhide Hmn).2 ⟨hP1, hP2⟩))
            have HP2 := hide hP2
            clear hP2 hP1 Htk Hmn
            go_wp2_with fail
            refine (holdsOneOf_any _ _ pi.xs _ _ (unhide SI) (unhide CI') (unhide hasc) (unhide T1) (unhide Has1)).mono ?_
            rintro e w1 ⟨hret, q1, rfl⟩
            obtain rfl := OneOf.is_false hret (unhide HP1)
            go_wp2_with fail
            refine (holdsOneOf_any _ _ pi.xs _ _ (by exact unhide SI) (unhide CI') (unhide hasc) (by exact unhide T3') (unhide Has2)).mono ?_
            rintro e w2 ⟨hret2, q2, rfl⟩
            obtain rfl := OneOf.is_false hret2 (unhide HP2)
            obtain ⟨V, hV⟩ : ∃ V, (wr.drewN q1).drewN q2 = V := ⟨_, rfl⟩
            have HlrV : Hid (LR w.heap.size V (.slice va ks.length vc) ks) := by rw [← hV]; exact ⟨(unhide Hlr).own, (unhide Hlr).ok⟩
            have hbV : Below w.heap.size w V := by rw [← hV]; exact below_drewN (below_drewN hb q1) q2
            have hzV : w.heap.size ≤ V.heap.size := hbV.size
            have hokV : Hid (pi.ok mI 0 3 V) := by rw [← hV]; exact unhide hok
            rw [hV]
            clear hV
            have Hst : Hid (∀ (w' : World) (v' : Value), w'.ownsRow w.heap.size 34 1 v' (ks.length + 1) (ks.map Cl.v ++ [.slice pa pi.xs.length pc]) → (V.alloc (.cells #[.slice pa pi.xs.length pc] 34)).grownBy w' (Value.slice va ks.length vc).ownBlock → LR w.heap.size w' v' (ks ++ [pi]) ∧ Below w.heap.size V w') := fun w' v' g1 g2 =>
              (unhide HlrV).app hzV (unhide hokV) (pushd_alloc V _) (by rw [unhide E1]; exact g1) g2
            go_wp2_with (at_builtin; refine wpList_append_own _ rfl _ _ 29 rfl w.heap.size 34 i0 (.slice none 0 0) 1 24 Tryz.underlying29 hi hz0 hz1 hz2 rfl (by decide) _ _ _ rfl (World.ownsRow.alloc (w := V) (unhide HlrV).own _) ⟨V.heap.size, 0, none⟩ 1 1 [.slice pa pi.xs.length pc] rfl rfl ?_ ?_ ?_ ?_ ?_ ?_)
            · exact cell_1 (by simp)
            · intro u hu; simp at hu; subst hu; rfl
            · unfold maxLen; omega
            · omega
            · rw [sz_alloc]; omega
            intro v3 w3 h5 hg5 _
            have h3 := hide (unhide Hst w3 v3 h5 hg5)
            obtain ⟨g3, cap3, rfl⟩ := ownsRow_succ h5
            clear h5 hg5
            go_wp2
            go_roundw
            case rel => exact ⟨i + 1, by omega, by go_num, by rw [unhide Hks]; exact (unhide h3).1, hbV.trans (unhide h3).2⟩
            case measure => simp [intOf]; omega
        · have hce' : i + 1 < cap := by omega
          by_cases hP2 : OneOf pi.xs ((qs.map Cl.xs).drop (i + 1))
          · have Hks : Hid ((qs.take (i + 1)).filter (fun p => mn (qs.map Cl.xs) p.xs) = ks) := (unhide Htk).trans (if_neg (fun h => ((unhide Hmn).1 h).2 hP2))
            have HP2 := hide hP2
            clear hP2 hP1 Htk Hmn
            go_wp2_with fail
            refine (holdsOneOf_any _ _ pi.xs _ _ (unhide SI) (unhide CI') (unhide hasc) (unhide T1) (unhide Has1)).mono ?_
            rintro e w1 ⟨hret, q1, rfl⟩
            obtain rfl := OneOf.is_false hret (unhide HP1)
            go_wp2_with fail
            refine (holdsOneOf_any _ _ pi.xs _ _ (by exact unhide SI) (unhide CI') (unhide hasc) (by exact unhide T2) (unhide Has2)).mono ?_
            rintro e w2 ⟨hret2, q2, rfl⟩
            obtain rfl := OneOf.is_true hret2 (unhide HP2)
            go_wp2
            go_roundw
            case rel => exact ⟨i + 1, by omega, by go_num, by rw [unhide Hks]; exact ⟨(unhide Hlr).own, (unhide Hlr).ok⟩, below_drewN hb (q1 + q2)⟩
            case measure => simp [intOf]; omega
          · have Hks : Hid ((qs.take (i + 1)).filter (fun p => mn (qs.map Cl.xs) p.xs) = ks ++ [pi]) := (unhide Htk).trans (if_pos ((unhide Hmn).2 ⟨hP1, hP2⟩))
            have HP2 := hide hP2
            clear hP2 hP1 Htk Hmn
            go_wp2_with fail
            refine (holdsOneOf_any _ _ pi.xs _ _ (unhide SI) (unhide CI') (unhide hasc) (unhide T1) (unhide Has1)).mono ?_
            rintro e w1 ⟨hret, q1, rfl⟩
            obtain rfl := OneOf.is_false hret (unhide HP1)
            go_wp2_with fail
            refine (holdsOneOf_any _ _ pi.xs _ _ (by exact unhide SI) (unhide CI') (unhide hasc) (by exact unhide T2) (unhide Has2)).mono ?_
            rintro e w2 ⟨hret2, q2, rfl⟩
            obtain rfl := OneOf.is_false hret2 (unhide HP2)
            obtain ⟨V, hV⟩ : ∃ V, (wr.drewN q1).drewN q2 = V := ⟨_, rfl⟩
            have HlrV : Hid (LR w.heap.size V (.slice va ks.length vc) ks) := by rw [← hV]; exact ⟨(unhide Hlr).own, (unhide Hlr).ok⟩
            have hbV : Below w.heap.size w V := by rw [← hV]; exact below_drewN (below_drewN hb q1) q2
            have hzV : w.heap.size ≤ V.heap.size := hbV.size
            have hokV : Hid (pi.ok mI 0 3 V) := by rw [← hV]; exact unhide hok
            rw [hV]
            clear hV
            have Hst : Hid (∀ (w' : World) (v' : Value), w'.ownsRow w.heap.size 34 1 v' (ks.length + 1) (ks.map Cl.v ++ [.slice pa pi.xs.length pc]) → (V.alloc (.cells #[.slice pa pi.xs.length pc] 34)).grownBy w' (Value.slice va ks.length vc).ownBlock → LR w.heap.size w' v' (ks ++ [pi]) ∧ Below w.heap.size V w') := fun w' v' g1 g2 =>
              (unhide HlrV).app hzV (unhide hokV) (pushd_alloc V _) (by rw [unhide E1]; exact g1) g2
            go_wp2_with (at_builtin; refine wpList_append_own _ rfl _ _ 29 rfl w.heap.size 34 i0 (.slice none 0 0) 1 24 Tryz.underlying29 hi hz0 hz1 hz2 rfl (by decide) _ _ _ rfl (World.ownsRow.alloc (w := V) (unhide HlrV).own _) ⟨V.heap.size, 0, none⟩ 1 1 [.slice pa pi.xs.length pc] rfl rfl ?_ ?_ ?_ ?_ ?_ ?_)
            · exact cell_1 (by simp)
            · intro u hu; simp at hu; subst hu; rfl
            · unfold maxLen; omega
            · omega
            · rw [sz_alloc]; omega
            intro v3 w3 h5 hg5 _
            have h3 := hide (unhide Hst w3 v3 h5 hg5)
            obtain ⟨g3, cap3, rfl⟩ := ownsRow_succ h5
            clear h5 hg5
            go_wp2
            go_roundw
            case rel => exact ⟨i + 1, by omega, by go_num, by rw [unhide Hks]; exact (unhide h3).1, hbV.trans (unhide h3).2⟩
            case measure => simp [intOf]; omega
    · obtain rfl : i = qs.length := by omega
      rw [List.take_length] at *
      go_wp2
      go_ret
      exact ⟨_, rfl, unhide Hlr, hb⟩
open Go.RowKit Go.Sort Go.Shelf
def Good (w : World) (g : Nat) (p : Cl Int) : Prop := p.ok mI 0 3 w ∧ (0 < p.xs.length → p.b ≠ g)
theorem sortWorld_heap {α : Type} [Inhabited α] (enc : α → Value) (w : World) (g m : Nat) (dk : Array α) (os : Array Obj) {k : Nat} (hk : k < w.heap.size) (hne : k ≠ g) : (sortWorld enc w g 0 m dk os).heap[k]? = w.heap[k]? := by
  have e : g ≠ k := fun h => hne h.symm
  simp only [sortWorld, putRow, mapBlock, Sort.ahead, Sort.grow]
  rw [Array.getElem?_append_left (by simpa using hk), Array.getElem?_modify, if_neg e]
theorem swo_lex {w : World} {g : Nat} : SWO (ltOf (fun x y : { p : Cl Int // Good w g p } => lexc x.1.xs y.1.xs)) where
  irrefl x := by
    have : lexc x.1.xs x.1.xs = 0 := lexc_zero.2 rfl
    simp [ltOf, this]
  trans x y z h1 h2 := by
    simp only [ltOf, decide_eq_true_eq] at *
    exact lexc_trans h1 h2
  ntrans x y z h1 h2 := by
    simp only [ltOf, decide_eq_false_iff_not] at *
    intro h
    have hs := lexc_swap x.1.xs y.1.xs
    by_cases e : lexc x.1.xs y.1.xs = 0
    · rw [lexc_zero] at e
      rw [e] at h
      exact h2 h
    · exact h2 (lexc_trans (by omega) h)
theorem perm_apart {α : Type} {ps qs : List (Cl α)} (h : qs.Perm ps) (ha : ApartC ps) : ApartC qs :=
  (List.Perm.pairwise_iff (fun h1 h2 h3 e => h1 h3 h2 e.symm) h).2 ha
set_option maxHeartbeats 1000000 in
set_option maxRecDepth 100000 in
theorem sort_LL (base : Nat) (v : Value) (ps : List (Cl Int)) (w : World) (h : LL mI 0 3 34 base w v ps) (hbase : base ≤ w.heap.size) (hl : ps.length ≤ 1048576) :
    Calls Tryz.prog 47 #[v, .func (.func 48) #[] #[]] w fun e w' => e = .returned (.tuple #[]) ∧ ∃ qs, qs.Perm ps ∧ qs.Pairwise (fun p q => lexc p.xs q.xs ≤ 0) ∧ LL mI 0 3 34 base w' v qs ∧ Below base w w' := by
  by_cases hnil : v = .slice none 0 0
  · subst hnil
    have h0 : ps = [] := by
      rcases h.own.2 with ⟨_, hz⟩ | ⟨g, cap, cur, e, -⟩
      · exact List.eq_nil_of_length_eq_zero hz
      · cases e
    subst h0
    refine (AnyF.slices_SortFunc_none (P := Tryz.prog) (ρ := Tryz.laysSortF_ren) { Tryz.laysSortF with } none 0 _ w).mono ?_
    rintro e w' ⟨rfl, rfl⟩
    exact ⟨rfl, [], List.Perm.refl _, List.Pairwise.nil, h, Below.refl _ _⟩
  · have hown := h.own
    rcases hown.2 with ⟨e0, _⟩ | ⟨g, cap, cur, rfl, hbg, hg, hnc, hcm, hcs, htake⟩
    · exact absurd e0 hnil
    have hgood : ∀ p ∈ ps, Good w g p := fun p hp => ⟨h.ok p hp, fun hp0 e => h.not_row (by decide) (h.ok p hp) rfl hp0 (by rw [e]; rfl)⟩
    have inh : Inhabited { p : Cl Int // Good w g p } := ⟨⟨⟨.slice none 0 0, [], 0⟩, ⟨none, 0, rfl, ⟨Nat.le_refl _, Nat.zero_le _⟩, fun hp => absurd hp (by simp)⟩, fun hp => absurd hp (by simp)⟩⟩
    obtain ⟨ds, hds⟩ : ∃ ds : List { p : Cl Int // Good w g p }, ds.map (·.1) = ps := ⟨ps.attach.map (fun p => ⟨p.1, hgood p.1 p.2⟩), by simp [List.map_map, Function.comp_def]⟩
    have hdl : ds.length = ps.length := by rw [← hds]; simp
    have hown' : w.ownsRow base 34 1 (.slice (some ⟨g, 0, none⟩) ps.length cap) ps.length (ds.map (fun x => x.1.v)) := by
      have := h.own
      rw [← hds, List.map_map] at this
      rw [← hdl]
      simpa [Function.comp_def] using this
    obtain ⟨g', cap', e1, -, hgl, -, -, -, hH⟩ := Lib.holds_of_ownsRow (enc := fun x : { p : Cl Int // Good w g p } => x.1.v) hown' (by simp)
    cases e1
    have hcmp : CmpReads Tryz.prog 48 #[] (fun x : { p : Cl Int // Good w g p } => x.1.v) (fun x y => lexc x.1.xs y.1.xs) g 0 ds.toArray.size w := by
      intro m os dk _ x y
      have hk : ∀ z : { p : Cl Int // Good w g p }, z.1.ok mI 0 3 (sortWorld (fun x : { p : Cl Int // Good w g p } => x.1.v) w g 0 m dk os) := fun z => z.2.1.same (fun hz => sortWorld_heap _ _ _ _ _ _ (z.2.1.lt hz) (z.2.2 hz))
      refine (compare_any _ _ _ _ _ (hk x).at (hk y).at).mono ?_
      rintro e w' ⟨rfl, rfl⟩
      exact ⟨rfl, 0, rfl⟩
    have hS := Any.slices_SortFunc Tryz.laysSortF (fun x : { p : Cl Int // Good w g p } => x.1.v) (fun x => x.2.1.one) (fun x y => lexc x.1.xs y.1.xs) swo_lex 48 #[] g 0 cap ds.toArray w (enters_of Tryz.func48 (by kernel_rfl) rfl) hcmp.lays hH hgl (by simp; omega)
    have hsz : ds.toArray.size = ps.length := by simpa using hdl
    rw [hsz] at hS
    refine hS.mono ?_
    rintro e w' ⟨rfl, d', n, os, ⟨hs1, -, hperm⟩, hsort, rfl⟩
    rw [hsz] at hs1
    have hperm' : d'.toList.Perm ds := by
      have e1 : d'.extract 0 ps.length = d' := by rw [← hs1]; exact Array.extract_size
      have e2 : ds.toArray.extract 0 ps.length = ds.toArray := by rw [← hsz]; exact Array.extract_size
      rw [e1, e2] at hperm
      exact hperm
    have hB : Below base w (sortWorld (fun x : { p : Cl Int // Good w g p } => x.1.v) w g 0 n d' os) := by
      have b1 : Below base w (putRow (fun x : { p : Cl Int // Good w g p } => x.1.v) (Sort.ahead w n) g 0 d') := Lib.below_putRow (Below.refl _ _) hbg
      exact b1.trans ((below_grow _ os).mono (by have := b1.size; omega))
    have hps : (d'.toList.map (·.1)).Perm ps := by rw [← hds]; exact hperm'.map _
    refine ⟨rfl, d'.toList.map (·.1), hps, ?_, ⟨?_, fun p hp => ?_, fun p hp => h.lo p (hps.mem_iff.1 hp), perm_apart hps h.apart⟩, hB⟩
    · rw [List.pairwise_map, List.pairwise_iff_getElem]
      intro i j hi hj hij
      have := hsort i j (Nat.zero_le _) hij (by rw [← hs1]; simpa using hj)
      simp only [ltOf, decide_eq_false_iff_not] at this
      have hsw := lexc_swap d'[i]!.1.xs d'[j]!.1.xs
      have e1 : d'[i]! = d'.toList[i] := by rw [getElem!_pos d' i (by simpa using hi)]; simp
      have e2 : d'[j]! = d'.toList[j] := by rw [getElem!_pos d' j (by simpa using hj)]; simp
      rw [e1, e2] at hsw this
      omega
    · have h1 := Lib.ownsRow_putRow (enc := fun x : { p : Cl Int // Good w g p } => x.1.v) (q := n) (k := ps.length) (ys := d'.toList) hown' (by simpa using hs1) (Nat.le_refl _)
      rw [List.take_of_length_le (by simp; omega), Array.toArray_toList] at h1
      have h2 := own_keep h1 (below_grow _ os) (Nat.le_refl _)
      have e3 : (d'.toList.map (·.1)).length = ps.length := by simpa using hs1
      have e4 : (d'.toList.map (·.1)).map Cl.v = d'.toList.map (fun x => x.1.v) := by rw [List.map_map]; rfl
      rw [e3, e4]
      exact h2
    · obtain ⟨z, -, rfl⟩ := List.mem_map.1 hp
      exact z.2.1.same (fun hz => sortWorld_heap _ _ _ _ _ _ (z.2.1.lt hz) (z.2.2 hz))
set_option maxHeartbeats 4000000 in
set_option maxRecDepth 100000 in
theorem compact_LL (base : Nat) (v : Value) (ps : List (Cl Int)) (w : World) (h : LL mI 0 3 34 base w v ps) (hl : ps.length ≤ 1048576) :
    Calls Tryz.prog 50 #[v, .func (.func 51) #[] #[]] w fun e w' => ∃ v', e = .returned v' ∧ LL mI 0 3 34 base w' v' (cpt ps ps.length) ∧ Below base w w' := by
  rcases h.own.2 with ⟨rfl, hz⟩ | ⟨g, cap, cur, rfl, hbg, -⟩
  · have h0 : ps = [] := List.eq_nil_of_length_eq_zero hz
    subst h0
    go_enter Tryz.func50, Tryz.ntmps50
    go_wp2
    go_ret
    exact ⟨_, rfl, LL.nil, Below.refl _ _⟩
  · have hnr : ∀ p ∈ ps, 0 < p.xs.length → p.b ≠ g := fun p hp h0 e => (h.not_row (by decide) (h.ok p hp) rfl h0) (by rw [e]; rfl)
    refine (compactF_any base g cap ps w h.own h.ok hnr hl).mono ?_
    rintro e w' ⟨rfl, hown, hc⟩
    have hsub : (cpt ps ps.length).Sublist ps := by
      have := cpt_sub ps ps.length (Nat.le_refl _)
      rwa [List.take_length] at this
    exact ⟨_, rfl, ⟨hown, fun p hp => ok_chg (h.ok p (hsub.subset hp)) (hnr p (hsub.subset hp)) hc, fun p hp => h.lo p (hsub.subset hp), List.Pairwise.sublist hsub h.apart⟩, hc.below (fun k hk => by rw [hk]; exact hbg)⟩
theorem tot_sub {α : Type} {xs ys : List (List α)} (h : xs.Sublist ys) : tot xs ≤ tot ys := by
  induction h with
  | slnil => exact Nat.le_refl _
  | cons a _ ih => simp only [Go.Proofs.YtinhliecfjlocaaGreat.tot]; omega
  | cons_cons a _ ih => simp only [Go.Proofs.YtinhliecfjlocaaGreat.tot]; omega
theorem tot_perm {α : Type} {xs ys : List (List α)} (h : xs.Perm ys) : tot xs = tot ys := by
  induction h with
  | nil => rfl
  | cons a _ ih => simp only [Go.Proofs.YtinhliecfjlocaaGreat.tot]; omega
  | swap a b l => simp only [Go.Proofs.YtinhliecfjlocaaGreat.tot]; omega
  | trans _ _ ih1 ih2 => omega
theorem cpt_norm {xss : List (List Int)} {ps qs : List (Cl Int)} (he : Each xss ps) (hp : qs.Perm ps) (hs : qs.Pairwise (fun p q => lexc p.xs q.xs ≤ 0)) :
    LAsc ((cpt qs qs.length).map Cl.xs) ∧ (∀ p ∈ cpt qs qs.length, Asc p.xs) ∧ NormV xss (((cpt qs qs.length).filter (fun p => mn ((cpt qs qs.length).map Cl.xs) p.xs)).map Cl.xs) ∧ tot (((cpt qs qs.length).filter (fun p => mn ((cpt qs qs.length).map Cl.xs) p.xs)).map Cl.xs) ≤ tot xss := by
  have hl := cpt_lasc hs qs.length (Nat.le_refl _)
  have hsub : (cpt qs qs.length).Sublist qs := by
    have := cpt_sub qs qs.length (Nat.le_refl _)
    rwa [List.take_length] at this
  have hmem : ∀ z, z ∈ (cpt qs qs.length).map Cl.xs ↔ ∃ xs, xs ∈ xss ∧ Ord xs z := fun z => by
    rw [← he.mem z]
    constructor
    · intro h
      exact ((hp.map Cl.xs).mem_iff).1 ((hsub.map Cl.xs).subset h)
    · intro h
      have h1 := ((hp.map Cl.xs).mem_iff).2 h
      obtain ⟨i, hi, e⟩ := List.mem_iff_getElem.1 h1
      rw [List.length_map] at hi
      have := cpt_mem (ps := qs) qs.length (Nat.le_refl _) i hi
      have e1 : (qs[i]?.getD dC).xs = z := by rw [← e]; simp [hi]
      rwa [e1] at this
  refine ⟨hl, fun p hp => ?_, ⟨⟨_, hl, hmem, ?_⟩⟩, ?_⟩
  · obtain ⟨xs, -, ho⟩ := (hmem p.xs).1 (List.mem_map_of_mem hp)
    exact ho.asc
  · rw [List.filter_map]
    rfl
  · have h1 := tot_sub ((List.filter_sublist (p := fun p : Cl Int => mn ((cpt qs qs.length).map Cl.xs) p.xs) (l := cpt qs qs.length)).map Cl.xs)
    have h2 := tot_sub (hsub.map Cl.xs)
    have h3 := tot_perm (hp.map Cl.xs)
    have h4 := he.tot
    omega
set_option maxHeartbeats 8000000 in
set_option maxRecDepth 100000 in
theorem implNorm_any (u : Value) (xss : List (List Int)) (w : World) (hu : SsAt mI 0 w.heap.size w u xss) (hL : xss.length ≤ 1048576) :
    Calls Tryz.prog 18 #[.agg #[u]] w fun e w' => ∃ v' ps, e = .returned (.agg #[v']) ∧ NormR xss (ps.map Cl.xs) ∧ tot (ps.map Cl.xs) ≤ tot xss ∧ LL mI 0 3 34 w.heap.size w' v' ps ∧ Below w.heap.size w w' := by
  obtain ⟨i0, hi, hz0, hz1, hz2⟩ := info_parts Tryz.zinIntS
  have Hu := hide hu
  obtain ⟨a, cap, rfl, hml, hc⟩ := hu
  unfold maxLen at hml
  go_enter Tryz.func18, Tryz.ntmps18
  go_wp2_with fail
  have hB0 := below2 w (.cells #[.slice a xss.length cap] 31) (.cells #[.slice none 0 0] 31)
  have RQ := (Boxed.new w 31 (.slice a xss.length cap)).alloc (.cells #[.slice none 0 0] 31)
  have RR := Boxed.new (w.alloc (.cells #[.slice a xss.length cap] 31)) 31 (.slice none 0 0)
  rw [World.size_alloc] at RR
  have hz0' : ((w.alloc (.cells #[.slice a xss.length cap] 31)).alloc (.cells #[.slice none 0 0] 31)).heap.size ≥ w.heap.size + 2 := by rw [sz_alloc, sz_alloc]; omega
  generalize (w.alloc (.cells #[.slice a xss.length cap] 31)).alloc (.cells #[.slice none 0 0] 31) = W0 at *
  have cq := RQ.cell
  have cr := RR.cell
  have fr := RR.frozen
  have HRR := hide RR
  have Hu0 := hide ((unhide Hu).below hB0 (Nat.le_refl _))
  clear RQ RR hc Hu
  refine (within_any _ xss _ (unhide Hu0)).mono ?_
  rintro e w1 ⟨hret, rfl⟩
  rcases hret.cases with ⟨rfl, hlim⟩ | ⟨rfl, hlim⟩
  rotate_left
  · have Hlim := hide hlim
    clear hlim hret
    go_wp2
    exact bodyPost_ret (v := .agg #[.slice none 0 0]) (by simp [results, Tryz.results18, go_sem, cr]) rfl ⟨_, [], rfl, Or.inr ⟨unhide Hlim, rfl⟩, Nat.zero_le _, LL.nil, bput hB0 (by omega) _⟩
  · have Hlim := hide hlim
    have hx1000 := hlim.len
    clear hlim hret
    go_wp2_with fail
    go_loopw [3, 14] (fun sv iv wr => ∃ (n : Nat) (ps : List (Cl Int)), n ≤ xss.length ∧ iv = .int .i64 n ∧ Each (xss.take n) ps ∧ LL mI 0 3 34 w1.heap.size wr sv ps ∧ Below w1.heap.size w1 wr) (fun _ iv _ => xss.length - (intOf iv).toNat)
    case atStart => exact ⟨0, [], Nat.zero_le _, rfl, Each.nil, LL.nil, Below.refl _ _⟩
    case round =>
      obtain ⟨n, ps, hn, rfl, hea, hll, hb⟩ := hrel
      have hszr := hb.size
      have hlen := hea.len
      rw [List.length_take] at hlen
      have hpl : ps.length ≤ 1048576 := by omega
      have Hea := hide hea
      have Hll := hide hll
      obtain ⟨oa, oc, rfl⟩ := own_is hll.own
      clear hea hll
      by_cases hlt : n < xss.length
      · have hlt' : (n : Int) < (xss.length : Int) := by omega
        obtain ⟨_, _, e, -, hc⟩ := (unhide Hu0).below hb (Nat.le_refl _)
        cases e
        obtain ⟨b, off, rfl, hbn, hcell⟩ := hc (by omega)
        obtain ⟨sv, hx, hsx, -⟩ := hcell n hlt
        have HX := hide hsx
        obtain ⟨sa, sc, rfl, -⟩ := id hsx
        have hxl := ((unhide Hlim).each n hlt).1
        have Hnext : Hid (∀ p : Cl Int, Ord (xss[n]?.getD []) p.xs → p.xs.length ≤ (xss[n]?.getD []).length → Each (xss.take (n + 1)) (ps ++ [p])) := fun p h1 h2 => (unhide Hea).next hlt h1 h2
        clear hcell hc hsx hlen
        generalize xss[n]?.getD [] = x at *
        go_wp2_with fail
        refine (clone_any _ x _ (unhide HX) (by omega)).mono ?_
        rintro e wc ⟨vc, rfl, hownc, hbc⟩
        have hzc := hbc.size
        have Hownc := hide hownc
        obtain ⟨ca, cc, rfl⟩ := own_is hownc
        clear hownc
        go_wp2_with fail
        refine (ascending_any wr.heap.size _ x _ (unhide Hownc) hzc (by omega)).mono ?_
        rintro e w2 ⟨v1, ys, rfl, ho, hle, hown1, hb2, -⟩
        have hz2' := hb2.size
        have hb1 := hbc.trans hb2
        obtain ⟨pb, hpok, hplo⟩ := own_cl hown1
        obtain ⟨ya, yc, rfl⟩ := own_is hown1
        have Hll1 := hide ((unhide Hll).keep hb1 (Nat.le_refl _))
        have Hp := hide hpok
        have Hst : Hid (∀ (w' : World) (v' : Value), w'.ownsRow w1.heap.size 34 1 v' (ps.length + 1) (ps.map Cl.v ++ [.slice ya ys.length yc]) → (w2.alloc (.cells #[.slice ya ys.length yc] 34)).grownBy w' (Value.slice oa ps.length oc).ownBlock → LL mI 0 3 34 w1.heap.size w' v' (ps ++ [⟨.slice ya ys.length yc, ys, pb⟩]) ∧ Below w1.heap.size w2 w') := fun w' v' q1 q2 =>
          (unhide Hll1).app (by decide) (by omega) (unhide Hp) (fun h => by have h9 : wr.heap.size ≤ pb := hplo h; show w1.heap.size ≤ pb; omega) (fun q hq h1 h2 e => by
            have h3 := ((unhide Hll).ok q hq).lt h1
            have h4 := hplo h2
            have : q.b = pb := e
            omega) (pushd_alloc w2 _) q1 q2
        have HN := hide (unhide Hnext ⟨.slice ya ys.length yc, ys, pb⟩ ho hle)
        clear hown1 hpok hplo ho Hnext
        go_wp2_with (at_builtin; refine wpList_append_own _ rfl _ _ 29 rfl w1.heap.size 34 i0 (.slice none 0 0) 1 24 Tryz.underlying29 hi hz0 hz1 hz2 rfl (by decide) _ _ _ rfl (World.ownsRow.alloc (w := w2) (unhide Hll1).own _) ⟨w2.heap.size, 0, none⟩ 1 1 [.slice ya ys.length yc] rfl rfl ?_ ?_ ?_ ?_ ?_ ?_)
        · exact cell_1 (by simp)
        · intro u hu; simp at hu; subst hu; rfl
        · unfold maxLen; omega
        · omega
        · rw [sz_alloc]; omega
        intro v3 w3 h5 hg5 _
        have h3 := hide (unhide Hst w3 v3 h5 hg5)
        obtain ⟨g3, cap3, rfl⟩ := ownsRow_succ h5
        clear h5 hg5
        go_wp2
        go_roundw
        case rel => exact ⟨n + 1, _, by omega, by go_num, unhide HN, (unhide h3).1, hb.trans ((hb1.mono hszr).trans (unhide h3).2)⟩
        case measure => simp [intOf]; omega
      · obtain rfl : n = xss.length := by omega
        rw [List.take_length] at Hea
        clear hlen
        go_wp2_with fail
        refine (sort_LL w1.heap.size _ ps _ (unhide Hll) hszr hpl).mono ?_
        rintro e w2 ⟨rfl, qs, hperm, hpw, hll2, hb2⟩
        have hql := hperm.length_eq
        have Hll2 := hide hll2
        obtain ⟨hcl, hca, hcn, hct⟩ := cpt_norm (unhide Hea) hperm hpw
        have Hcl := hide hcl
        have Hca := hide hca
        have Hcn := hide hcn
        have Hct := hide hct
        have hB2 := hide (hB0.trans ((hb.trans hb2).mono (by omega)))
        have hz2' := hb2.size
        have hbb := hide (hb.trans hb2)
        clear hll2 hcl hca hcn hct hb2 hb Hll Hea hperm hpw
        rw [← hql]
        go_wp2_with fail
        refine (compact_LL w1.heap.size _ qs _ (unhide Hll2) (by omega)).mono ?_
        rintro e w3 ⟨v3, rfl, hll3, hb3⟩
        have hz3' := hb3.size
        have hcle : (cpt qs qs.length).length ≤ qs.length := by
          have := (cpt_sub qs qs.length (Nat.le_refl _)).length_le
          rwa [List.length_take, Nat.min_self] at this
        have Hll3 := hide hll3
        generalize cpt qs qs.length = cs at *
        obtain ⟨ca, cc, rfl⟩ := own_is hll3.own
        clear hll3
        go_wp2_with fail
        refine (smallest_any w1.heap.size _ cs _ (unhide Hll3).lr (unhide Hcl) (unhide Hca) (by omega)).mono ?_
        rintro e w4 ⟨v4, rfl, hlr4, hb4⟩
        have hz4' := hb4.size
        have hsub : (cs.filter (fun p => mn (cs.map Cl.xs) p.xs)).Sublist cs := List.filter_sublist
        have Hll4 : Hid (LL mI 0 3 34 w1.heap.size w4 v4 (cs.filter (fun p => mn (cs.map Cl.xs) p.xs))) := LL.of_sub ⟨own_low hlr4.own (by omega), hlr4.ok⟩ hsub (unhide Hll3).lo (unhide Hll3).apart
        generalize cs.filter (fun p => mn (cs.map Cl.xs) p.xs) = rs at *
        obtain ⟨ra, rc, rfl⟩ := own_is hlr4.own
        have hB4 : Below w1.heap.size w1 w4 := (unhide hbb).trans (hb3.trans (hb4.mono (by omega)))
        have RR4 := Boxed.below' (unhide HRR) hB4 (by omega)
        have cr4 := RR4.cell
        have fr4 := RR4.frozen
        have Hres : Hid (∀ u, LL mI 0 3 34 w.heap.size (w4.setCell ⟨w.heap.size + 1, 0, none⟩ u) (.slice ra rs.length rc) rs) := fun u =>
          have h := ok_box_row (unhide Hll4).lr (by decide) RR4 u
          ⟨own_low h.own (by omega), h.ok, fun p hp h0 => Nat.le_trans (by omega) ((unhide Hll4).lo p hp h0), (unhide Hll4).apart⟩
        have hBB := hB0.trans (hB4.mono (by omega))
        clear hlr4 hb4 hb3 Hll3 RR4
        go_wp2
        exact bodyPost_ret (v := .agg #[.slice ra rs.length rc]) (by simp [results, Tryz.results18, go_sem, cr4]) rfl ⟨_, _, rfl, Or.inl ⟨unhide Hlim, unhide Hcn⟩, unhide Hct, unhide Hres _, bput hBB (by omega) _⟩
structure Sees (w : World) (Kb Ib : Nat) (kv : Value) : Prop where
  kb : Boxed w Kb 34 kv
  ib : ∃ t, Boxed w Ib t (.func (.func 21) #[] #[.pointer (some ⟨Kb, 0, none⟩), .pointer (some ⟨Ib, 0, none⟩)])
theorem Sees.below {w w' : World} {Kb Ib m : Nat} {kv : Value} (h : Sees w Kb Ib kv) (hb : Below m w w') (hm : w.heap.size ≤ m) : Sees w' Kb Ib kv := by
  obtain ⟨t, h2⟩ := h.ib
  exact ⟨(hb.block Kb (by have := h.kb.lt; omega)).trans h.kb, t, (hb.block Ib (by have := h2.lt; omega)).trans h2⟩
set_option maxHeartbeats 2000000 in
set_option maxRecDepth 100000 in
theorem isTrue_any (Kb Ib : Nat) (kv : Value) (ks ts : List Int) (ho : Ord ts ks) (N : Nat) : ∀ (cl : Value) (xss : List (List Int)) (w : World), xss.length ≤ N → tot xss ≤ 1048576 → xss.length ≤ 1048576 → SsAt mI 0 w.heap.size w cl xss → Sees w Kb Ib kv → SlAt mI 0 0 w.heap.size w kv ks → CapOk kv →
    Calls Tryz.prog 21 #[cl, .pointer (some ⟨Kb, 0, none⟩), .pointer (some ⟨Ib, 0, none⟩)] w fun e w' => RetB e (EvalP xss ts) ∧ Below w.heap.size w w' := by
  induction N with
  | zero =>
    intro cl xss w hN hT hL hcl hs hk hck
    have e : xss = [] := List.eq_nil_of_length_eq_zero (by omega)
    subst e
    obtain ⟨a, cap, rfl, -, -⟩ := hcl
    clear hs hk hck ho
    go_enter Tryz.func21, Tryz.ntmps21
    go_wp2
    go_ret
    exact ⟨RetB.no (fun ⟨k, hk, _⟩ => by simp at hk), Below.refl _ _⟩
  | succ N ih =>
    intro cl xss w hN hT hL hcl hs hk hck
    have Hs := hide hs
    have Hk := hide hk
    have Hck := hide hck
    have Ho := hide ho
    have hkb := hs.kb.cell
    obtain ⟨t, hib⟩ := hs.ib
    have hib' := hib.cell
    obtain ⟨a, cap, rfl, hcap, hc⟩ := hcl
    obtain ⟨ka, kc, rfl, -, -⟩ := hk
    clear hs hck ho hib
    by_cases h0 : xss.length = 0
    · have e : xss = [] := List.eq_nil_of_length_eq_zero h0
      subst e
      clear hc ih
      go_enter Tryz.func21, Tryz.ntmps21
      go_wp2
      go_ret
      exact ⟨RetB.no (fun ⟨k, hk, _⟩ => by simp at hk), Below.refl _ _⟩
    · by_cases h1 : xss.length = 1
      · obtain ⟨x, rfl⟩ : ∃ x, xss = [x] := by
          match xss, h1 with
          | [x], _ => exact ⟨x, rfl⟩
        obtain ⟨b, off, rfl, hbn, hcell⟩ := hc (by simp)
        obtain ⟨sv, hx, hsv, -⟩ := hcell 0 (by simp)
        have Hsv := hide hsv
        obtain ⟨sa, sc, rfl, -⟩ := hsv
        clear hcell hc ih
        simp only [List.getElem?_cons_zero, Option.getD_some, Nat.add_zero] at hx Hsv
        go_enter Tryz.func21, Tryz.ntmps21
        have hlx : x.length ≤ 1048576 := by simp [tot] at hT; omega
        have hS : Hid (∀ W' : World, Below w.heap.size w W' → W'.cell? ⟨Kb, 0, none⟩ = some (.slice ka ks.length kc) ∧ W'.cell? ⟨b, off, none⟩ = some (.slice sa x.length sc)) := fun W' hW => ⟨((unhide Hs).below hW (Nat.le_refl _)).kb.cell, by rw [hW.cell (p := ⟨b, off, none⟩) hbn]; exact hx⟩
        go_wp2_with fail
        go_region_held3 (fun W' => W'.cell? ⟨Kb, 0, none⟩ = some (.slice ka ks.length kc) ∧ W'.cell? ⟨b, off, none⟩ = some (.slice sa x.length sc))
          (first | go_keep | exact unhide hS _ hB3 | exact unhide hS _ hB2 | exact unhide hS _ hB1)
          (first
            | (go_at_call 20; refine (clone_any _ x _ (by exact unhide Hsv) hlx).mono ?_; rintro e w1 ⟨v1, rfl, hown1, hb1⟩; have hB1 : Below w.heap.size w w1 := ⟨hb1.os, hb1.tape, hb1.output, hb1.size, hb1.block⟩; have Hown1 := hide hown1; obtain ⟨oa1, oc1, rfl⟩ := own_is hown1; clear hown1 hb1)
            | (go_at_call 19; refine (ascending_any w.heap.size _ x _ (by exact unhide Hown1) hB1.size (by omega)).mono ?_; rintro e w2 ⟨v2, zs, rfl, ho2, hle2, hown2, hb2, hg2⟩; have hB2 : Below w.heap.size w w2 := hB1.trans hb2; have Hown2 := hide hown2; have Ho2 := hide ho2; obtain ⟨oa2, oc2, rfl⟩ := own_is hown2; clear hown2 hb2 hg2 ho2)
            | (go_at_call 22; refine (holdsAll_any _ _ ks zs _ (by exact (unhide Hk).below hB2 (Nat.le_refl _)) (unhide Hck) (unhide Ho).asc (by exact (own_slw (lo := 0) (unhide Hown2) (Nat.zero_le _) (by unfold maxLen; omega)).at) (own_cap (unhide Hown2)) (unhide Ho2).asc).mono ?_; rintro e w3 ⟨⟨r, rfl, hr⟩, q3, rfl⟩; have hB3 : Below w.heap.size w (w2.drewN q3) := below_drewN hB2 q3; have Hr := hide hr; clear hr))
        go_wp2
        go_ret
        refine ⟨⟨r, rfl, (unhide Hr).trans ?_⟩, hB3⟩
        unfold EvalP
        constructor
        · intro h
          exact ⟨0, by simp, fun z hz => ((unhide Ho).mem z).1 (h z (((unhide Ho2).mem z).2 (by simpa using hz)))⟩
        · rintro ⟨k, hk, h⟩ z hz
          have e : k = 0 := by simpa using hk
          subst e
          exact ((unhide Ho).mem z).2 (h z (by simpa using ((unhide Ho2).mem z).1 hz))
      · have h2 : 2 ≤ xss.length := by omega
        obtain ⟨b, off, rfl, hbn, hcell⟩ := hc (by omega)
        have hA : Hid (SsAt mI 0 w.heap.size w (.slice (some ⟨b, off, none⟩) (xss.length / 2) cap) (xss.take (xss.length / 2))) := SsAt.take (by omega) hcap hbn hcell
        have hB : Hid (SsAt mI 0 w.heap.size w (.slice (some ⟨b, off + xss.length / 2, none⟩) (xss.length - xss.length / 2) (cap - xss.length / 2)) (xss.drop (xss.length / 2))) := SsAt.drop (by omega) ⟨by omega, by omega⟩ hbn hcell
        have hev := hide (evalP_halves xss ts (xss.length / 2))
        have ht1 := tot_take xss (xss.length / 2)
        have ht2 := tot_drop xss (xss.length / 2)
        have g0 : ((xss.length : Int) == 0) = false := beq_eq_false_iff_ne.2 (by omega)
        have g1 : ((xss.length : Int) == 1) = false := beq_eq_false_iff_ne.2 (by omega)
        obtain ⟨hc1, hc2⟩ := hcap
        unfold maxLen at hc2
        clear hcell hc
        have hS : Hid (∀ W' : World, Below w.heap.size w W' → W'.cell? ⟨Ib, 0, none⟩ = some (.func (.func 21) #[] #[.pointer (some ⟨Kb, 0, none⟩), .pointer (some ⟨Ib, 0, none⟩)])) := fun W' hW => by
          obtain ⟨t, h⟩ := ((unhide Hs).below hW (Nat.le_refl _)).ib
          exact h.cell
        have hq0 : (0 : Int) ≤ (xss.length : Int) / 2 := by omega
        have hq1 : (xss.length : Int) / 2 ≤ (cap : Int) := by omega
        have hq2 : (xss.length : Int) / 2 ≤ (xss.length : Int) := by omega
        have hq3 : (xss.length : Int) ≤ (cap : Int) := by omega
        have Hih := hide ih
        clear ih
        have hl1 : (xss.take (xss.length / 2)).length ≤ N := by simp; omega
        have hl2 : (xss.drop (xss.length / 2)).length ≤ N := by simp; omega
        have hl3 : (xss.take (xss.length / 2)).length ≤ 1048576 := by simp; omega
        have hl4 : (xss.drop (xss.length / 2)).length ≤ 1048576 := by simp; omega
        by_cases hP : EvalP (xss.take (xss.length / 2)) ts
        · have HP := hide hP
          clear hP
          go_enter Tryz.func21, Tryz.ntmps21
          go_wp2_with fail
          first | (go_region_with ((go_at_call 21; refine (unhide Hih _ _ _ hl1 (by omega) hl3 (by exact unhide hA) (by exact (unhide Hs).below ((Below.refl _ _).drew) (Nat.le_refl _)) (by exact unhide Hk) (unhide Hck)).mono ?_; rintro e w1 ⟨hret, hb1⟩; obtain rfl := hret.is_true (unhide HP); have hB1 : Below w.heap.size w w1 := ⟨hb1.os, hb1.tape, hb1.output, hb1.size, hb1.block⟩; clear hret hb1))) | fail
          all_goals go_wp2
          all_goals go_ret
          all_goals exact ⟨RetB.yes ((unhide hev).2 (Or.inl (unhide HP))), hB1⟩
        · have HP := hide hP
          clear hP
          go_enter Tryz.func21, Tryz.ntmps21
          go_wp2_with fail
          first | (go_region_with (first
              | (go_at_call 21; refine (unhide Hih _ _ _ hl1 (by omega) hl3 (by exact unhide hA) (by exact (unhide Hs).below ((Below.refl _ _).drew) (Nat.le_refl _)) (by exact unhide Hk) (unhide Hck)).mono ?_; rintro e w1 ⟨hret, hb1⟩; obtain rfl := hret.is_false (unhide HP); have hB1 : Below w.heap.size w w1 := ⟨hb1.os, hb1.tape, hb1.output, hb1.size, hb1.block⟩; have hibB := unhide hS _ hB1; clear hret hb1 hA)
              | (go_at_call 21; refine (unhide Hih _ _ _ hl2 (by omega) hl4 (by exact (unhide hB).below hB1 (Nat.le_refl _)) (by exact (unhide Hs).below hB1 (Nat.le_refl _)) (by exact (unhide Hk).below hB1 (Nat.le_refl _)) (unhide Hck)).mono ?_; rintro e w2 ⟨⟨r, rfl, hr⟩, hb2⟩; have hB2 : Below w.heap.size w w2 := hB1.trans (⟨hb2.os, hb2.tape, hb2.output, hb2.size, fun k hk => hb2.block k (by have := hB1.size; show k < w1.heap.size; omega)⟩); have Hr := hide hr; clear hr hb2))) | fail
          go_wp2
          go_ret
          refine ⟨⟨r, rfl, (unhide Hr).trans ?_⟩, hB2⟩
          rw [unhide hev]
          exact ⟨Or.inr, fun h => h.elim (fun q => absurd q (unhide HP)) id⟩
set_option maxHeartbeats 2000000 in
set_option maxRecDepth 100000 in
theorem implEval_any (u v : Value) (xss : List (List Int)) (ts : List Int) (w : World) (hu : SsAt mI 0 w.heap.size w u xss) (hT : tot xss ≤ 1048576) (hL : xss.length ≤ 1048576) (hv : SlAt mI 0 0 w.heap.size w v ts) (hl : ts.length ≤ 1048576) :
    Calls Tryz.prog 7 #[.agg #[u], v] w fun e w' => RetB e (EvalP xss ts) ∧ Below w.heap.size w w' := by
  have Hv := hide hv
  have Hu := hide hu
  obtain ⟨a2, cap2, rfl, -, -⟩ := hv
  obtain ⟨a, cap, rfl, -, -⟩ := hu
  go_enter Tryz.func7, Tryz.ntmps7
  go_wp2_with fail
  refine (clone_any _ ts _ ((unhide Hv).below (below1 w _) (Nat.le_refl _)) hl).mono ?_
  rintro e w1 ⟨v1, rfl, hown1, hb1⟩
  have hz1 := hb1.size
  rw [sz_alloc] at hz1 hown1
  have Hown1 := hide hown1
  obtain ⟨oa1, oc1, rfl⟩ := own_is hown1
  have hbq : Boxed w1 w.heap.size 31 (.slice a xss.length cap) := (hb1.block w.heap.size (by rw [sz_alloc]; omega)).trans (Boxed.new w _ _)
  have hB1 : Below w.heap.size w w1 := (below1 w _).trans (hb1.mono (by rw [sz_alloc]; omega))
  clear hown1 hb1 Hv
  go_wp2_with fail
  refine (ascending_any (w.heap.size + 1) _ ts _ (unhide Hown1) hz1 (by omega)).mono ?_
  rintro e w2 ⟨v2, ks, rfl, ho, hle, hown2, hb2, -⟩
  have hz2 := hb2.size
  have Hown2 := hide hown2
  have HO := hide ho
  obtain ⟨oa2, oc2, rfl⟩ := own_is hown2
  have hbq2 : Boxed w2 w.heap.size 31 (.slice a xss.length cap) := (hb2.block w.heap.size (by omega)).trans hbq
  have hB2 : Below w.heap.size w w2 := hB1.trans (hb2.mono (by omega))
  have hcq : ∀ o1 o2 : Obj, ((w2.alloc o1).alloc o2).cell? ⟨w.heap.size, 0, none⟩ = some (.slice a xss.length cap) := fun o1 o2 => ((hbq2.alloc o1).alloc o2).cell
  clear hown2 hb2 ho hbq
  go_wp2_with fail
  have hB4 : Below w2.heap.size w2 ((w2.alloc (.cells #[.slice oa2 ks.length oc2] 34)).alloc (.cells #[.func (.func 21) #[] #[.pointer (some ⟨w2.heap.size, 0, none⟩), .pointer (some ⟨w2.heap.size + 1, 0, none⟩)]] 51)) := below2 w2 _ _
  have hB5 := hB2.trans (hB4.mono hB2.size)
  have bK := (Boxed.new w2 34 (.slice oa2 ks.length oc2)).alloc (.cells #[.func (.func 21) #[] #[.pointer (some ⟨w2.heap.size, 0, none⟩), .pointer (some ⟨w2.heap.size + 1, 0, none⟩)]] 51)
  have bI := Boxed.new (w2.alloc (.cells #[.slice oa2 ks.length oc2] 34)) 51 (.func (.func 21) #[] #[.pointer (some ⟨w2.heap.size, 0, none⟩), .pointer (some ⟨w2.heap.size + 1, 0, none⟩)])
  rw [World.size_alloc] at bI
  refine (isTrue_any w2.heap.size (w2.heap.size + 1) _ ks ts (unhide HO) xss.length _ xss _ (Nat.le_refl _) hT hL ((unhide Hu).below hB5 (Nat.le_refl _)) ⟨bK, _, bI⟩ (((own_slw (lo := 0) (unhide Hown2) (Nat.zero_le _) (by unfold maxLen; omega)).at).below hB4 (Nat.le_refl _)) (own_cap (unhide Hown2))).mono ?_
  rintro e w3 ⟨⟨r, rfl, hr⟩, hb3⟩
  have Hr := hide hr
  clear hr bK bI
  go_wp2
  go_ret
  exact ⟨⟨r, rfl, unhide Hr⟩, hB5.trans (hb3.mono (by have := hB5.size; omega))⟩
end Go.Proofs.YtinhliecfjlocaaGreat
