import Derived.Test.YtbgjgaejfkdceaaGreatCp2
import Derived.BigQuiet
namespace Go.Proofs.YtbgjgaejfkdceaaGreat
open Go.RowKit

/-- What Replace leaves: all blocks but the row's are as they were. -/
def RepR (e : Ending) (base g : Nat) (w w' : World) (ss : List Sv) : Prop := (∃ v', e = .returned v' ∧ SgRow base w' v' ss) ∧ Only g w w'

theorem only_trans {g : Nat} {a b c : World} (h : Only g a b) (k : Only g b c) : Only g a c := h.trans k
theorem cellsV_one (t : Sv) : cellsV [t] = cell4v t := by simp [cellsV]
theorem cellsV_ok (ss : List Sv) (h : ∀ s ∈ ss, s.lv.oneCell' = true ∧ s.kv.oneCell' = true ∧ s.pv.oneCell' = true) : ∀ u ∈ cellsV ss, u.oneCell' = true := by
  induction ss with
  | nil => intro u hu; simp [cellsV] at hu
  | cons p r ih =>
    intro u hu
    simp only [cellsV, cell4v, List.mem_append, List.mem_cons, List.not_mem_nil, or_false] at hu
    have hp := h p (List.mem_cons_self ..)
    rcases hu with (rfl | rfl | rfl | rfl) | hu
    · rfl
    · exact hp.1
    · exact hp.2.1
    · exact hp.2.2
    · exact ih (fun q hq => h q (List.mem_cons_of_mem _ hq)) u hu

theorem row_cell {w : World} {g : Nat} {L : List Value} {t : TypeId} (h : w.heap[g]? = some (.cells L.toArray t (0, 0))) (i : Nat) : w.cell? ⟨g, i, none⟩ = L[i]? := by simp [World.cell?, h]
theorem add_row (g o j : Nat) : (⟨g, o, none⟩ : Addr).add j = ⟨g, o + j, none⟩ := by cases j <;> rfl
theorem min1 (n : Nat) (h : 1 ≤ n) : Nat.min 1 n = 1 := Nat.min_eq_left h
theorem minS (n : Nat) : Nat.min n n = n := Nat.min_self n

set_option maxHeartbeats 8000000 in
set_option maxRecDepth 100000 in
theorem replace_any (base g cap k AD : Nat) (A C : List Sv) (x y t : Sv) (R : List Value) (w : World) (hk : A.length = k) (hbg : base ≤ g) (hg : w.heap[g]? = some (.cells (cellsV (A ++ ([x, y] ++ C)) ++ R).toArray 56 (0, 0))) (hn : (A ++ ([x, y] ++ C)).length ≤ cap) (hm : cap ≤ maxLen) (hL : (cellsV (A ++ ([x, y] ++ C)) ++ R).length = cap * 4) (hlen : k + 2 + C.length ≤ 1000)
    (hA : w.heap[AD]? = some (.cells (cell4v t).toArray 56 (0, 0))) (hAg : AD ≠ g)
    (hs : ∀ s ∈ A ++ ([t] ++ C), SegA s.l s.h w s.v s.g) (hb : ∀ s ∈ A ++ ([t] ++ C), base ≤ s.l ∧ s.h ≤ w.heap.size ∧ (g < s.l ∨ s.h ≤ g)) (h1 : ∀ s ∈ A ++ ([t] ++ C), s.lv.oneCell' = true ∧ s.kv.oneCell' = true ∧ s.pv.oneCell' = true) :
    Calls Tryz.prog 49 #[.slice (some ⟨g, 0, none⟩) (k + 2 + C.length) cap, .int .i64 k, .int .i64 ((k : Int) + 2), .slice (some ⟨AD, 0, none⟩) 1 1] w fun e w' => RepR e base g w w' (A ++ ([t] ++ C)) := by
  obtain ⟨j0, hj, hy0, hy1, hy2⟩ := info_parts Tryz.zinSeg
  have hsz4 : (Tryz.prog.info? 56).map (fun i => i.size) = some 4 := by rw [hj]; simp [hy1]
  have hgz : g < w.heap.size := (Array.getElem?_eq_some_iff.1 hg).1
  have hcap : k + 2 + C.length ≤ cap := by simp only [List.length_append, List.length_cons, List.length_nil] at hn; omega
  have HFIN : Hid (∀ (w' : World) (Y : List Value), w'.heap[g]? = some (.cells (cellsV (A ++ ([t] ++ C)) ++ Y).toArray 56 (0, 0)) → (cellsV (A ++ ([t] ++ C)) ++ Y).length = cap * 4 → Only g w w' → RepR (.returned (.slice (some ⟨g, 0, none⟩) (k + 1 + C.length) cap)) base g w w' (A ++ ([t] ++ C))) := fun w' Y q1 q2 q3 => by
    refine ⟨⟨_, rfl, ?_⟩, q3⟩
    have e : (A ++ ([t] ++ C)).length = k + 1 + C.length := by simp only [List.length_append, List.length_cons, List.length_nil]; omega
    have h := SgRow.ofCells (base := base) (cap := cap) hbg q1 (by rw [e]; omega) hm q2 (fun s hs' => (hs s hs').same (fun j j1 j2 => q3.block j (by have := (hb s hs').2.2; omega))) (fun s hs' => ⟨(hb s hs').1, by rw [q3.size]; exact (hb s hs').2.1, (hb s hs').2.2⟩)
    rw [e] at h
    exact h
  have HT : Hid (∀ (w' : World), Only g w w' → ∀ j v, (cell4v t)[j]? = some v → w'.cell? ((⟨AD, 0, none⟩ : Addr).add j) = some v) := fun w' ho => World.news_of_block (by rw [ho.block AD hAg]; exact hA)
  have HT1 : Hid (∀ u ∈ cell4v t, u.oneCell' = true) := by
    have := cellsV_ok [t] (fun s hs' => by rw [List.mem_singleton] at hs'; subst hs'; exact h1 s (by simp))
    rwa [cellsV_one] at this
  have HC1 : Hid (∀ u ∈ cellsV C, u.oneCell' = true) := cellsV_ok C (fun s hs' => h1 s (by simp [hs']))
  have hZ1 : ∀ v ∈ [Value.int .i64 0, Value.slice none 0 0, Value.slice none 0 0, Value.slice none 0 0], v.oneCell' = true := by
    intro v hv
    simp only [List.mem_cons, List.not_mem_nil, or_false] at hv
    rcases hv with rfl | rfl | rfl | rfl <;> rfl
  have HZ1 := hide hZ1
  have hal : (cellsV A).length = k * 4 := by rw [cellsV_len, hk]
  have e0 : cellsV (A ++ ([x, y] ++ C)) ++ R = cellsV A ++ (cell4v x ++ (cell4v y ++ (cellsV C ++ R))) := by
    rw [cellsV_append, cellsV_append]
    simp [cellsV, List.append_assoc]
  rw [e0] at hg hL
  have HG := hide hg
  have HL := hide hL
  have HAL := hide hal
  have eF : ∀ Y : List Value, cellsV (A ++ ([t] ++ C)) ++ Y = cellsV A ++ (cell4v t ++ (cellsV C ++ Y)) := fun Y => by
    rw [cellsV_append, cellsV_append]
    simp [cellsV, List.append_assoc]
  have HEF := hide eF
  have hk0 : (0 : Int) ≤ (k : Int) := by omega
  have hw2 : IntKind.i64.wrap ((k : Int) + 2) = (k : Int) + 2 := k64i (by omega) (by omega)
  have hne : ((k : Int) == (k : Int) + 2) = false := by rw [beq_eq_false_iff_ne]; omega
  have hcapI : (k : Int) + 2 ≤ (cap : Int) := by omega
  have hkc : (k : Int) ≤ (cap : Int) := by omega
  have hk2 : (k : Int) ≤ (k : Int) + 2 := by omega
  have hk20 : (0 : Int) ≤ (k : Int) + 2 := by omega
  clear hg hL hal e0 eF hs hb h1 hA hn hZ1
  have d4 : ∀ (a b : Sv) (q : List Value), (cell4v a ++ q).drop (cell4v b).length = q := fun a b q => by simp [cell4v]
  have D4 := hide d4
  clear d4
  by_cases hc : C.length = 0
  · obtain rfl : C = [] := List.eq_nil_of_length_eq_zero hc
    have hjl : ((k : Int) + 2 == ((k + 2 + 0 : Nat) : Int)) = true := by simp
    have hl1 : (k : Int) + 1 < ((k + 2 + 0 : Nat) : Int) := by omega
    have hsub : k + 2 - (k + 1) = 1 := by omega
    have hkc1 : (k : Int) + 1 ≤ ((k + 2 : Nat) : Int) := by omega
    have hcne : ¬ cap = k + 1 := by simp at hcap; omega
    go_enter Tryz.func49, Tryz.ntmps49
    go_wp2_with (at_builtin; refine wpList_appendG rfl _ _ 40 rfl 56 j0 Tryz.underlying40 hj hy1 g k cap _ (unhide HG) ⟨AD, 0, none⟩ 1 (cell4v t) rfl rfl rfl (unhide HT _ (ChgF.refl _ _)) (unhide HT1) (by simp at hcap; omega) (by rw [unhide HL]; simp at hcap; omega) ?_)
    intro w1 hg1 ho1
    rw [← unhide HAL, splc_at, unhide D4] at hg1
    have hfit : (k + 1) * 4 + 4 ≤ (cellsV A ++ (cell4v t ++ (cell4v y ++ (cellsV [] ++ R)))).length := by
      have q := unhide HL
      have q2 := unhide HAL
      have ex : (cell4v x).length = 4 := rfl
      have ey : (cell4v y).length = 4 := rfl
      have et : (cell4v t).length = 4 := rfl
      rw [List.length_append, List.length_append, List.length_append] at q ⊢
      have : k + 2 ≤ cap := by simpa using hcap
      omega
    have HFT := hide hfit
    have HG1 := hide hg1
    have HO1 := hide ho1
    clear hg1 ho1 hfit
    have hcl : ∀ ty, Sem.run Tryz.prog (Builtin.clear_ #[40] ty #[.slice (some ⟨g, (k + 1) * 4, none⟩) 1 (cap - (k + 1))]) w1 = .ok (.tuple #[]) (w1.setRow g (splc (cellsV A ++ (cell4v t ++ (cell4v y ++ (cellsV [] ++ R)))) ((k + 1) * 4) [Value.int .i64 0, Value.slice none 0 0, Value.slice none 0 0, Value.slice none 0 0]).toArray) := fun ty => run_clear4 w1 40 56 ty _ _ _ _ Tryz.underlying40 Tryz.zeroSeg (unhide HZ1) g ((k + 1) * 4) (cap - (k + 1)) _ 56 (unhide HG1) (unhide HFT)
    obtain ⟨w2, hw2'⟩ : ∃ w2, w1.setRow g (splc (cellsV A ++ (cell4v t ++ (cell4v y ++ (cellsV [] ++ R)))) ((k + 1) * 4) [Value.int .i64 0, Value.slice none 0 0, Value.slice none 0 0, Value.slice none 0 0]).toArray = w2 := ⟨_, rfl⟩
    have hg2 := setRow_heap w1 g _ (splc (cellsV A ++ (cell4v t ++ (cell4v y ++ (cellsV [] ++ R)))) ((k + 1) * 4) [Value.int .i64 0, Value.slice none 0 0, Value.slice none 0 0, Value.slice none 0 0]).toArray 56 _ (unhide HG1)
    have ho2 := only_setRow (w := w1) (g := g) (splc (cellsV A ++ (cell4v t ++ (cell4v y ++ (cellsV [] ++ R)))) ((k + 1) * 4) [Value.int .i64 0, Value.slice none 0 0, Value.slice none 0 0, Value.slice none 0 0]).toArray
    rw [hw2'] at hcl hg2 ho2
    clear hw2'
    have e2 : splc (cellsV A ++ (cell4v t ++ (cell4v y ++ (cellsV [] ++ R)))) ((k + 1) * 4) [Value.int .i64 0, Value.slice none 0 0, Value.slice none 0 0, Value.slice none 0 0] = cellsV (A ++ ([t] ++ [])) ++ ([Value.int .i64 0, Value.slice none 0 0, Value.slice none 0 0, Value.slice none 0 0] ++ (cellsV [] ++ R)) := by
      have ep : (cellsV A ++ cell4v t).length = (k + 1) * 4 := by rw [List.length_append, unhide HAL]; show k * 4 + 4 = _; omega
      have ed : (cell4v y ++ (cellsV [] ++ R)).drop ([Value.int .i64 0, Value.slice none 0 0, Value.slice none 0 0, Value.slice none 0 0] : List Value).length = cellsV [] ++ R := by simp [cell4v]
      rw [← List.append_assoc, ← ep, splc_at, ed, unhide HEF]
      simp [cellsV, List.append_assoc]
    rw [e2] at hg2
    have HR2 := hide (unhide HFIN w2 ([Value.int .i64 0, Value.slice none 0 0, Value.slice none 0 0, Value.slice none 0 0] ++ (cellsV [] ++ R)) hg2 (by
      have q := unhide HL
      have ex : (cell4v x).length = 4 := rfl
      have ey : (cell4v y).length = 4 := rfl
      have et : (cell4v t).length = 4 := rfl
      have ez : ([Value.int .i64 0, Value.slice none 0 0, Value.slice none 0 0, Value.slice none 0 0] : List Value).length = 4 := rfl
      rw [unhide HEF]
      rw [List.length_append, List.length_append, List.length_append] at q
      rw [List.length_append, List.length_append, List.length_append, List.length_append, ez]
      have e0 : (cellsV ([] : List Sv)).length = 0 := rfl
      omega) ((unhide HO1).trans ho2))
    clear hg2 ho2 e2
    go_wp2
    go_ret
    exact unhide HR2
  · have hcp : 0 < C.length := by omega
    have hjl : ((k : Int) + 2 == ((k + 2 + C.length : Nat) : Int)) = false := by rw [beq_eq_false_iff_ne]; omega
    have hm1 := min1 (k + 1 + C.length - k) (by omega)
    have HM1 := hide hm1
    have hsub : k + 2 + C.length - (k + 1 + C.length) = 1 := by omega
    have hs1 : k + 1 + C.length - (k + 1) = C.length := by omega
    have hs2 : k + 2 + C.length - (k + 2) = C.length := by omega
    have hcn1 : ¬ cap = k + 1 := by omega
    have hcn2 : ¬ cap = k + 2 := by omega
    have hcn3 : ¬ cap = k + 1 + C.length := by omega
    have hb1 : (k : Int) + 1 ≤ (k : Int) + 1 + (C.length : Int) := by omega
    have hw1' : IntKind.i64.wrap ((k : Int) + 1) = (k : Int) + 1 := k64i (by omega) (by omega)
    have hb0 : (0 : Int) ≤ (k : Int) + 1 := by omega
    have htn1 : ((k : Int) + 1).toNat = k + 1 := by omega
    have htn2 : ((k : Int) + 2).toNat = k + 2 := by omega
    have htn3 : ((k : Int) + 1 + (C.length : Int)).toNat = k + 1 + C.length := by omega
    have hb4 : (0 : Int) ≤ (k : Int) + 1 + (C.length : Int) := by omega
    have hb2 : (k : Int) + 2 ≤ (k : Int) + 2 + (C.length : Int) := by omega
    have hb3 : (k : Int) + 1 + (C.length : Int) ≤ (k : Int) + 2 + (C.length : Int) := by omega
    have ex : (cell4v x).length = 4 := rfl
    have ey : (cell4v y).length = 4 := rfl
    have et : (cell4v t).length = 4 := rfl
    have hq := unhide HL
    rw [List.length_append, List.length_append, List.length_append, List.length_append, unhide HAL, ex, ey, cellsV_len] at hq
    have HQ := hide hq
    have hft0 : k * 4 + (cell4v t).length ≤ (cellsV A ++ (cell4v x ++ (cell4v y ++ (cellsV C ++ R)))).length := by rw [unhide HL, et]; omega
    have HF0 := hide hft0
    have hft1 : (k + 1) * 4 + (cellsV C).length ≤ (cellsV A ++ (cell4v t ++ (cell4v y ++ (cellsV C ++ R)))).length := by rw [List.length_append, List.length_append, List.length_append, List.length_append, unhide HAL, et, ey, cellsV_len]; omega
    have HF1 := hide hft1
    obtain ⟨Y, hY⟩ : ∃ Y, (cell4v y ++ (cellsV C ++ R)).drop (cellsV C).length = Y := ⟨_, rfl⟩
    have hYl : Y.length = 4 + R.length := by rw [← hY, List.length_drop, List.length_append, List.length_append, ey]; omega
    have HY := hide hY
    have HYL := hide hYl
    clear ex ey et hq hft0 hft1 hm1 hY hYl
    go_enter Tryz.func49, Tryz.ntmps49
    go_wp2_with fail
    go_quiet (fail)
    have hcp1 : ∀ ty, Sem.run Tryz.prog (Builtin.copy_ #[40, 40] ty #[.slice (some ⟨g, k * 4, none⟩) (k + 1 + C.length - k) (cap - k), .slice (some ⟨AD, 0, none⟩) 1 1]) (w.drewN nq) = .ok (goInt 1) ((w.drewN nq).setRow g (splc (cellsV A ++ (cell4v x ++ (cell4v y ++ (cellsV C ++ R)))) (k * 4) (cell4v t)).toArray) := fun ty => run_copy4 (w.drewN nq) 40 40 ty 56 g (k * 4) _ _ ⟨AD, 0, none⟩ 1 1 1 _ 56 (cell4v t) Tryz.underlying40 hsz4 (by exact unhide HG) (unhide HM1) rfl (unhide HT _ (only_drew _)) (unhide HF0) (unhide HT1)
    obtain ⟨w1, hw1⟩ : ∃ w1, (w.drewN nq).setRow g (splc (cellsV A ++ (cell4v x ++ (cell4v y ++ (cellsV C ++ R)))) (k * 4) (cell4v t)).toArray = w1 := ⟨_, rfl⟩
    have hg1 := setRow_heap (w.drewN nq) g _ (splc (cellsV A ++ (cell4v x ++ (cell4v y ++ (cellsV C ++ R)))) (k * 4) (cell4v t)).toArray 56 _ (unhide HG)
    have ho1 := only_setRow (w := w.drewN nq) (g := g) (splc (cellsV A ++ (cell4v x ++ (cell4v y ++ (cellsV C ++ R)))) (k * 4) (cell4v t)).toArray
    rw [hw1] at hcp1 hg1 ho1
    clear hw1
    have ho1' : Only g w w1 := (only_drew _).trans ho1
    rw [← unhide HAL, splc_at, unhide D4] at hg1
    have HG1 := hide hg1
    have HO1 := hide ho1'
    have HSRC : Hid (∀ j v, (cellsV C)[j]? = some v → w1.cell? ((⟨g, (k + 2) * 4, none⟩ : Addr).add j) = some v) := fun j v hv => by
      have ep : (cellsV A ++ (cell4v t ++ cell4v y)).length = (k + 2) * 4 := by rw [List.length_append, List.length_append, unhide HAL]; show k * 4 + (4 + 4) = _; omega
      have e9 : (cellsV A ++ (cell4v t ++ (cell4v y ++ (cellsV C ++ R)))) = (cellsV A ++ (cell4v t ++ cell4v y)) ++ (cellsV C ++ R) := by simp [List.append_assoc]
      have hjl : j < (cellsV C).length := (List.getElem?_eq_some_iff.1 hv).1
      rw [add_row, row_cell (unhide HG1), e9, ← ep, List.getElem?_append_right (by omega), show (cellsV A ++ (cell4v t ++ cell4v y)).length + j - (cellsV A ++ (cell4v t ++ cell4v y)).length = j by omega, List.getElem?_append_left hjl]
      exact hv
    clear hg1 ho1 ho1'
    go_wp2_with fail
    go_region_law (refine step_copyG rfl (.tmp 103) (.tmp 106) 40 40 rfl 56 Tryz.underlying40 hsz4 g ((k + 1) * 4) C.length (cap - (k + 1)) ⟨g, (k + 2) * 4, none⟩ C.length (cap - (k + 2)) C.length (by first | (simp [Act.eval]; done) | (simp [Act.eval, Act.put]; done)) (by first | (simp [Act.eval]; done) | (simp [Act.eval, Act.put]; done)) _ 56 (by exact unhide HG1) (cellsV C) (minS _) (cellsV_len C) (by exact unhide HSRC) (unhide HF1) (unhide HC1) (fun w2 hg2 ho2 => ?_))
    all_goals
      have e2 : splc (cellsV A ++ (cell4v t ++ (cell4v y ++ (cellsV C ++ R)))) ((k + 1) * 4) (cellsV C) = (cellsV A ++ (cell4v t ++ (cellsV C ++ Y))) := by
        have ep : (cellsV A ++ cell4v t).length = (k + 1) * 4 := by rw [List.length_append, unhide HAL]; show k * 4 + 4 = _; omega
        rw [← List.append_assoc, ← ep, splc_at, unhide HY]
        simp [List.append_assoc]
      rw [e2] at hg2
      have HG2 := hide hg2
      have HO2 := hide ((unhide HO1).trans (show Only g w1 w2 from ⟨ho2.os, ho2.tape, ho2.output, ho2.size, ho2.block⟩))
      have hcl : ∀ ty, Sem.run Tryz.prog (Builtin.clear_ #[40] ty #[.slice (some ⟨g, (k + 1 + C.length) * 4, none⟩) 1 (cap - (k + 1 + C.length))]) w2 = .ok (.tuple #[]) (w2.setRow g (splc (cellsV A ++ (cell4v t ++ (cellsV C ++ Y))) ((k + 1 + C.length) * 4) [Value.int .i64 0, Value.slice none 0 0, Value.slice none 0 0, Value.slice none 0 0]).toArray) := fun ty => run_clear4 w2 40 56 ty _ _ _ _ Tryz.underlying40 Tryz.zeroSeg (unhide HZ1) g ((k + 1 + C.length) * 4) (cap - (k + 1 + C.length)) _ 56 (unhide HG2) (by
        have et : (cell4v t).length = 4 := rfl
        rw [List.length_append, List.length_append, List.length_append, unhide HAL, et, cellsV_len, unhide HYL]
        omega)
      obtain ⟨w3, hw3'⟩ : ∃ w3, w2.setRow g (splc (cellsV A ++ (cell4v t ++ (cellsV C ++ Y))) ((k + 1 + C.length) * 4) [Value.int .i64 0, Value.slice none 0 0, Value.slice none 0 0, Value.slice none 0 0]).toArray = w3 := ⟨_, rfl⟩
      have hg3 := setRow_heap w2 g _ (splc (cellsV A ++ (cell4v t ++ (cellsV C ++ Y))) ((k + 1 + C.length) * 4) [Value.int .i64 0, Value.slice none 0 0, Value.slice none 0 0, Value.slice none 0 0]).toArray 56 _ (unhide HG2)
      have ho3 := only_setRow (w := w2) (g := g) (splc (cellsV A ++ (cell4v t ++ (cellsV C ++ Y))) ((k + 1 + C.length) * 4) [Value.int .i64 0, Value.slice none 0 0, Value.slice none 0 0, Value.slice none 0 0]).toArray
      rw [hw3'] at hcl hg3 ho3
      clear hw3'
      have e3 : splc (cellsV A ++ (cell4v t ++ (cellsV C ++ Y))) ((k + 1 + C.length) * 4) [Value.int .i64 0, Value.slice none 0 0, Value.slice none 0 0, Value.slice none 0 0] = cellsV (A ++ ([t] ++ C)) ++ ([Value.int .i64 0, Value.slice none 0 0, Value.slice none 0 0, Value.slice none 0 0] ++ Y.drop 4) := by
        have ep : (cellsV A ++ (cell4v t ++ cellsV C)).length = (k + 1 + C.length) * 4 := by rw [List.length_append, List.length_append, unhide HAL, cellsV_len]; show k * 4 + (4 + C.length * 4) = _; omega
        have e9 : (cellsV A ++ (cell4v t ++ (cellsV C ++ Y))) = (cellsV A ++ (cell4v t ++ cellsV C)) ++ Y := by simp [List.append_assoc]
        rw [e9, ← ep, splc_at, unhide HEF]
        simp [List.append_assoc]
      rw [e3] at hg3
      have HR3 := hide (unhide HFIN w3 ([Value.int .i64 0, Value.slice none 0 0, Value.slice none 0 0, Value.slice none 0 0] ++ Y.drop 4) hg3 (by
        have et : (cell4v t).length = 4 := rfl
        have ez : ([Value.int .i64 0, Value.slice none 0 0, Value.slice none 0 0, Value.slice none 0 0] : List Value).length = 4 := rfl
        have q := unhide HQ
        rw [unhide HEF, List.length_append, List.length_append, List.length_append, List.length_append, unhide HAL, et, cellsV_len, ez, List.length_drop, unhide HYL]
        omega) ((unhide HO2).trans ho3))
      clear hg2 ho2 e2 hg3 ho3 e3
      go_wp2
      go_ret
      exact unhide HR3

end Go.Proofs.YtbgjgaejfkdceaaGreat
