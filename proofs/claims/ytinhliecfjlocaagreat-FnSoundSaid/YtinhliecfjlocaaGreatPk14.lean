import Derived.Test.YtinhliecfjlocaaGreatPk7
import Derived.Test.YtinhliecfjlocaaGreatW2
import Derived.Test.YtinhliecfjlocaaGreatPk4
import Derived.Laws.CopyOwn
import Derived.Laws.CopyRow
import Derived.Test.YtinhliecfjlocaaGreatPk8
import Derived.Deep.RegionHeld3
import Derived.Test.YtinhliecfjlocaaGreatC5
import Derived.Test.YtinhliecfjlocaaGreatPk2
import Derived.BigQuiet
import Derived.Test.YtinhliecfjlocaaGreatPk9
import Derived.Laws.OwnMore
import Derived.Lib.OwnBridge
import Derived.Shelf.Sort.Plain
import Derived.Shelf.Slices.Clone
import Derived.Shelf.Slices.CompactI
import Derived.Shelf.Slices.In.SortNone
import Derived.RangeFuncBox
import Derived.RangeFuncLeaves
import Derived.RangeFuncCalls
import Derived.Shelf.Abstract
import Derived.OwnWalkIn
import Derived.TacticsInMore
import Derived.LoopNIn
import Derived.LoopIn
import Derived.Sort.QuietIn
import Derived.Maps.AppendAt
namespace Go.Proofs.YtinhliecfjlocaaGreat
open Go.RowKit
theorem Tryz.zinBoolM : (Tryz.prog.info? 4).map (fun i => (i.zero, i.size, i.bytes)) = some (some (.bool false), 1, 1) := by kernel_rfl
abbrev vB (b n : Nat) : Value := .slice (some ⟨b, 0, none⟩) (n + 1) (n + 1)
def BR (w : World) (n b : Nat) (F : Nat → Bool) : Prop := w.rowIs b 4 (n + 1) (fun j => .bool (F j))
theorem BR.keep {w w' : World} {n b : Nat} {F : Nat → Bool} (h : BR w n b F) (e : w'.heap[b]? = w.heap[b]?) : BR w' n b F := World.rowIs.of_block h e
theorem BR.lt {w : World} {n b : Nat} {F : Nat → Bool} (h : BR w n b F) : b < w.heap.size := by
  obtain ⟨c, hc, -⟩ := h
  exact (Array.getElem?_eq_some_iff.1 hc).1
theorem BR.below {w w' : World} {n b m : Nat} {F : Nat → Bool} (h : BR w n b F) (hb : Below m w w') (hm : w.heap.size ≤ m) : BR w' n b F := h.keep (hb.block b (Nat.lt_of_lt_of_le h.lt hm))
theorem BR.same {w : World} {n b : Nat} {F G : Nat → Bool} (h : BR w n b F) (e : ∀ j, j ≤ n → F j = G j) : BR w n b G := World.rowIs.congr h (fun j hj => by rw [e j (by omega)])
theorem br_made (w : World) (n : Nat) : BR (w.alloc (.cells (madeCells #[.bool false] (n + 1)) 4)) n w.heap.size (fun _ => false) := World.rowIs_made w (.bool false) (n + 1) 4
theorem copy_bools (w : World) (n g s : Nat) (F H : Nat → Bool) (hg : BR w n g F) (hs : BR w n s H) :
    ∃ w' : World, (∀ ty, Sem.run Tryz.prog (Builtin.copy_ #[79, 79] ty #[vB g n, vB s n]) w = .ok (goInt (n + 1)) w') ∧ BR w' n g H ∧ Obk g w w' := by
  obtain ⟨c, hc, hcs, -⟩ := hg
  have hlen : ((List.range (n + 1)).map (fun j => Value.bool (H j))).length = n + 1 := by simp
  have hsz : (Tryz.prog.info? 4).map (·.size) = some 1 := by
    have := congrArg (Option.map (fun x : Option Value × Nat × Nat => x.2.1)) Tryz.zinBoolM
    rw [Option.map_map] at this
    exact this
  have hr : ∀ ty, Sem.run Tryz.prog (Builtin.copy_ #[79, 79] ty #[vB g n, vB s n]) w = _ := fun ty => run_copy_row (P := Tryz.prog) w 79 79 ty 4 g 0 (n + 1) (n + 1) ⟨s, 0, none⟩ (n + 1) (n + 1) c 4 ((List.range (n + 1)).map (fun j => Value.bool (H j))) Tryz.underlying79 hsz hc (by rw [hlen]; simp) (fun j v hv => by
    rw [List.getElem?_map] at hv
    by_cases e : j < n + 1
    · rw [List.getElem?_range e] at hv
      simp only [Option.map_some, Option.some.injEq] at hv
      subst hv
      have e3 : (⟨s, 0, none⟩ : Addr).add j = ⟨s, j, none⟩ := by cases j <;> simp [Addr.add]
      rw [e3]
      exact World.rowIs.cell hs e
    · rw [List.getElem?_eq_none (by simpa using e)] at hv
      cases hv) (by rw [hlen]; omega) (fun v hv => by
    obtain ⟨j, -, rfl⟩ := List.mem_map.1 hv
    rfl)
  rw [hlen] at hr
  refine ⟨_, hr, ?_, ⟨rfl, rfl, rfl, by simp [World.setRow], fun k hk => setRow_other w g k _ hk⟩⟩
  refine ⟨_, setRow_heap w g _ _ _ _ hc, by simp; omega, fun i hi => ?_⟩
  simp only [List.take_zero, List.nil_append, Nat.zero_add]
  rw [List.getElem?_toArray, List.getElem?_append_left (by rw [hlen]; exact hi), List.getElem?_map, List.getElem?_range hi]
  rfl
theorem obk_bel {g m : Nat} {a b : World} (h : Obk g a b) (hm : m ≤ g) : Below m a b := ⟨h.os, h.tape, h.output, by rw [h.size]; exact Nat.le_refl _, fun k hk => h.block k (by omega)⟩
abbrev OneO (w : World) (A : Nat) : Nat → Prop := fun k => k = A ∨ w.heap.size ≤ k
set_option maxHeartbeats 4000000 in
set_option maxRecDepth 100000 in
theorem l2more_any (n A B : Nat) (F H : Nat → Bool) (w : World) (hA : BR w n A F) (hB : BR w n B H) (hne : A ≠ B) (hn : n ≤ 100000) :
    Calls Tryz.prog 74 #[vB A n, vB B n] w fun e w' => ∃ b, e = .returned (.tuple #[vB w.heap.size n, .bool b]) ∧ BR w' n A (fun j => F j || H j) ∧ BR w' n w.heap.size (fun j => H j && !F j) ∧ (b = true ↔ ∃ j, j ≤ n ∧ H j = true ∧ F j = false) ∧ FrO (OneO w A) w w' := by
  have hmk := run_make_row' (P := Tryz.prog) 79 4 (.bool false) 1 Tryz.underlying79 Tryz.zinBoolM rfl .i64 .i64 (n + 1) (by omega) (by omega)
  simp only [Int.natCast_add, Int.natCast_one] at hmk
  have hAl := hA.lt
  have hBl := hB.lt
  have h0 := br_made w n
  have hb0 := below1 w (.cells (madeCells #[.bool false] (n + 1)) 4)
  have hA0 := hA.below hb0 (Nat.le_refl _)
  have hB0 := hB.below hb0 (Nat.le_refl _)
  have hF0 : FrO (OneO w A) w (w.alloc (.cells (madeCells #[.bool false] (n + 1)) 4)) := fro_of hb0 (fun k hk => Or.inr hk)
  have Hh0 := hide h0
  have HA0 := hide hA0
  have HB0 := hide hB0
  have HF0 := hide hF0
  clear h0 hb0 hA0 hB0 hF0 hA hB
  go_enter Tryz.func74, Tryz.ntmps74
  go_wp2_with fail
  go_loopw [7, 8] (fun sv iv wr => ∃ (i : Nat) (b : Bool), i ≤ n + 1 ∧ iv = .int .i64 i ∧ sv = .bool b ∧ (b = true ↔ ∃ j, j < i ∧ H j = true ∧ F j = false) ∧ BR wr n A (fun j => F j || (decide (j < i) && H j)) ∧ BR wr n w.heap.size (fun j => decide (j < i) && (H j && !F j)) ∧ BR wr n B H ∧ FrO (OneO w A) w wr) (fun _ iv _ => n + 1 - (intOf iv).toNat)
  case atStart => exact ⟨0, false, Nat.zero_le _, rfl, rfl, ⟨fun h => (by cases h), fun ⟨j, hj, _⟩ => absurd hj (Nat.not_lt_zero _)⟩, (unhide HA0).same (fun j _ => by simp), (unhide Hh0).same (fun j _ => by simp), unhide HB0, unhide HF0⟩
  case round =>
    clear Hh0 HA0 HB0 HF0 hmk
    obtain ⟨i, b, hi, rfl, rfl, hb, hA, hG, hB, hF⟩ := hrel
    have HA := hide hA
    have HG := hide hG
    have HB := hide hB
    have HF := hide hF
    have Hb := hide hb
    by_cases hlt : i < n + 1
    · have hlt' : (i : Int) < ((n + 1 : Nat) : Int) := by omega
      have hlt2 : (i : Int) < (n : Int) + 1 := by omega
      have c1 := World.rowIs.cell hB hlt
      have c2 := World.rowIs.cell hA hlt
      simp only [Nat.lt_irrefl, decide_false, Bool.false_and, Bool.or_false] at c2
      have c3 := World.rowIs.cell hG hlt
      have f2 := World.rowIs.frozen hA i
      have f3 := World.rowIs.frozen hG i
      have c3' := fun v : Value => put_other (w := wr) (b := A) (o := i) (b' := w.heap.size) (o' := i) (v := v) (Or.inl (by omega))
      have f3' : ∀ v : Value, (wr.setCell ⟨A, i, none⟩ v).frozen? ⟨w.heap.size, i, none⟩ = false := fun v => (World.rowIs.setOther hG (by show w.heap.size ≠ A; omega) v).frozen i
      clear hA hG hB hF hb
      cases hHi : H i with
      | false =>
        rw [hHi] at c1
        have HHi := hide hHi
        clear hHi
        go_wp2
        go_roundw
        case rel =>
          refine ⟨i + 1, b, by omega, by go_num, rfl, ?_, (unhide HA).same (fun j hj => ?_), (unhide HG).same (fun j hj => ?_), unhide HB, unhide HF⟩
          · rw [unhide Hb]
            constructor
            · rintro ⟨j, hj, h⟩; exact ⟨j, by omega, h⟩
            · rintro ⟨j, hj, h⟩
              refine ⟨j, ?_, h⟩
              by_cases e : j = i
              · subst e; rw [unhide HHi] at h; exact absurd h.1 (by decide)
              · omega
          · by_cases e : j = i
            · subst e; simp [unhide HHi]
            · have : (j < i + 1) ↔ (j < i) := by omega
              simp [this]
          · by_cases e : j = i
            · subst e; simp [unhide HHi]
            · have : (j < i + 1) ↔ (j < i) := by omega
              simp [this]
        case measure => simp [intOf]; omega
      | true =>
        rw [hHi] at c1
        have HHi := hide hHi
        clear hHi
        cases hFi : F i with
        | true =>
          rw [hFi] at c2
          have HFi := hide hFi
          clear hFi
          go_wp2
          go_roundw
          case rel =>
            refine ⟨i + 1, b, by omega, by go_num, rfl, ?_, (unhide HA).same (fun j hj => ?_), (unhide HG).same (fun j hj => ?_), unhide HB, unhide HF⟩
            · rw [unhide Hb]
              constructor
              · rintro ⟨j, hj, h⟩; exact ⟨j, by omega, h⟩
              · rintro ⟨j, hj, h⟩
                refine ⟨j, ?_, h⟩
                by_cases e : j = i
                · subst e; rw [unhide HFi] at h; exact absurd h.2 (by decide)
                · omega
            · by_cases e : j = i
              · subst e; simp [unhide HFi]
              · have : (j < i + 1) ↔ (j < i) := by omega
                simp [this]
            · by_cases e : j = i
              · subst e; simp [unhide HFi]
              · have : (j < i + 1) ↔ (j < i) := by omega
                simp [this]
          case measure => simp [intOf]; omega
        | false =>
          rw [hFi] at c2
          have HFi := hide hFi
          clear hFi
          go_wp2
          go_roundw
          case rel =>
            refine ⟨i + 1, true, by omega, by go_num, rfl, ⟨fun _ => ⟨i, by omega, unhide HHi, unhide HFi⟩, fun _ => rfl⟩, ?_, ?_, ?_, ?_⟩
            · refine World.rowIs.congr (World.rowIs.setOther (World.rowIs.set (unhide HA) i (.bool true)) (by show A ≠ w.heap.size; omega) _) (fun j hj => ?_)
              by_cases e : j = i
              · subst e; simp [unhide HHi]
              · have : (j < i + 1) ↔ (j < i) := by omega
                simp [e, this]
            · refine World.rowIs.congr (World.rowIs.set (World.rowIs.setOther (unhide HG) (by show w.heap.size ≠ A; omega) _) i (.bool true)) (fun j hj => ?_)
              by_cases e : j = i
              · subst e; simp [unhide HHi, unhide HFi]
              · have : (j < i + 1) ↔ (j < i) := by omega
                simp [e, this]
            · exact World.rowIs.setOther (World.rowIs.setOther (unhide HB) (by show B ≠ A; omega) _) (by show B ≠ w.heap.size; omega) _
            · exact ((unhide HF).trans ((obk_put i _).fro (Or.inl rfl))).trans ((obk_put i _).fro (Or.inr (Nat.le_refl _)))
          case measure => simp [intOf]; omega
    · have e : i = n + 1 := by omega
      subst e
      clear hA hG hB hF hb
      go_wp2
      go_ret2
      refine ⟨b, rfl, (unhide HA).same (fun j hj => by simp [show j < n + 1 by omega]), (unhide HG).same (fun j hj => by simp [show j < n + 1 by omega]), ?_, unhide HF⟩
      rw [unhide Hb]
      exact ⟨fun ⟨j, h1, h2⟩ => ⟨j, by omega, h2⟩, fun ⟨j, h1, h2⟩ => ⟨j, by omega, h2⟩⟩
def tri3 (bs : List Int) (k : Nat) : Int := bs[k]?.getD 0 * 65536 + bs[k + 1]?.getD 0 * 256 + bs[k + 2]?.getD 0
def tris (bs : List Int) (n : Nat) : List Int := (List.range n).map (tri3 bs)
theorem tris_len (bs : List Int) (n : Nat) : (tris bs n).length = n := by simp [tris]
theorem tris_succ (bs : List Int) (n : Nat) : tris bs (n + 1) = tris bs n ++ [tri3 bs n] := by simp [tris, List.range_succ]
def gap3 (bs : List Int) (k : Nat) : Prop := bs[k]?.getD 0 = 256 ∨ bs[k + 1]?.getD 0 = 256 ∨ bs[k + 2]?.getD 0 = 256
def gtr (bs : List Int) : Nat → List Int
  | 0 => []
  | n + 1 => if bs[n]?.getD 0 = 256 ∨ bs[n + 1]?.getD 0 = 256 ∨ bs[n + 2]?.getD 0 = 256 then gtr bs n else gtr bs n ++ [tri3 bs n]
theorem gtr_yes {bs : List Int} {n : Nat} (h : ¬ gap3 bs n) : gtr bs (n + 1) = gtr bs n ++ [tri3 bs n] := if_neg h
theorem gtr_no {bs : List Int} {n : Nat} (h : gap3 bs n) : gtr bs (n + 1) = gtr bs n := if_pos h
theorem gtr_len (bs : List Int) : ∀ n : Nat, (gtr bs n).length ≤ n
  | 0 => by simp [gtr]
  | n + 1 => by
    have := gtr_len bs n
    by_cases h : gap3 bs n
    · rw [gtr_no h]; omega
    · rw [gtr_yes h, List.length_append, List.length_singleton]; omega
theorem sym_get {x : List Int} (h : ∀ b ∈ x, 0 ≤ b ∧ b ≤ 256) (i : Nat) : 0 ≤ x[i]?.getD 0 ∧ x[i]?.getD 0 ≤ 256 := by
  by_cases hi : i < x.length
  · rw [List.getElem?_eq_getElem hi]; exact h _ (List.getElem_mem hi)
  · rw [List.getElem?_eq_none (by omega)]; exact ⟨by decide, by decide⟩
theorem gtr_bd {bs : List Int} (h : ∀ b ∈ bs, 0 ≤ b ∧ b ≤ 256) : ∀ n : Nat, ∀ z ∈ gtr bs n, 0 ≤ z ∧ z ≤ 16777215
  | 0, z, hz => by cases hz
  | n + 1, z, hz => by
    by_cases g : gap3 bs n
    · rw [gtr_no g] at hz; exact gtr_bd h n z hz
    · rw [gtr_yes g] at hz
      rcases List.mem_append.1 hz with hz | hz
      · exact gtr_bd h n z hz
      · rw [List.mem_singleton.1 hz]
        have h0 := sym_get h n
        have h1 := sym_get h (n + 1)
        have h2 := sym_get h (n + 2)
        unfold gap3 at g
        unfold tri3
        omega
set_option maxHeartbeats 2000000 in
theorem l1treeOK_any (v : Value) (xs : List El) (w : World) (hv : ElsAt 0 w.heap.size w v xs) :
    Calls Tryz.prog 38 #[v] w fun e w' => RetB e (ValidT xs) ∧ Below w.heap.size w w' := by
  have hv0 := hv
  obtain ⟨a, cp, rfl, hl, hc⟩ := hv
  unfold maxLen at hl
  by_cases n1 : xs.length < 1
  · have n1' : (xs.length : Int) < 1 := by omega
    go_enter Tryz.func38, Tryz.ntmps38
    go_wp2
    go_ret
    exact ⟨RetB.no (fun h => by have := h.1; omega), Below.refl _ _⟩
  · have n1' : ¬ (xs.length : Int) < 1 := by omega
    by_cases n2 : 3000 < xs.length
    · have n2' : 3000 < (xs.length : Int) := by omega
      go_enter Tryz.func38, Tryz.ntmps38
      go_wp2
      go_ret
      exact ⟨RetB.no (fun h => by have := h.1; omega), Below.refl _ _⟩
    · have n2' : ¬ 3000 < (xs.length : Int) := by omega
      have Hv0 := hide hv0
      clear hv0
      go_enter Tryz.func38, Tryz.ntmps38
      go_wp2
      go_loopw [3] (fun i wr => ∃ k : Nat, k ≤ xs.length ∧ i = .int .i64 k ∧ (∀ j : Nat, j < k → ElOk (xs[j]?.getD dE)) ∧ Below w.heap.size w wr) (fun i _ => xs.length - (intOf i).toNat)
      case atStart => exact ⟨0, Nat.zero_le _, rfl, fun j hj => absurd hj (Nat.not_lt_zero _), Below.refl _ _⟩
      case round =>
        obtain ⟨k, hk, rfl, hok, hb⟩ := hrel
        have Hok := hide hok
        clear hok
        by_cases hlt : k < xs.length
        · obtain ⟨b, off, rfl, -, hbn, hel⟩ := hc (by omega)
          obtain ⟨i1, i2, i3, v, c0, c1, c2, c3, hints⟩ := (hel k hlt).same (Same.of_below hb (Nat.le_refl _)) (Nat.zero_le _) hbn
          have hlt' : (k : Int) < (xs.length : Int) := by omega
          generalize hX : xs[k]?.getD dE = x at *
          have HX := hide hX
          clear hX hel
          obtain ⟨a', cap', rfl, -, -, -⟩ := id hints
          go_wp2_with fail
          refine (l1opOK_any _ x _ (hints.mono (Nat.le_refl _) hb.size)).mono ?_
          rintro e w1 ⟨hret, hb1⟩
          have hB1 := hb.trans (hb1.mono hb.size)
          rcases hret.cases with ⟨rfl, hgood⟩ | ⟨rfl, hbad⟩
          · have Hgood := hide hgood
            clear hgood hb1
            go_wp2
            go_roundw
            case rel => exact ⟨k + 1, by omega, by go_num, fun j hj => by
              by_cases e : j = k
              · subst e; rw [unhide HX]; exact unhide Hgood
              · exact unhide Hok j (by omega), hB1⟩
            case measure => simp [intOf]; omega
          · have Hbad := hide hbad
            clear hbad hb1
            go_wp2
            go_ret
            exact ⟨RetB.no (fun h => by have := h.2.1 k hlt; rw [unhide HX] at this; exact unhide Hbad this), hB1⟩
        · obtain rfl : k = xs.length := by omega
          have hv1 := (unhide Hv0).below hb (Nat.le_refl _)
          go_wp2_with fail
          refine (l1shape_any _ xs _ hv1 (by omega)).mono ?_
          rintro e w1 ⟨hret, rfl⟩
          rcases hret.cases with ⟨rfl, hgood⟩ | ⟨rfl, hbad⟩
          · obtain ⟨c, hseg, hsz⟩ := exists_seg (unhide Hok) hgood
            have Hgood := hide hgood
            have Hrun := hide (hseg.run [])
            have hts := hseg.bd
            clear hgood hseg
            go_wp2_with fail
            refine (hsz _ _ hv1 (by omega)).mono ?_
            rintro e w2 ⟨rfl, hb2⟩
            have hB2 := hb.trans (hb2.mono hb.size)
            clear hb2 hv1 hsz
            go_wp2
            go_ret
            refine ⟨RetB.of ?_, hB2⟩
            rw [decide_eq_true_iff]
            exact ⟨fun h => ⟨⟨by omega, by omega⟩, unhide Hok, unhide Hgood, c, unhide Hrun, h⟩, fun ⟨_, _, _, u, hu, hus⟩ => by rw [unhide Hrun] at hu; simp only [List.cons.injEq, and_true] at hu; omega⟩
          · have Hbad := hide hbad
            clear hbad hv1
            go_wp2
            go_ret
            exact ⟨RetB.no (fun h => unhide Hbad h.2.2.1), hb⟩
set_option maxHeartbeats 400000 in
theorem specValid_any (l r : Bool) (v : Value) (xs : List El) (w : World) (hv : ElsAt 0 w.heap.size w v xs) :
    Calls Tryz.prog 14 #[.agg #[.bool l, .bool r, v]] w fun e w' => RetB e (ValidT xs) ∧ Below w.heap.size w w' := by
  obtain ⟨a, cp, rfl, -, -⟩ := id hv
  have Hv := hide hv
  clear hv
  go_enter Tryz.func14, Tryz.ntmps14
  go_wp2_with fail
  refine (l1treeOK_any _ xs _ (by exact (unhide Hv).below (below1 w _) (Nat.le_refl _))).mono ?_
  rintro e w1 ⟨hret, hb1⟩
  have hB1 : Below w.heap.size w w1 := (below1 w _).trans (hb1.mono (by rw [sz_alloc]; omega))
  rcases hret.cases with ⟨rfl, hgood⟩ | ⟨rfl, hbad⟩
  · have Hgood := hide hgood
    clear hgood hb1
    go_wp2
    go_ret
    exact ⟨RetB.yes (unhide Hgood), hB1⟩
  · have Hbad := hide hbad
    clear hbad hb1
    go_wp2
    go_ret
    exact ⟨RetB.no (unhide Hbad), hB1⟩
theorem app_moreB {w : World} {ops : Array Oper} {rest : List Oper} {o : Oper} {a : Act} {Q : Exit → Act → World → Prop} (hgd : o.guard = none) (s x : Operand)
    (ho : o.op = .call { callee := .builtin .append, args := #[s, x], argTypes := #[22, 22] }) (base : Nat) (ov : Value) (hs : a.eval s = ov) (os : List Int) (hown : w.ownsRow base 5 1 ov os.length (os.map mB)) (hbase : base ≤ w.heap.size)
    (sv : Value) (hx : a.eval x = sv) (xs : List Int) (hv : SlAt mB 0 0 w.heap.size w sv xs) (hlen : os.length + xs.length ≤ 1073741824)
    (h : ∀ v' w', Below base w w' → w'.ownsRow base 5 1 v' (os ++ xs).length ((os ++ xs).map mB) → v'.oneCell' = true → wpList Tryz.prog ops Q rest (a.put o.dst v') w') : wpList Tryz.prog ops Q (o :: rest) a w := by
  obtain ⟨i0, hi, hz0, hz1, hz2⟩ := info_parts Tryz.zinByte
  obtain ⟨sa, sc, rfl, hl, hc⟩ := hv
  cases sa with
  | none =>
    have h0 : xs.length = 0 := by
      by_cases q : 0 < xs.length
      · obtain ⟨b, off, e, -⟩ := hc q; simp at e
      · omega
    rw [h0] at hx
    refine wpList_append_none_c hgd s x 22 ho base 5 i0 1 Tryz.underlying22 hi _ os.length (os.map mB) hs hown sc hx (h _ w (Below.refl _ _) (by rw [List.eq_nil_of_length_eq_zero h0, List.append_nil]; exact hown) ?_)
    obtain ⟨oa, oc, rfl⟩ := own_is hown
    rfl
  | some ad =>
    refine wpList_append_own_at w hgd s x 22 ho base 5 i0 (.int .u8 0) 1 1 Tryz.underlying22 hi hz0 hz1 hz2 rfl (by decide) _ os.length (os.map mB) hs hown ad xs.length sc (xs.map mB) hx (by simp) ?_ ?_ (by unfold maxLen; omega) (by omega) hbase ?_
    · intro j u hu
      have hj : j < xs.length := by
        have := (List.getElem?_eq_some_iff.1 hu).1
        simpa using this
      obtain ⟨b, off, e, -, -, hcell⟩ := hc (by omega)
      simp only [Option.some.injEq] at e
      subst e
      rw [List.getElem?_map, getD_of_lt hj] at hu
      simp only [Option.map_some, Option.some.injEq] at hu
      subst hu
      have e3 : (⟨b, off, none⟩ : Addr).add j = ⟨b, off + j, none⟩ := by cases j <;> rfl
      rw [e3]
      exact hcell j hj
    · intro u hu
      obtain ⟨y, -, rfl⟩ := List.mem_map.1 hu
      rfl
    · intro v' w' h1 hg _ _
      have h2 : w'.ownsRow base 5 1 v' (os ++ xs).length ((os ++ xs).map mB) := by rw [List.length_append, List.map_append]; exact h1
      obtain ⟨oa, oc, rfl⟩ := own_is h2
      exact h _ w' ((Below.refl _ _).grown hg hbase (fun k hk => (hown.lt k hk).1)) h2 rfl
theorem own_rdB {base n : Nat} {w : World} {v : Value} {xs : List Int} (h : w.ownsRow base 5 1 v n (xs.map mB)) (hn : n ≤ maxLen) : SlAt mB 0 0 w.heap.size w v xs := by
  have hlen := h.1
  rw [List.length_map, Nat.mul_one] at hlen
  rcases h.2 with ⟨rfl, hz⟩ | ⟨g, cap, cur, rfl, hbg, hg, hnc, hcm, hcs, htake⟩
  · exact ⟨none, 0, by rw [hlen, hz], by omega, fun hp => by omega⟩
  · refine ⟨_, cap, by rw [hlen], by omega, fun hp => ⟨g, 0, rfl, Nat.zero_le _, (h.lt g rfl).2, fun i hi => ?_⟩⟩
    rw [Nat.zero_add, h.cellAt i (by omega), List.getElem?_map, getD_of_lt hi]
    rfl
theorem lit_one {w : World} {x : Int} : SlAt mB 0 0 (w.alloc (.cells #[.int .u8 x] 5)).heap.size (w.alloc (.cells #[.int .u8 x] 5)) (.slice (some ⟨w.heap.size, 0, none⟩) 1 1) [x] :=
  own_rdB (base := w.heap.size) (n := 1) (World.ownsRow_lit w #[.int .u8 x] 1 (Nat.le_refl _) (by unfold maxLen; omega) rfl) (by unfold maxLen; omega)
theorem Cod.app {xs ys : List Int} (h : Cod xs) (k : Cod ys) : Cod (xs ++ ys) := fun x hx => by
  rcases List.mem_append.1 hx with q | q
  · exact h x q
  · exact k x q
theorem own_some {base n e : Nat} {w : World} {v : Value} {xs : List Value} (h : w.ownsRow base e 1 v n xs) (hp : 0 < n) : ∃ g cap, v = .slice (some ⟨g, 0, none⟩) n cap ∧ base ≤ g := by
  rcases h.2 with ⟨rfl, hz⟩ | ⟨g, cap, cur, rfl, hbg, hg, hnc, hcm, hcs, htake⟩
  · omega
  · exact ⟨g, cap, rfl, hbg⟩
def SmpF (N D : Nat) (R : List Int × List Int) (w : World) (e : Ending) (w' : World) : Prop := ∃ v, e = .returned v ∧ w'.ownsRow w.heap.size 5 1 v R.1.length (R.1.map mB) ∧ CdAt N D w' R.2 ∧ Mv w.heap.size D w w'
theorem cod_nil : Cod [] := fun _ hx => absurd hx (List.not_mem_nil)
theorem cod_one {b : Int} (h0 : 0 ≤ b) (h1 : b ≤ 255) : Cod [b] := fun x hx => by rw [List.mem_singleton.1 hx]; exact ⟨h0, h1⟩
def jkF : Nat → List Int → List Int × List Int
  | 0, xs => ([], xs)
  | n + 1, xs => (dB (xs.headD 0) :: (jkF n xs.tail).1, (jkF n xs.tail).2)
theorem jkF_ok : ∀ (n : Nat) (xs : List Int), Cod xs → (jkF n xs).1.length = n ∧ Cod (jkF n xs).1 ∧ Cod (jkF n xs).2
  | 0, xs, h => ⟨rfl, cod_nil, h⟩
  | n + 1, xs, h => by
    have k := jkF_ok n xs.tail h.tail
    refine ⟨by show (_ :: _).length = _; rw [List.length_cons, k.1], fun x hx => ?_, k.2.2⟩
    rcases List.mem_cons.1 (show x ∈ dB (xs.headD 0) :: (jkF n xs.tail).1 from hx) with rfl | hx
    · exact dB_byte
    · exact k.2.1 x hx
def dJunk (xs : List Int) : List Int × List Int := jkF (xs.headD 0 % 6).toNat xs.tail
theorem dJunk_ok {xs : List Int} (h : Cod xs) : (dJunk xs).1.length ≤ 5 ∧ Cod (dJunk xs).1 ∧ Cod (dJunk xs).2 := by
  have := jkF_ok (xs.headD 0 % 6).toNat xs.tail h.tail
  exact ⟨by unfold dJunk; omega, this.2⟩
set_option maxHeartbeats 8000000 in
set_option maxRecDepth 100000 in
theorem l2junk_f (N D : Nat) (xs : List Int) (w : World) (h : CdAt N D w xs) (hx : Cod xs) (hD : D < w.heap.size) :
    Calls Tryz.prog 37 #[.pointer (some ⟨D, 0, none⟩)] w (SmpF N D (dJunk xs) w) := by
  have H := hide h
  have HX := hide hx
  have hh := hx.head
  obtain ⟨R, hR⟩ : ∃ R, dJunk xs = R := ⟨_, rfl⟩
  rw [hR]
  unfold dJunk at hR
  obtain ⟨y, hy⟩ : ∃ y, xs.headD 0 = y := ⟨_, rfl⟩
  rw [hy] at hh hR
  have HY := hide hy
  clear hy hx h
  obtain ⟨n, hn⟩ : ∃ n : Nat, (y % 6).toNat = n := ⟨_, rfl⟩
  rw [hn] at hR
  have hn6 : y % 6 = (n : Int) := by omega
  have hn5 : n ≤ 5 := by omega
  have HN := hide hn6
  have HR := hide hR
  clear hn hn6 hR
  go_enter Tryz.func37, Tryz.ntmps37
  go_wp2_with fail
  refine (next_any N D xs w (unhide H) (unhide HX)).mono ?_
  rintro e w1 ⟨he, hc1, ho1⟩
  rw [unhide HY] at he
  subst he
  have HC1 := hide hc1
  have HM1 := hide (ho1.mv w.heap.size)
  clear hc1 ho1
  go_wp2
  go_loopw [4, 5] (fun ov i wr => ∃ (m : Nat) (zs os : List Int), m ≤ n ∧ i = .int .i64 (m : Nat) ∧ Cod zs ∧ os.length = m ∧ (os ++ (jkF (n - m) zs).1 = R.1 ∧ (jkF (n - m) zs).2 = R.2) ∧ wr.ownsRow w.heap.size 5 1 ov m (os.map mB) ∧ CdAt N D wr zs ∧ Mv w.heap.size D w wr) (fun _ i _ => n - (intOf i).toNat)
  case atStart => exact ⟨0, xs.tail, [], Nat.zero_le _, rfl, (unhide HX).tail, rfl, ⟨by rw [← unhide HR]; rfl, by rw [← unhide HR]; rfl⟩, World.ownsRow_nil _ _ _ _, unhide HC1, unhide HM1⟩
  case round =>
    obtain ⟨m, zs, os, hm, rfl, hzs, hos, heq, hown, hcd, hmv⟩ := hrel
    have HO := hide hown
    have HCD := hide hcd
    have HMV := hide hmv
    have HZ := hide hzs
    have HOS := hide hos
    have hszr := hmv.size
    obtain ⟨oa, oc, rfl⟩ := own_is hown
    by_cases hlt : m < n
    · have hlt' : (m : Int) < y % 6 := by have := unhide HN; omega
      obtain ⟨q, hq⟩ : ∃ q, n - m = q + 1 := ⟨n - m - 1, by omega⟩
      have hq' : n - (m + 1) = q := by omega
      rw [hq, jkF] at heq
      have HQ := hide hq'
      have HE2 := hide heq
      have hdb := dB_byte (y := zs.headD 0)
      obtain ⟨b, hb⟩ : ∃ y, dB (zs.headD 0) = y := ⟨_, rfl⟩
      rw [hb] at hdb HE2
      have HY3 := hide hb
      clear hown hcd hmv hzs hos hb heq hq hq'
      go_wp2_with fail
      refine (l1drawByte_any N D zs wr (unhide HCD) (unhide HZ)).mono ?_
      rintro e w4 ⟨he, hc4, ho4⟩
      rw [unhide HY3] at he
      subst he
      have hz4 : wr.heap.size ≤ w4.heap.size := Nat.le_of_eq ho4.size.symm
      have HC4 := hide hc4
      have HM4 := hide ((unhide HMV).trans (ho4.mv w.heap.size))
      have HO4 := hide (own_mv (unhide HO) (ho4.mv wr.heap.size) (Nat.le_refl _) hD)
      clear hc4 ho4
      go_wp2_with (at_builtin; refine app_moreB rfl _ _ rfl w.heap.size _ rfl os (by rw [unhide HOS]; exact (unhide HO4).alloc _) (by rw [sz_alloc]; omega) _ rfl [b] (by exact lit_one) (by rw [unhide HOS]; simp; omega) ?_; intro v5 w5 hb5 ho5 hoc5)
      have hB5 : Below w.heap.size w4 w5 := (below1 w4 _).mono (by omega) |>.trans hb5
      have HC5 := hide ((unhide HC4).keep hB5 hD)
      have HM5 := hide ((unhide HM4).trans (Below.mv hB5 D))
      have HO5 := hide ho5
      have hl5 : (os ++ [b]).length = m + 1 := by simp [unhide HOS]
      rw [hl5] at HO5
      have HL5 := hide hl5
      clear ho5 hl5 hb5 hB5
      go_wp2
      refine ⟨⟨m + 1, zs.tail, os ++ [b], by omega, by go_num, (unhide HZ).tail, unhide HL5, ?_, unhide HO5, unhide HC5, unhide HM5⟩, by simp [intOf]; omega⟩
      rw [unhide HQ, List.append_assoc, List.singleton_append]
      exact unhide HE2
    · obtain rfl : m = n := by omega
      have hlt' : ¬ (m : Int) < y % 6 := by have := unhide HN; omega
      rw [Nat.sub_self, jkF, List.append_nil] at heq
      have HE2 := hide heq
      clear hown hcd hmv hzs hos heq
      go_wp2
      go_ret
      refine ⟨_, rfl, ?_, ?_, unhide HMV⟩
      · rw [← (unhide HE2).1, unhide HOS]; exact unhide HO
      · rw [← (unhide HE2).2]; exact unhide HCD
open Go.RowKit Go.Sort Go.Shelf
theorem below_grow (w : World) (os : Array Obj) : Below w.heap.size w (Sort.grow w os) := by
  refine ⟨rfl, rfl, rfl, by simp [Sort.grow], fun k hk => ?_⟩
  simp [Sort.grow, Array.getElem?_append_left hk]
theorem grown_put {w : World} {g nn q : Nat} {os : Array Obj} {d d' : Array Int} : w.grownBy (putRow mI (Sort.ahead (Sort.grow (putRow mI (Sort.ahead w nn) g 0 d) os) q) g 0 d') (some g) := by
  refine ⟨rfl, rfl, rfl, ?_, fun k hk hne => ?_⟩
  · simp [putRow, mapBlock, Sort.ahead, Sort.grow]
  · have e : g ≠ k := fun e => hne (by rw [e])
    simp [putRow, mapBlock, Sort.ahead, Sort.grow, Array.getElem?_modify, e]
    rw [Array.getElem?_append_left (by simpa using hk), Array.getElem?_modify, if_neg e]
theorem asc_left {w : World} {lo g cap nn q : Nat} {os : Array Obj} {zs : List Int} (hown : w.ownsRow lo 3 1 (.slice (some ⟨g, 0, none⟩) zs.length cap) zs.length (zs.map mI)) (hlo : lo ≤ w.heap.size) (hlg : lo ≤ g) :
    (putRow mI (Sort.ahead (Sort.grow (putRow mI (Sort.ahead w nn) g 0 (zs.mergeSort fun x y => decide (x ≤ y)).toArray) os) q) g 0 (Lib.compact (zs.mergeSort fun x y => decide (x ≤ y)) ++ List.replicate (zs.length - (Lib.compact (zs.mergeSort fun x y => decide (x ≤ y))).length) 0).toArray).ownsRow lo 3 1
      (.slice (some ⟨g, 0, none⟩) (Lib.compact (zs.mergeSort fun x y => decide (x ≤ y))).length cap) (Lib.compact (zs.mergeSort fun x y => decide (x ≤ y))).length ((Lib.compact (zs.mergeSort fun x y => decide (x ≤ y))).map mI) ∧
    Below lo w (putRow mI (Sort.ahead (Sort.grow (putRow mI (Sort.ahead w nn) g 0 (zs.mergeSort fun x y => decide (x ≤ y)).toArray) os) q) g 0 (Lib.compact (zs.mergeSort fun x y => decide (x ≤ y)) ++ List.replicate (zs.length - (Lib.compact (zs.mergeSort fun x y => decide (x ≤ y))).length) 0).toArray) := by
  have hl2 : (zs.mergeSort fun x y => decide (x ≤ y)).length = zs.length := List.length_mergeSort zs
  have hle := Lib.compact_length_le (zs.mergeSort fun x y => decide (x ≤ y))
  generalize (zs.mergeSort fun x y => decide (x ≤ y)) = ss at *
  have h1 := Lib.ownsRow_putRow (q := nn) (k := zs.length) (ys := ss) hown hl2 (Nat.le_refl _)
  rw [List.take_of_length_le (by omega)] at h1
  have h2 := own_keep h1 (below_grow _ os) (Nat.le_refl _)
  have h3 := Lib.ownsRow_putRow (q := q) (k := (Lib.compact ss).length) (ys := Lib.compact ss ++ List.replicate (zs.length - (Lib.compact ss).length) 0) h2 (by simp; omega) (by omega)
  rw [List.take_left] at h3
  refine ⟨h3, Lib.below_putRow ?_ hlg⟩
  have b1 : Below lo w (putRow mI (Sort.ahead w nn) g 0 ss.toArray) := Lib.below_putRow (Below.refl _ _) hlg
  exact b1.trans ((below_grow _ os).mono (by have := b1.size; omega))
set_option maxHeartbeats 2000000 in
set_option maxRecDepth 100000 in
theorem ascending_any (lo : Nat) (v : Value) (xs : List Int) (w : World) (h : w.ownsRow lo 3 1 v xs.length (xs.map mI)) (hlo : lo ≤ w.heap.size) (hlen : xs.length ≤ 4611686018427387903) :
    Calls Tryz.prog 19 #[v] w fun e w' => ∃ v' ys, e = .returned v' ∧ Ord xs ys ∧ ys.length ≤ xs.length ∧ w'.ownsRow lo 3 1 v' ys.length (ys.map mI) ∧ Below lo w w' ∧ w.grownBy w' v.ownBlock := by
  by_cases hnil : v = .slice none 0 0
  · subst hnil
    have h0 : xs = [] := by
      rcases h.2 with ⟨_, hz⟩ | ⟨g, cap, cur, e, -⟩
      · exact List.eq_nil_of_length_eq_zero hz
      · cases e
    subst h0
    go_enter Tryz.func19, Tryz.ntmps19
    go_wp2_with (first
      | (go_at_call 52; refine (Any.slices_Sort_int_none Tryz.laysSort none 0 _).mono ?_; rintro e w1 ⟨rfl, rfl⟩)
      | (go_at_call 53; refine (Any.slices_Compact_int_empty Tryz.laysCompact none 0 _).mono ?_; rintro e w1 ⟨rfl, rfl⟩))
    go_ret
    exact ⟨_, [], rfl, Ord.nil, Nat.le_refl _, h, Below.refl _ _, ⟨rfl, rfl, rfl, Nat.le_refl _, fun _ _ _ => rfl⟩⟩
  · obtain ⟨g, cap, rfl, hlg, hgl, hncap, hcm, hl, hH⟩ := Lib.holds_of_ownsRow h hnil
    have hcomp : ∀ W : World, Holds mI W g 0 (xs.mergeSort fun x y => decide (x ≤ y)).toArray → Calls Tryz.prog 53 #[.slice (some ⟨g, 0, none⟩) xs.length cap] W fun e w' => e = .returned (.slice (some ⟨g, 0, none⟩) (Lib.compact (xs.mergeSort fun x y => decide (x ≤ y))).length cap) ∧ ∃ q, w' = putRow mI (Sort.ahead W q) g 0 (Lib.compact (xs.mergeSort fun x y => decide (x ≤ y)) ++ List.replicate (xs.length - (Lib.compact (xs.mergeSort fun x y => decide (x ≤ y))).length) 0).toArray := by
      intro W hW
      have hl2 : (xs.mergeSort fun x y => decide (x ≤ y)).length = xs.length := List.length_mergeSort xs
      have hc := Any.slices_Compact_int Tryz.laysCompact g 0 cap (xs.mergeSort fun x y => decide (x ≤ y)) W hW (by omega) (by omega)
      rw [hl2] at hc
      exact hc
    have hH2 : ∀ (nn : Nat) (os : Array Obj), Holds mI (Sort.grow (putRow mI (Sort.ahead w nn) g 0 (xs.mergeSort fun x y => decide (x ≤ y)).toArray) os) g 0 (xs.mergeSort fun x y => decide (x ≤ y)).toArray := by
      intro nn os
      have hl2 : (xs.mergeSort fun x y => decide (x ≤ y)).length = xs.length := List.length_mergeSort xs
      exact holds_grow mI _ os g 0 _ (by simpa [putRow, mapBlock, Sort.ahead] using hgl) (holds_putRow mI _ g 0 _ _ (holds_ahead mI w nn g 0 _ hH) (by simp))
    have HH := hide hH
    have HH2 := hide hH2
    have Hown := hide h
    have Hcomp := hide hcomp
    clear hH hH2 h hcomp
    go_enter Tryz.func19, Tryz.ntmps19
    go_wp2_with fail
    refine (Any.slices_Sort_int Tryz.laysSort g 0 cap xs w (unhide HH) hgl (by omega)).mono ?_
    rintro e w1 ⟨rfl, nn, os, rfl⟩
    go_wp2_with fail
    refine (unhide Hcomp _ (unhide HH2 nn os)).mono ?_
    rintro e w1 ⟨rfl, q, rfl⟩
    have hfin := hide (asc_left (nn := nn) (q := q) (os := os) (unhide Hown) hlo hlg)
    have hl2 : (xs.mergeSort fun x y => decide (x ≤ y)).length = xs.length := List.length_mergeSort xs
    have hle := Lib.compact_length_le (xs.mergeSort fun x y => decide (x ≤ y))
    have Hord := hide (ord_compact xs)
    go_wp2_with fail
    go_ret
    exact ⟨_, _, rfl, unhide Hord, by omega, (unhide hfin).1, (unhide hfin).2, grown_put⟩
open Go.RowKit Go.Shelf
attribute [local go_sem] Oper.semAt_some
def KpX (n Bs : Nat) (W W' : World) : Prop := Below n W W' ∧ ∀ v, Boxed W Bs 22 v → Boxed W' Bs 22 v
theorem KpX.trans {n Bs : Nat} {A B C : World} (h : KpX n Bs A B) (k : KpX n Bs B C) : KpX n Bs A C := ⟨h.1.trans k.1, fun v hv => k.2 v (h.2 v hv)⟩
theorem KpX.putObj {n Bs : Nat} {w : World} (hn : n ≤ w.heap.size) (W : World) (l : Nat) (o o' : Obj) (hl : w.heap.size ≤ l) (h : W.heap[l]? = some o) (hc : o.isCells = false) (hw : o.isWalk = false) : KpX n Bs W (W.putObj l o') :=
  ⟨belowK_b hn W l o o' hl h hc hw, fun v hv => hv.kept (grownBy_putObj' W l o') (fun e => by
    cases e
    rw [show W.heap[Bs]? = _ from hv] at h
    cases h
    cases hc)⟩
theorem tri_same (x y z : Int) : (x * 256 + y) * 256 + z = x * 65536 + y * 256 + z := by omega
set_option maxRecDepth 100000 in
set_option maxHeartbeats 2000000 in
theorem pieces1_in (n : Nat) (hn : 1 ≤ n) (l Bs n₀ cap : Nat) (a : Option Addr) (bs : List Int) (hlen : bs.length ≤ 1048576) (hbb : ∀ i : Nat, 0 ≤ bs[i]?.getD 0 ∧ bs[i]?.getD 0 ≤ 255) (J Jx : List Int → World → Prop) (hJd : ∀ pre W q, J pre W → J pre (W.drewN q))
    (hY : ∀ pre x W, J pre W → pre.length < bs.length → YieldAt Fence.wide (n - 1) Tryz.prog l #[.int .i64 x] W fun e W' =>
      (e = .returned (.bool true) ∧ J (pre ++ [x]) W' ∧ KpX n₀ Bs W W') ∨ (e = .returned (.bool false) ∧ Jx (pre ++ [x]) W'))
    (W : World) (hBs : Boxed W Bs 22 (.slice a bs.length cap)) (hc : 0 < bs.length → ∃ b off, a = some ⟨b, off, none⟩ ∧ b < n₀ ∧ ∀ i : Nat, i < bs.length → W.cell? ⟨b, off + i, none⟩ = some (.int .u8 (bs[i]?.getD 0))) (h0 : J [] W) :
    CallsIn Fence.wide n Tryz.prog 90 #[.func (.yield l) #[] #[], .pointer (some ⟨Bs, 0, none⟩)] W fun e W' => (∃ v, e = .returned v) ∧
      ((∃ ys, ys = tris bs (bs.length - 2) ∧ J ys W') ∨ (∃ pre, (∃ k, pre = tris bs k) ∧ Jx pre W')) := by
  have hcB := hBs.cell
  refine callsIn_of_wp Tryz.func90 rfl trivial ?_ rfl
  simp only [Tryz.ntmps90, List.size_toArray, List.length_cons, List.length_nil, Nat.reduceAdd, Nat.reduceSub, Array.replicate_succ, Array.replicate_zero, List.push_toArray, List.append_toArray, List.nil_append, List.cons_append]
  gi_wp2
  gi_loopw [11] (fun i wr => ∃ k : Nat, k ≤ bs.length - 2 ∧ i = .int .i64 k ∧ J (tris bs k) wr ∧ KpX n₀ Bs W wr) (fun i _ => bs.length - (intOf i).toNat)
  case atStart => exact ⟨0, Nat.zero_le _, rfl, h0, Below.refl _ _, fun _ h => h⟩
  case round =>
    obtain ⟨k, hk, rfl, hJs, hkp⟩ := hrel
    have hcB := (hkp.2 _ hBs).cell
    by_cases hlt : k + 2 < bs.length
    · have hlt2 : (k : Int) < (bs.length : Int) - 3 + 1 := by omega
      have hlt' : (k : Int) + 2 < (bs.length : Int) := by omega
      have hlt1 : (k : Int) + 1 < (bs.length : Int) := by omega
      have hlt0 : (k : Int) < (bs.length : Int) := by omega
      have hp1 : (0 : Int) ≤ (k : Int) + 1 := by omega
      have hp2 : (0 : Int) ≤ (k : Int) + 2 := by omega
      obtain ⟨b, off, rfl, hbn, hcell⟩ := hc (by omega)
      have hx0 : wr.cell? ⟨b, off + k, none⟩ = some (.int .u8 (bs[k]?.getD 0)) := by rw [hkp.1.cell (p := ⟨b, off + k, none⟩) hbn]; exact hcell k (by omega)
      have hx1 : wr.cell? ⟨b, off + (k + 1), none⟩ = some (.int .u8 (bs[k + 1]?.getD 0)) := by rw [hkp.1.cell (p := ⟨b, off + (k + 1), none⟩) hbn]; exact hcell (k + 1) (by omega)
      have hx2 : wr.cell? ⟨b, off + (k + 2), none⟩ = some (.int .u8 (bs[k + 2]?.getD 0)) := by rw [hkp.1.cell (p := ⟨b, off + (k + 2), none⟩) hbn]; exact hcell (k + 2) (by omega)
      have q0 := hbb k
      have q1 := hbb (k + 1)
      have q2 := hbb (k + 2)
      have HT : Hid (tri3 bs k = bs[k]?.getD 0 * 65536 + bs[k + 1]?.getD 0 * 256 + bs[k + 2]?.getD 0) := rfl
      have Hc := hide hc
      have Hbb := hide hbb
      clear hcell hc hbb
      generalize bs[k]?.getD 0 = x0 at *
      generalize bs[k + 1]?.getD 0 = x1 at *
      generalize bs[k + 2]?.getD 0 = x2 at *
      have HY := hide hY
      have HJ := hide hJs
      have HJd := hide hJd
      clear hY hJs hJd
      have g0 : (x0 == 256) = false := by simp; omega
      have g1 : (x1 == 256) = false := by simp; omega
      have g2 : (x2 == 256) = false := by simp; omega
      have k1 : IntKind.i64.wrap ((k : Int) + 2) = (k : Int) + 2 := k64i (by omega) (by omega)
      have k2 : IntKind.i64.wrap ((k : Int) + 1) = (k : Int) + 1 := k64i (by omega) (by omega)
      have k3 : IntKind.i64.wrap x0 = x0 := k64i (by omega) (by omega)
      have k4 : IntKind.i64.wrap x1 = x1 := k64i (by omega) (by omega)
      have k5 : IntKind.i64.wrap x2 = x2 := k64i (by omega) (by omega)
      gi_wp2_with fail
      gi_quiet (fail)
      have hkd : KpX n₀ Bs W (wr.drewN nq) := ⟨below_drewN hkp.1 nq, fun v hv => hkp.2 v hv⟩
      have hJw := hide (unhide HJd _ _ nq (unhide HJ))
      clear hcB hx0 hx1 hx2
      generalize wr.drewN nq = wd at *
      obtain ⟨fn, tmps, assign, body, hy, hR⟩ := unhide HY (tris bs k) ((x0 * 256 + x1) * 256 + x2) wd (unhide hJw) (by rw [tris_len]; omega)
      gi_wp2_with fail
      refine hR.mono ?_
      rintro e W3 (⟨rfl, hJ3, hk3⟩ | ⟨rfl, hJx3⟩)
      · have HJ3 := hide hJ3
        clear hJ3 hR hy
        gi_wp2
        go_roundw
        case rel => exact ⟨k + 1, by omega, by go_num, by rw [tris_succ, unhide HT, ← tri_same]; exact unhide HJ3, hkd.trans hk3⟩
        case measure => simp [intOf]; omega
      · have HJ3 := hide hJx3
        clear hJx3 hR hy
        gi_wp2
        refine bodyPost_ret (results_none rfl _ _ _) rfl ?_
        exact ⟨⟨_, rfl⟩, .inr ⟨_, ⟨k + 1, by rw [tris_succ, unhide HT, ← tri_same]⟩, unhide HJ3⟩⟩
    · have hlt2 : ¬ (k : Int) < (bs.length : Int) - 3 + 1 := by omega
      have hz : Hid (k = bs.length - 2) := by show k = bs.length - 2; omega
      gi_wp2
      go_end0
      exact ⟨⟨_, rfl⟩, .inl (by rw [← unhide hz]; exact hJs)⟩
set_option maxHeartbeats 1000000 in
theorem pieces_in (n : Nat) (sv : Value) (hone : sv.oneCell' = true) (w : World) :
    CallsIn Fence.wide n Tryz.prog 54 #[sv] w fun e w' => e = .returned (.func (.func 90) #[] #[.pointer (some ⟨w.heap.size, 0, none⟩)]) ∧ w' = w.alloc (.cells #[sv] 22) := by
  refine callsIn_of_wp Tryz.func54 rfl trivial ?_ rfl
  simp only [Tryz.ntmps54, List.size_toArray, List.length_cons, List.length_nil, Nat.reduceAdd, Nat.reduceSub, Array.replicate_succ, Array.replicate_zero, List.push_toArray, List.append_toArray, List.nil_append, List.cons_append]
  gi_wp2
  go_ret
  exact ⟨rfl, rfl⟩
theorem pieces_stops (n : Nat) (hn : 1 ≤ n) (Bs n₀ cap : Nat) (a : Option Addr) (bs : List Int) (hlen : bs.length ≤ 1048576) (hbb : ∀ i : Nat, 0 ≤ bs[i]?.getD 0 ∧ bs[i]?.getD 0 ≤ 255) (w : World) (hBs : Boxed w Bs 22 (.slice a bs.length cap)) (hn₀ : n₀ ≤ w.heap.size)
    (hc : 0 < bs.length → ∃ b off, a = some ⟨b, off, none⟩ ∧ b < n₀ ∧ ∀ i : Nat, i < bs.length → w.cell? ⟨b, off + i, none⟩ = some (.int .u8 (bs[i]?.getD 0))) :
    SeqStopsK Fence.wide n Tryz.prog 90 #[.pointer (some ⟨Bs, 0, none⟩)] (fun x : Int => #[Value.int .i64 x]) (KpX n₀ Bs) (fun ys => ys = tris bs (bs.length - 2)) (fun pre => ∃ k, pre = tris bs k) bs.length w := fun l J Jx W hW hJ _ hY h0 =>
  pieces1_in n hn l Bs n₀ cap a bs hlen hbb J Jx (fun pre V q hp => hJ pre V _ none hp ⟨rfl, rfl, rfl, Nat.le_refl _, fun _ _ _ => rfl⟩ (fun r e => by cases e)) hY W ((hW.block Bs hBs.lt).trans hBs)
    (fun hp => by
      obtain ⟨b, off, e, h1, h2⟩ := hc hp
      exact ⟨b, off, e, h1, fun i hi => (hW.cell (p := ⟨b, off + i, none⟩) (by show b < w.heap.size; omega)).trans (h2 i hi)⟩) h0
end Go.Proofs.YtinhliecfjlocaaGreat
