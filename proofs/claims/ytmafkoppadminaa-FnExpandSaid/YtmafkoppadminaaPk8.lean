import Derived.Test.YtmafkoppadminaaPk5
import Derived.Test.YtmafkoppadminaaC5
import Derived.Test.YtmafkoppadminaaM1
import Derived.Test.YtmafkoppadminaaW2
import Derived.Test.YtmafkoppadminaaPk3
import Derived.Laws.CopyOwn
import Derived.Laws.CopyRow
namespace Go.Proofs.Ytmafkoppadminaa
open Go.RowKit
def lvs : List El → Nat
  | [] => 0
  | x :: r => (if x.kind = 1 then 1 else 0) + lvs r
theorem oPush_c (s : Ms) (x : El) : (oPush s x).c = s.c + (if x.kind = 1 then 1 else 0) := by
  unfold oPush
  split
  · rw [if_neg (by omega)]; rfl
  · split
    · rfl
    · split <;> (try split) <;> (try split) <;> simp
theorem oRun_c (L : List El) : ∀ s : Ms, (oRun s L).c = s.c + lvs L := by
  induction L with
  | nil => intro s; simp [oRun, lvs]
  | cons x r ih => intro s; simp only [oRun, lvs, ih, oPush_c]; omega
theorem SegO.n {L : List El} {n : Nat} {a : It} {ln : List Lk} {ss : List (List Int)} (h : SegO L n a ln ss) : n = lvs L := by
  have h1 := congrArg Ms.c (h ⟨0, [], [], []⟩)
  have h2 := oRun_c L ⟨0, [], [], []⟩
  simp only at h1 h2
  omega
def Bdd (a : It) (n : Nat) : Prop := (∀ i ∈ a.fi, i < n) ∧ ∀ i ∈ a.la, i < n
theorem Bdd.sh {a : It} {n : Nat} (h : Bdd a n) (c : Nat) : Bdd (a.sh c) (c + n) := by
  refine ⟨fun i hi => ?_, fun i hi => ?_⟩
  · obtain ⟨j, hj, rfl⟩ := List.mem_map.1 hi; have := h.1 j hj; omega
  · obtain ⟨j, hj, rfl⟩ := List.mem_map.1 hi; have := h.2 j hj; omega
theorem Bdd.mono {a : It} {n m : Nat} (h : Bdd a n) (hm : n ≤ m) : Bdd a m := ⟨fun i hi => Nat.lt_of_lt_of_le (h.1 i hi) hm, fun i hi => Nat.lt_of_lt_of_le (h.2 i hi) hm⟩
theorem Bdd.cat {a b : It} {n : Nat} (h : Bdd a n) (k : Bdd b n) : Bdd (itCat a b) n := by
  refine ⟨fun i hi => ?_, fun i hi => ?_⟩
  · rcases List.mem_append.1 hi with hi | hi
    · exact h.1 i hi
    · split at hi
      · exact k.1 i hi
      · cases hi
  · rcases List.mem_append.1 hi with hi | hi
    · split at hi
      · exact h.2 i hi
      · cases hi
    · exact k.2 i hi
theorem Bdd.alt {a b : It} {n : Nat} (h : Bdd a n) (k : Bdd b n) : Bdd (itAlt a b) n := ⟨fun i hi => (List.mem_append.1 hi).elim (h.1 i) (k.1 i), fun i hi => (List.mem_append.1 hi).elim (h.2 i) (k.2 i)⟩
theorem Try.zinBoolM : (Try.prog.info? 4).map (fun i => (i.zero, i.size, i.bytes)) = some (some (.bool false), 1, 1) := by kernel_rfl
abbrev vB (b n : Nat) : Value := .slice (some ⟨b, 0, none⟩) (n + 1) (n + 1)
def BR (w : World) (n b : Nat) (F : Nat → Bool) : Prop := w.rowIs b 4 (n + 1) (fun j => .bool (F j))
theorem BR.keep {w w' : World} {n b : Nat} {F : Nat → Bool} (h : BR w n b F) (e : w'.heap[b]? = w.heap[b]?) : BR w' n b F := World.rowIs.of_block h e
theorem BR.lt {w : World} {n b : Nat} {F : Nat → Bool} (h : BR w n b F) : b < w.heap.size := by
  obtain ⟨c, hc, -⟩ := h
  exact (Array.getElem?_eq_some_iff.1 hc).1
theorem BR.below {w w' : World} {n b m : Nat} {F : Nat → Bool} (h : BR w n b F) (hb : Below m w w') (hm : w.heap.size ≤ m) : BR w' n b F := h.keep (hb.block b (Nat.lt_of_lt_of_le h.lt hm))
theorem BR.same {w : World} {n b : Nat} {F G : Nat → Bool} (h : BR w n b F) (e : ∀ j, j ≤ n → F j = G j) : BR w n b G := World.rowIs.congr h (fun j hj => by rw [e j (by omega)])
theorem br_made (w : World) (n : Nat) : BR (w.alloc (.cells (madeCells #[.bool false] (n + 1)) 4)) n w.heap.size (fun _ => false) := World.rowIs_made w (.bool false) (n + 1) 4
theorem copy_bools (w : World) (n g s : Nat) (F H : Nat → Bool) (hg : BR w n g F) (hs : BR w n s H) :
    ∃ w' : World, (∀ ty, Sem.run Try.prog (Builtin.copy_ #[66, 66] ty #[vB g n, vB s n]) w = .ok (goInt (n + 1)) w') ∧ BR w' n g H ∧ Obk g w w' := by
  obtain ⟨c, hc, hcs, -⟩ := hg
  have hlen : ((List.range (n + 1)).map (fun j => Value.bool (H j))).length = n + 1 := by simp
  have hsz : (Try.prog.info? 4).map (·.size) = some 1 := by
    have := congrArg (Option.map (fun x : Option Value × Nat × Nat => x.2.1)) Try.zinBoolM
    rw [Option.map_map] at this
    exact this
  have hr : ∀ ty, Sem.run Try.prog (Builtin.copy_ #[66, 66] ty #[vB g n, vB s n]) w = _ := fun ty => run_copy_row (P := Try.prog) w 66 66 ty 4 g 0 (n + 1) (n + 1) ⟨s, 0, none⟩ (n + 1) (n + 1) c 4 ((List.range (n + 1)).map (fun j => Value.bool (H j))) Try.underlying66 hsz hc (by rw [hlen]; simp) (fun j v hv => by
    rw [List.getElem?_map] at hv
    by_cases e : j < n + 1
    · rw [List.getElem?_range e] at hv
      simp only [Option.map_some, Option.some.injEq] at hv
      subst hv
      have e3 : (⟨s, 0, none⟩ : Addr).add j = ⟨s, j, none⟩ := by cases j <;> simp [Addr.add]
      rw [e3]
      exact World.rowIs.cell hs e
    · rw [List.getElem?_eq_none (by simpa using e)] at hv
      cases hv) (by rw [hlen]; omega) (fun v hv => by
    obtain ⟨j, -, rfl⟩ := List.mem_map.1 hv
    rfl)
  rw [hlen] at hr
  refine ⟨_, hr, ?_, ⟨rfl, rfl, rfl, by simp [World.setRow], fun k hk => setRow_other w g k _ hk⟩⟩
  refine ⟨_, setRow_heap w g _ _ _ _ hc, by simp; omega, fun i hi => ?_⟩
  simp only [List.take_zero, List.nil_append, Nat.zero_add]
  rw [List.getElem?_toArray, List.getElem?_append_left (by rw [hlen]; exact hi), List.getElem?_map, List.getElem?_range hi]
  rfl
theorem obk_bel {g m : Nat} {a b : World} (h : Obk g a b) (hm : m ≤ g) : Below m a b := ⟨h.os, h.tape, h.output, by rw [h.size]; exact Nat.le_refl _, fun k hk => h.block k (by omega)⟩
abbrev OneO (w : World) (A : Nat) : Nat → Prop := fun k => k = A ∨ w.heap.size ≤ k
set_option maxHeartbeats 4000000 in
set_option maxRecDepth 100000 in
theorem l2more_any (n A B : Nat) (F H : Nat → Bool) (w : World) (hA : BR w n A F) (hB : BR w n B H) (hne : A ≠ B) (hn : n ≤ 100000) :
    Calls Try.prog 49 #[vB A n, vB B n] w fun e w' => ∃ b, e = .returned (.tuple #[vB w.heap.size n, .bool b]) ∧ BR w' n A (fun j => F j || H j) ∧ BR w' n w.heap.size (fun j => H j && !F j) ∧ (b = true ↔ ∃ j, j ≤ n ∧ H j = true ∧ F j = false) ∧ FrO (OneO w A) w w' := by
  have hmk := run_make_row' (P := Try.prog) 66 4 (.bool false) 1 Try.underlying66 Try.zinBoolM rfl .i64 .i64 (n + 1) (by omega) (by omega)
  simp only [Int.natCast_add, Int.natCast_one] at hmk
  have hAl := hA.lt
  have hBl := hB.lt
  have h0 := br_made w n
  have hb0 := below1 w (.cells (madeCells #[.bool false] (n + 1)) 4)
  have hA0 := hA.below hb0 (Nat.le_refl _)
  have hB0 := hB.below hb0 (Nat.le_refl _)
  have hF0 : FrO (OneO w A) w (w.alloc (.cells (madeCells #[.bool false] (n + 1)) 4)) := fro_of hb0 (fun k hk => Or.inr hk)
  have Hh0 := hide h0
  have HA0 := hide hA0
  have HB0 := hide hB0
  have HF0 := hide hF0
  clear h0 hb0 hA0 hB0 hF0 hA hB
  go_enter Try.func49, Try.ntmps49
  go_wp2_with fail
  go_loopw [7, 8] (fun sv iv wr => ∃ (i : Nat) (b : Bool), i ≤ n + 1 ∧ iv = .int .i64 i ∧ sv = .bool b ∧ (b = true ↔ ∃ j, j < i ∧ H j = true ∧ F j = false) ∧ BR wr n A (fun j => F j || (decide (j < i) && H j)) ∧ BR wr n w.heap.size (fun j => decide (j < i) && (H j && !F j)) ∧ BR wr n B H ∧ FrO (OneO w A) w wr) (fun _ iv _ => n + 1 - (intOf iv).toNat)
  case atStart => exact ⟨0, false, Nat.zero_le _, rfl, rfl, ⟨fun h => (by cases h), fun ⟨j, hj, _⟩ => absurd hj (Nat.not_lt_zero _)⟩, (unhide HA0).same (fun j _ => by simp), (unhide Hh0).same (fun j _ => by simp), unhide HB0, unhide HF0⟩
  case round =>
    clear Hh0 HA0 HB0 HF0 hmk
    obtain ⟨i, b, hi, rfl, rfl, hb, hA, hG, hB, hF⟩ := hrel
    have HA := hide hA
    have HG := hide hG
    have HB := hide hB
    have HF := hide hF
    have Hb := hide hb
    by_cases hlt : i < n + 1
    · have hlt' : (i : Int) < ((n + 1 : Nat) : Int) := by omega
      have hlt2 : (i : Int) < (n : Int) + 1 := by omega
      have c1 := World.rowIs.cell hB hlt
      have c2 := World.rowIs.cell hA hlt
      simp only [Nat.lt_irrefl, decide_false, Bool.false_and, Bool.or_false] at c2
      have c3 := World.rowIs.cell hG hlt
      have f2 := World.rowIs.frozen hA i
      have f3 := World.rowIs.frozen hG i
      have c3' := fun v : Value => put_other (w := wr) (b := A) (o := i) (b' := w.heap.size) (o' := i) (v := v) (Or.inl (by omega))
      have f3' : ∀ v : Value, (wr.setCell ⟨A, i, none⟩ v).frozen? ⟨w.heap.size, i, none⟩ = false := fun v => (World.rowIs.setOther hG (by show w.heap.size ≠ A; omega) v).frozen i
      clear hA hG hB hF hb
      cases hHi : H i with
      | false =>
        rw [hHi] at c1
        have HHi := hide hHi
        clear hHi
        go_wp2
        go_roundw
        case rel =>
          refine ⟨i + 1, b, by omega, by go_num, rfl, ?_, (unhide HA).same (fun j hj => ?_), (unhide HG).same (fun j hj => ?_), unhide HB, unhide HF⟩
          · rw [unhide Hb]
            constructor
            · rintro ⟨j, hj, h⟩; exact ⟨j, by omega, h⟩
            · rintro ⟨j, hj, h⟩
              refine ⟨j, ?_, h⟩
              by_cases e : j = i
              · subst e; rw [unhide HHi] at h; exact absurd h.1 (by decide)
              · omega
          · by_cases e : j = i
            · subst e; simp [unhide HHi]
            · have : (j < i + 1) ↔ (j < i) := by omega
              simp [this]
          · by_cases e : j = i
            · subst e; simp [unhide HHi]
            · have : (j < i + 1) ↔ (j < i) := by omega
              simp [this]
        case measure => simp [intOf]; omega
      | true =>
        rw [hHi] at c1
        have HHi := hide hHi
        clear hHi
        cases hFi : F i with
        | true =>
          rw [hFi] at c2
          have HFi := hide hFi
          clear hFi
          go_wp2
          go_roundw
          case rel =>
            refine ⟨i + 1, b, by omega, by go_num, rfl, ?_, (unhide HA).same (fun j hj => ?_), (unhide HG).same (fun j hj => ?_), unhide HB, unhide HF⟩
            · rw [unhide Hb]
              constructor
              · rintro ⟨j, hj, h⟩; exact ⟨j, by omega, h⟩
              · rintro ⟨j, hj, h⟩
                refine ⟨j, ?_, h⟩
                by_cases e : j = i
                · subst e; rw [unhide HFi] at h; exact absurd h.2 (by decide)
                · omega
            · by_cases e : j = i
              · subst e; simp [unhide HFi]
              · have : (j < i + 1) ↔ (j < i) := by omega
                simp [this]
            · by_cases e : j = i
              · subst e; simp [unhide HFi]
              · have : (j < i + 1) ↔ (j < i) := by omega
                simp [this]
          case measure => simp [intOf]; omega
        | false =>
          rw [hFi] at c2
          have HFi := hide hFi
          clear hFi
          go_wp2
          go_roundw
          case rel =>
            refine ⟨i + 1, true, by omega, by go_num, rfl, ⟨fun _ => ⟨i, by omega, unhide HHi, unhide HFi⟩, fun _ => rfl⟩, ?_, ?_, ?_, ?_⟩
            · refine World.rowIs.congr (World.rowIs.setOther (World.rowIs.set (unhide HA) i (.bool true)) (by show A ≠ w.heap.size; omega) _) (fun j hj => ?_)
              by_cases e : j = i
              · subst e; simp [unhide HHi]
              · have : (j < i + 1) ↔ (j < i) := by omega
                simp [e, this]
            · refine World.rowIs.congr (World.rowIs.set (World.rowIs.setOther (unhide HG) (by show w.heap.size ≠ A; omega) _) i (.bool true)) (fun j hj => ?_)
              by_cases e : j = i
              · subst e; simp [unhide HHi, unhide HFi]
              · have : (j < i + 1) ↔ (j < i) := by omega
                simp [e, this]
            · exact World.rowIs.setOther (World.rowIs.setOther (unhide HB) (by show B ≠ A; omega) _) (by show B ≠ w.heap.size; omega) _
            · exact ((unhide HF).trans ((obk_put i _).fro (Or.inl rfl))).trans ((obk_put i _).fro (Or.inr (Nat.le_refl _)))
          case measure => simp [intOf]; omega
    · have e : i = n + 1 := by omega
      subst e
      clear hA hG hB hF hb
      go_wp2
      go_ret2
      refine ⟨b, rfl, (unhide HA).same (fun j hj => by simp [show j < n + 1 by omega]), (unhide HG).same (fun j hj => by simp [show j < n + 1 by omega]), ?_, unhide HF⟩
      rw [unhide Hb]
      exact ⟨fun ⟨j, h1, h2⟩ => ⟨j, by omega, h2⟩, fun ⟨j, h1, h2⟩ => ⟨j, by omega, h2⟩⟩
end Go.Proofs.Ytmafkoppadminaa
