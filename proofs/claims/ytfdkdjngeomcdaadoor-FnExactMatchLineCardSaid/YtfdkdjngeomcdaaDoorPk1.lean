import Derived.Test.YtfdkdjngeomcdaaDoorP6
import Derived.Laws.CopyOwn
import Derived.Laws.CopyRow
import Derived.StillTail
import Derived.BigQuiet
import Derived.Test.YtfdkdjngeomcdaaDoorP4
namespace Go.Proofs.YtfdkdjngeomcdaaDoor
open Go.RowKit

/-- All but one block and what is new. -/
abbrev OneB (w : World) (b : Nat) : Nat → Prop := fun k => k = b ∨ w.heap.size ≤ k
/-- What a numbering answers to a key. -/
def NumR (ks : List Value) (v : Value) (ks' : List Value) (i : Nat) (f : Bool) : Prop := (v ∈ ks ∧ ks' = ks ∧ ks[i]? = some v ∧ f = false) ∨ (v ∉ ks ∧ ks' = ks ++ [v] ∧ i = ks.length ∧ f = true)
theorem NumR.at {ks ks' : List Value} {v : Value} {i : Nat} {f : Bool} (h : NumR ks v ks' i f) : ks'[i]? = some v := by
  rcases h with ⟨-, rfl, h, -⟩ | ⟨-, rfl, rfl, -⟩
  · exact h
  · simp

set_option maxHeartbeats 2000000 in
set_option maxRecDepth 100000 in
theorem newBs_any (w : World) : Calls Tryd.prog 27 #[] w fun e w' => e = .returned (.agg #[.map (some (w.heap.size + 1))]) ∧ NumAt 64 w' (w.heap.size + 1) [] ∧ w'.heap.size = w.heap.size + 2 ∧ Below w.heap.size w w' := by
  have hmm := @run_makeMap Tryd.prog
  have hN := num_new 64 (w.alloc (.cells #[.map (some (w.heap.size + 1))] 74))
  rw [sz_alloc] at hN
  have hB := below2 w (.cells #[.map (some (w.heap.size + 1))] 74) (.map #[] 0)
  have HN := hide hN
  have HB := hide hB
  clear hN hB
  go_enter Tryd.func27, Tryd.ntmps27
  go_wp2
  refine bodyPost_ret (v := .agg #[.map (some (w.heap.size + 1))]) (by simp [results, Tryd.results27, go_sem]) rfl ?_
  refine ⟨rfl, unhide HN, by rw [sz_alloc, sz_alloc], unhide HB⟩

set_option maxHeartbeats 4000000 in
set_option maxRecDepth 100000 in
theorem ofBs_any (b : Nat) (g : Nat → Nat) (ks : List Value) (w : World) (h : NumAt 64 w b ks) (hg : Fit g) (hn : ks.length < 100000) :
    Calls Tryd.prog 28 #[.agg #[.map (some b)], ws4 g] w fun e w' => ∃ i ks' f, e = .returned (.tuple #[.int .i64 (i : Nat), .bool f]) ∧ NumR ks (ws4 g) ks' i f ∧ NumAt 64 w' b ks' ∧ FrO (OneB w b) w w' := by
  have hB := below2 w (.cells #[.map (some b)] 74) (.cells #[.int .u64 (g 0 : Nat), .int .u64 (g 1 : Nat), .int .u64 (g 2 : Nat), .int .u64 (g 3 : Nat)] 64)
  have hlt := h.lt
  have hW := h.keep (hB.block b hlt)
  have hz : ((w.alloc (.cells #[.map (some b)] 74)).alloc (.cells #[.int .u64 (g 0 : Nat), .int .u64 (g 1 : Nat), .int .u64 (g 2 : Nat), .int .u64 (g 3 : Nat)] 64)).heap.size = w.heap.size + 2 := by rw [sz_alloc, sz_alloc]
  have HF0 : Hid (FrO (OneB w b) w ((w.alloc (.cells #[.map (some b)] 74)).alloc (.cells #[.int .u64 (g 0 : Nat), .int .u64 (g 1 : Nat), .int .u64 (g 2 : Nat), .int .u64 (g 3 : Nat)] 64))) := fro_of hB (fun k hk => Or.inr hk)
  rcases hW.look Tryd.lawBs Tryd.underlying72 (key_bs hg) with ⟨i, hi, hl⟩ | ⟨hno, hl⟩
  · have HW := hide hW
    have HI := hide hi
    clear hW hi h hB
    unfold ws4 at hl ⊢
    go_enter Tryd.func28, Tryd.ntmps28
    go_wp2
    go_ret2
    exact ⟨i, ks, false, rfl, Or.inl ⟨List.mem_of_getElem? (unhide HI), rfl, unhide HI, rfl⟩, unhide HW, unhide HF0⟩
  · have hln := fun ty => hW.len Tryd.underlying72 ty
    obtain ⟨w3, hput, hN3, hob⟩ := hW.put Tryd.lawBs Tryd.underlying72 hn (key_bs hg) hno
    have HN3 := hide hN3
    have HF3 := hide ((unhide HF0).trans (hob.fro (Or.inl rfl)))
    have HNO := hide hno
    clear hW hno h hB hN3 hob
    unfold ws4 at hl hput ⊢
    go_enter Tryd.func28, Tryd.ntmps28
    go_wp2
    go_ret2
    exact ⟨ks.length, ks ++ [ws4 g], true, rfl, Or.inr ⟨unhide HNO, rfl, rfl, rfl⟩, unhide HN3, unhide HF3⟩

set_option maxHeartbeats 2000000 in
set_option maxRecDepth 100000 in
theorem newPs_any (w : World) : Calls Tryd.prog 48 #[] w fun e w' => e = .returned (.agg #[.map (some (w.heap.size + 1))]) ∧ NumAt 78 w' (w.heap.size + 1) [] ∧ w'.heap.size = w.heap.size + 2 ∧ Below w.heap.size w w' := by
  have hmm := @run_makeMap Tryd.prog
  have hN := num_new 78 (w.alloc (.cells #[.map (some (w.heap.size + 1))] 111))
  rw [sz_alloc] at hN
  have hB := below2 w (.cells #[.map (some (w.heap.size + 1))] 111) (.map #[] 0)
  have HN := hide hN
  have HB := hide hB
  clear hN hB
  go_enter Tryd.func48, Tryd.ntmps48
  go_wp2
  refine bodyPost_ret (v := .agg #[.map (some (w.heap.size + 1))]) (by simp [results, Tryd.results48, go_sem]) rfl ?_
  refine ⟨rfl, unhide HN, by rw [sz_alloc, sz_alloc], unhide HB⟩

set_option maxHeartbeats 4000000 in
set_option maxRecDepth 100000 in
theorem ofPs_any (b : Nat) (g : Nat → Nat) (ks : List Value) (w : World) (h : NumAt 78 w b ks) (hg : Fit g) (hn : ks.length < 100000) :
    Calls Tryd.prog 50 #[.agg #[.map (some b)], ps8 g] w fun e w' => ∃ i ks' f, e = .returned (.tuple #[.int .i64 (i : Nat), .bool f]) ∧ NumR ks (ps8 g) ks' i f ∧ NumAt 78 w' b ks' ∧ FrO (OneB w b) w w' := by
  have hB := below2 w (.cells #[.map (some b)] 111) (.cells #[.int .u64 (g 0 : Nat), .int .u64 (g 1 : Nat), .int .u64 (g 2 : Nat), .int .u64 (g 3 : Nat), .int .u64 (g 4 : Nat), .int .u64 (g 5 : Nat), .int .u64 (g 6 : Nat), .int .u64 (g 7 : Nat)] 78)
  have hlt := h.lt
  have hW := h.keep (hB.block b hlt)
  have hz : ((w.alloc (.cells #[.map (some b)] 111)).alloc (.cells #[.int .u64 (g 0 : Nat), .int .u64 (g 1 : Nat), .int .u64 (g 2 : Nat), .int .u64 (g 3 : Nat), .int .u64 (g 4 : Nat), .int .u64 (g 5 : Nat), .int .u64 (g 6 : Nat), .int .u64 (g 7 : Nat)] 78)).heap.size = w.heap.size + 2 := by rw [sz_alloc, sz_alloc]
  have HF0 : Hid (FrO (OneB w b) w ((w.alloc (.cells #[.map (some b)] 111)).alloc (.cells #[.int .u64 (g 0 : Nat), .int .u64 (g 1 : Nat), .int .u64 (g 2 : Nat), .int .u64 (g 3 : Nat), .int .u64 (g 4 : Nat), .int .u64 (g 5 : Nat), .int .u64 (g 6 : Nat), .int .u64 (g 7 : Nat)] 78))) := fro_of hB (fun k hk => Or.inr hk)
  rcases hW.look Tryd.lawPs Tryd.underlying109 (key_ps hg) with ⟨i, hi, hl⟩ | ⟨hno, hl⟩
  · have HW := hide hW
    have HI := hide hi
    clear hW hi h hB
    unfold ps8 at hl ⊢
    go_enter Tryd.func50, Tryd.ntmps50
    go_wp2
    go_ret2
    exact ⟨i, ks, false, rfl, Or.inl ⟨List.mem_of_getElem? (unhide HI), rfl, unhide HI, rfl⟩, unhide HW, unhide HF0⟩
  · have hln := fun ty => hW.len Tryd.underlying109 ty
    obtain ⟨w3, hput, hN3, hob⟩ := hW.put Tryd.lawPs Tryd.underlying109 hn (key_ps hg) hno
    have HN3 := hide hN3
    have HF3 := hide ((unhide HF0).trans (hob.fro (Or.inl rfl)))
    have HNO := hide hno
    clear hW hno h hB hN3 hob
    unfold ps8 at hl hput ⊢
    go_enter Tryd.func50, Tryd.ntmps50
    go_wp2
    go_ret2
    exact ⟨ks.length, ks ++ [ps8 g], true, rfl, Or.inr ⟨unhide HNO, rfl, rfl, rfl⟩, unhide HN3, unhide HF3⟩

end Go.Proofs.YtfdkdjngeomcdaaDoor

namespace Go.Proofs.YtfdkdjngeomcdaaDoor
open Go.RowKit

theorem Tryd.zinBoolM : (Tryd.prog.info? 4).map (fun i => (i.zero, i.size, i.bytes)) = some (some (.bool false), 1, 1) := by kernel_rfl

/-- A row of n + 1 marks. -/
abbrev vB (b n : Nat) : Value := .slice (some ⟨b, 0, none⟩) (n + 1) (n + 1)
def BR (w : World) (n b : Nat) (F : Nat → Bool) : Prop := w.rowIs b 4 (n + 1) (fun j => .bool (F j))
theorem BR.keep {w w' : World} {n b : Nat} {F : Nat → Bool} (h : BR w n b F) (e : w'.heap[b]? = w.heap[b]?) : BR w' n b F := World.rowIs.of_block h e
theorem BR.lt {w : World} {n b : Nat} {F : Nat → Bool} (h : BR w n b F) : b < w.heap.size := by
  obtain ⟨c, hc, -⟩ := h
  exact (Array.getElem?_eq_some_iff.1 hc).1
theorem BR.below {w w' : World} {n b m : Nat} {F : Nat → Bool} (h : BR w n b F) (hb : Below m w w') (hm : w.heap.size ≤ m) : BR w' n b F := h.keep (hb.block b (Nat.lt_of_lt_of_le h.lt hm))
theorem BR.same {w : World} {n b : Nat} {F G : Nat → Bool} (h : BR w n b F) (e : ∀ j, j ≤ n → F j = G j) : BR w n b G := World.rowIs.congr h (fun j hj => by rw [e j (by omega)])
theorem br_made (w : World) (n : Nat) : BR (w.alloc (.cells (madeCells #[.bool false] (n + 1)) 4)) n w.heap.size (fun _ => false) := World.rowIs_made w (.bool false) (n + 1) 4
/-- copy of one row of marks over another. -/
theorem copy_bools (w : World) (n g s : Nat) (F H : Nat → Bool) (hg : BR w n g F) (hs : BR w n s H) :
    ∃ w' : World, (∀ ty, Sem.run Tryd.prog (Builtin.copy_ #[56, 56] ty #[vB g n, vB s n]) w = .ok (goInt (n + 1)) w') ∧ BR w' n g H ∧ Obk g w w' := by
  obtain ⟨c, hc, hcs, -⟩ := hg
  have hlen : ((List.range (n + 1)).map (fun j => Value.bool (H j))).length = n + 1 := by simp
  have hsz : (Tryd.prog.info? 4).map (·.size) = some 1 := by
    have := congrArg (Option.map (fun x : Option Value × Nat × Nat => x.2.1)) Tryd.zinBoolM
    rw [Option.map_map] at this
    exact this
  have hr : ∀ ty, Sem.run Tryd.prog (Builtin.copy_ #[56, 56] ty #[vB g n, vB s n]) w = _ := fun ty => run_copy_row (P := Tryd.prog) w 56 56 ty 4 g 0 (n + 1) (n + 1) ⟨s, 0, none⟩ (n + 1) (n + 1) c 4 ((List.range (n + 1)).map (fun j => Value.bool (H j))) Tryd.underlying56 hsz hc (by rw [hlen]; simp) (fun j v hv => by
    rw [List.getElem?_map] at hv
    by_cases e : j < n + 1
    · rw [List.getElem?_range e] at hv
      simp only [Option.map_some, Option.some.injEq] at hv
      subst hv
      have e3 : (⟨s, 0, none⟩ : Addr).add j = ⟨s, j, none⟩ := by cases j <;> simp [Addr.add]
      rw [e3]
      exact World.rowIs.cell hs e
    · rw [List.getElem?_eq_none (by simpa using e)] at hv
      cases hv) (by rw [hlen]; omega) (fun v hv => by
    obtain ⟨j, -, rfl⟩ := List.mem_map.1 hv
    rfl)
  rw [hlen] at hr
  refine ⟨_, hr, ?_, ⟨rfl, rfl, rfl, by simp [World.setRow], fun k hk => setRow_other w g k _ hk⟩⟩
  refine ⟨_, setRow_heap w g _ _ _ _ hc, by simp; omega, fun i hi => ?_⟩
  simp only [List.take_zero, List.nil_append, Nat.zero_add]
  rw [List.getElem?_toArray, List.getElem?_append_left (by rw [hlen]; exact hi), List.getElem?_map, List.getElem?_range hi]
  rfl

theorem obk_bel {g m : Nat} {a b : World} (h : Obk g a b) (hm : m ≤ g) : Below m a b := ⟨h.os, h.tape, h.output, by rw [h.size]; exact Nat.le_refl _, fun k hk => h.block k (by omega)⟩
/-- Outside one block and what is new nothing has changed. -/
abbrev OneO (w : World) (A : Nat) : Nat → Prop := fun k => k = A ∨ w.heap.size ≤ k
set_option maxHeartbeats 4000000 in
set_option maxRecDepth 100000 in
theorem l2more_any (n A B : Nat) (F H : Nat → Bool) (w : World) (hA : BR w n A F) (hB : BR w n B H) (hne : A ≠ B) (hn : n ≤ 100000) :
    Calls Tryd.prog 41 #[vB A n, vB B n] w fun e w' => ∃ b, e = .returned (.tuple #[vB w.heap.size n, .bool b]) ∧ BR w' n A (fun j => F j || H j) ∧ BR w' n w.heap.size (fun j => H j && !F j) ∧ (b = true ↔ ∃ j, j ≤ n ∧ H j = true ∧ F j = false) ∧ FrO (OneO w A) w w' := by
  have hmk := run_make_row' (P := Tryd.prog) 56 4 (.bool false) 1 Tryd.underlying56 Tryd.zinBoolM rfl .i64 .i64 (n + 1) (by omega) (by omega)
  simp only [Int.natCast_add, Int.natCast_one] at hmk
  have hAl := hA.lt
  have hBl := hB.lt
  have h0 := br_made w n
  have hb0 := below1 w (.cells (madeCells #[.bool false] (n + 1)) 4)
  have hA0 := hA.below hb0 (Nat.le_refl _)
  have hB0 := hB.below hb0 (Nat.le_refl _)
  have hF0 : FrO (OneO w A) w (w.alloc (.cells (madeCells #[.bool false] (n + 1)) 4)) := fro_of hb0 (fun k hk => Or.inr hk)
  have Hh0 := hide h0
  have HA0 := hide hA0
  have HB0 := hide hB0
  have HF0 := hide hF0
  clear h0 hb0 hA0 hB0 hF0 hA hB
  go_enter Tryd.func41, Tryd.ntmps41
  go_wp2_with fail
  go_loopw [7, 8] (fun sv iv wr => ∃ (i : Nat) (b : Bool), i ≤ n + 1 ∧ iv = .int .i64 i ∧ sv = .bool b ∧ (b = true ↔ ∃ j, j < i ∧ H j = true ∧ F j = false) ∧ BR wr n A (fun j => F j || (decide (j < i) && H j)) ∧ BR wr n w.heap.size (fun j => decide (j < i) && (H j && !F j)) ∧ BR wr n B H ∧ FrO (OneO w A) w wr) (fun _ iv _ => n + 1 - (intOf iv).toNat)
  case atStart => exact ⟨0, false, Nat.zero_le _, rfl, rfl, ⟨fun h => (by cases h), fun ⟨j, hj, _⟩ => absurd hj (Nat.not_lt_zero _)⟩, (unhide HA0).same (fun j _ => by simp), (unhide Hh0).same (fun j _ => by simp), unhide HB0, unhide HF0⟩
  case round =>
    clear Hh0 HA0 HB0 HF0 hmk
    obtain ⟨i, b, hi, rfl, rfl, hb, hA, hG, hB, hF⟩ := hrel
    have HA := hide hA
    have HG := hide hG
    have HB := hide hB
    have HF := hide hF
    have Hb := hide hb
    by_cases hlt : i < n + 1
    · have hlt' : (i : Int) < ((n + 1 : Nat) : Int) := by omega
      have hlt2 : (i : Int) < (n : Int) + 1 := by omega
      have c1 := World.rowIs.cell hB hlt
      have c2 := World.rowIs.cell hA hlt
      simp only [Nat.lt_irrefl, decide_false, Bool.false_and, Bool.or_false] at c2
      have c3 := World.rowIs.cell hG hlt
      have f2 := World.rowIs.frozen hA i
      have f3 := World.rowIs.frozen hG i
      have c3' := fun v : Value => put_other (w := wr) (b := A) (o := i) (b' := w.heap.size) (o' := i) (v := v) (Or.inl (by omega))
      have f3' : ∀ v : Value, (wr.setCell ⟨A, i, none⟩ v).frozen? ⟨w.heap.size, i, none⟩ = false := fun v => (World.rowIs.setOther hG (by show w.heap.size ≠ A; omega) v).frozen i
      clear hA hG hB hF hb
      cases hHi : H i with
      | false =>
        rw [hHi] at c1
        have HHi := hide hHi
        clear hHi
        go_wp2
        go_roundw
        case rel =>
          refine ⟨i + 1, b, by omega, by go_num, rfl, ?_, (unhide HA).same (fun j hj => ?_), (unhide HG).same (fun j hj => ?_), unhide HB, unhide HF⟩
          · rw [unhide Hb]
            constructor
            · rintro ⟨j, hj, h⟩; exact ⟨j, by omega, h⟩
            · rintro ⟨j, hj, h⟩
              refine ⟨j, ?_, h⟩
              by_cases e : j = i
              · subst e; rw [unhide HHi] at h; exact absurd h.1 (by decide)
              · omega
          · by_cases e : j = i
            · subst e; simp [unhide HHi]
            · have : (j < i + 1) ↔ (j < i) := by omega
              simp [this]
          · by_cases e : j = i
            · subst e; simp [unhide HHi]
            · have : (j < i + 1) ↔ (j < i) := by omega
              simp [this]
        case measure => simp [intOf]; omega
      | true =>
        rw [hHi] at c1
        have HHi := hide hHi
        clear hHi
        cases hFi : F i with
        | true =>
          rw [hFi] at c2
          have HFi := hide hFi
          clear hFi
          go_wp2
          go_roundw
          case rel =>
            refine ⟨i + 1, b, by omega, by go_num, rfl, ?_, (unhide HA).same (fun j hj => ?_), (unhide HG).same (fun j hj => ?_), unhide HB, unhide HF⟩
            · rw [unhide Hb]
              constructor
              · rintro ⟨j, hj, h⟩; exact ⟨j, by omega, h⟩
              · rintro ⟨j, hj, h⟩
                refine ⟨j, ?_, h⟩
                by_cases e : j = i
                · subst e; rw [unhide HFi] at h; exact absurd h.2 (by decide)
                · omega
            · by_cases e : j = i
              · subst e; simp [unhide HFi]
              · have : (j < i + 1) ↔ (j < i) := by omega
                simp [this]
            · by_cases e : j = i
              · subst e; simp [unhide HFi]
              · have : (j < i + 1) ↔ (j < i) := by omega
                simp [this]
          case measure => simp [intOf]; omega
        | false =>
          rw [hFi] at c2
          have HFi := hide hFi
          clear hFi
          go_wp2
          go_roundw
          case rel =>
            refine ⟨i + 1, true, by omega, by go_num, rfl, ⟨fun _ => ⟨i, by omega, unhide HHi, unhide HFi⟩, fun _ => rfl⟩, ?_, ?_, ?_, ?_⟩
            · refine World.rowIs.congr (World.rowIs.setOther (World.rowIs.set (unhide HA) i (.bool true)) (by show A ≠ w.heap.size; omega) _) (fun j hj => ?_)
              by_cases e : j = i
              · subst e; simp [unhide HHi]
              · have : (j < i + 1) ↔ (j < i) := by omega
                simp [e, this]
            · refine World.rowIs.congr (World.rowIs.set (World.rowIs.setOther (unhide HG) (by show w.heap.size ≠ A; omega) _) i (.bool true)) (fun j hj => ?_)
              by_cases e : j = i
              · subst e; simp [unhide HHi, unhide HFi]
              · have : (j < i + 1) ↔ (j < i) := by omega
                simp [e, this]
            · exact World.rowIs.setOther (World.rowIs.setOther (unhide HB) (by show B ≠ A; omega) _) (by show B ≠ w.heap.size; omega) _
            · exact ((unhide HF).trans ((obk_put i _).fro (Or.inl rfl))).trans ((obk_put i _).fro (Or.inr (Nat.le_refl _)))
          case measure => simp [intOf]; omega
    · have e : i = n + 1 := by omega
      subst e
      clear hA hG hB hF hb
      go_wp2
      go_ret2
      refine ⟨b, rfl, (unhide HA).same (fun j hj => by simp [show j < n + 1 by omega]), (unhide HG).same (fun j hj => by simp [show j < n + 1 by omega]), ?_, unhide HF⟩
      rw [unhide Hb]
      exact ⟨fun ⟨j, h1, h2⟩ => ⟨j, by omega, h2⟩, fun ⟨j, h1, h2⟩ => ⟨j, by omega, h2⟩⟩

end Go.Proofs.YtfdkdjngeomcdaaDoor

namespace Go.Proofs.YtfdkdjngeomcdaaDoor
open Go.RowKit

/-- A walk that reads alone, in one world, is a still one. -/
theorem still_of_quiet {P : Program} {ops : Array Oper} {W : World} {Q : Act → Prop} : ∀ (l : List Oper) (a : Act), wpQuiet P ops (fun w' => w' = W) Q l a → wpStill P ops W Q l a
  | [], _, h => h
  | o :: rest, a, h => by
    unfold wpQuiet at h
    unfold wpStill
    split
    · rename_i hw
      rw [if_pos hw] at h
      obtain ⟨v, h1, h2⟩ := h
      have h3 := h1 W rfl
      have h4 := still_of_quiet rest _ h2
      unfold Oper.quietAt at h3
      unfold Oper.still
      generalize (execOp a.eval o).run P W = r at h3 ⊢
      cases r with
      | ok n w' =>
        cases n <;> simp only [Oper.quietUpon] at h3 <;> simp only [Oper.stillUpon]
        case value u => obtain ⟨rfl, rfl⟩ := h3; exact ⟨rfl, h4⟩
        case skip => obtain ⟨rfl, rfl⟩ := h3; exact ⟨rfl, h4⟩
        case enter f args => exact ⟨h3.1, v, h3.2, h4⟩
      | halt x w' => simp only [Oper.quietUpon] at h3
    · rename_i hw
      rw [if_neg hw] at h
      exact still_of_quiet rest _ h
/-- A region that draws its order: n operations that read alone, then the rest in the text's order. -/
theorem wp_region_quiet_tail {P : Program} {id : Nat} {Q : Exit → Act → World → Prop} {a : Act} {w : World} {l : List Oper} (n : Nat) (hm : P.follows .mixedOrders = true) (hB : Region.lexTailB .any l.toArray n = true)
    (h : wpQuiet P l.toArray (fun w' => w' = w.drew) (fun a' => wpList P l.toArray Q (l.drop n) a' w.drew) (l.take n) a) : (Code.region id l.toArray true).wp P Q a w :=
  wp_region_still_tail n hm hB (still_of_quiet _ _ h)

end Go.Proofs.YtfdkdjngeomcdaaDoor

namespace Go.Proofs.YtfdkdjngeomcdaaDoor
open Go.RowKit

/-- The sets of the leaves. -/
def setsOf : List El → List (List Int)
  | [] => []
  | x :: r => (if x.kind = 1 then [x.set] else []) ++ setsOf r
theorem oPush_ss (s : Ms) (x : El) : (oPush s x).ss = s.ss ++ (if x.kind = 1 then [x.set] else []) := by
  unfold oPush
  repeat' split
  all_goals simp_all
theorem oRun_ss (L : List El) : ∀ s : Ms, (oRun s L).ss = s.ss ++ setsOf L := by
  induction L with
  | nil => intro s; simp [oRun, setsOf]
  | cons x r ih => intro s; simp only [oRun, setsOf]; rw [ih, oPush_ss, List.append_assoc]
theorem SegO.sets {L : List El} {n : Nat} {a : It} {ln : List Lk} {ss : List (List Int)} (h : SegO L n a ln ss) : ss = setsOf L := by
  have h1 := oRun_ss L ini
  rw [h ini] at h1
  simpa [ini] using h1
theorem setsOf_len : ∀ L : List El, (setsOf L).length = lvs L
  | [] => rfl
  | x :: r => by
    have := setsOf_len r
    simp only [setsOf, lvs, List.length_append]
    split <;> simp <;> omega

/-- What is shown ascends. -/
def AscI (a : It) : Prop := a.fi.Pairwise (· < ·) ∧ a.la.Pairwise (· < ·)
theorem asc_sh {xs : List Nat} (h : xs.Pairwise (· < ·)) (c : Nat) : (xs.map (c + ·)).Pairwise (· < ·) := by
  rw [List.pairwise_map]
  exact h.imp (fun q => by omega)
theorem AscI.sh {a : It} (h : AscI a) (c : Nat) : AscI (a.sh c) := ⟨asc_sh h.1 c, asc_sh h.2 c⟩
theorem asc_app {xs ys : List Nat} {n : Nat} (hx : xs.Pairwise (· < ·)) (hy : ys.Pairwise (· < ·)) (b : ∀ x ∈ xs, x < n) : (xs ++ ys.map (n + ·)).Pairwise (· < ·) := by
  rw [List.pairwise_append]
  refine ⟨hx, asc_sh hy n, fun p hp q hq => ?_⟩
  obtain ⟨z, -, rfl⟩ := List.mem_map.1 hq
  have := b p hp
  omega
theorem AscI.cat {a b : It} {n : Nat} (ha : AscI a) (hb : AscI b) (k : Bdd a n) : AscI (itCat a (b.sh n)) := by
  refine ⟨?_, ?_⟩
  · show (a.fi ++ (if a.nl then b.fi.map (n + ·) else [])).Pairwise (· < ·)
    split
    · exact asc_app ha.1 hb.1 k.1
    · rw [List.append_nil]; exact ha.1
  · show ((if b.nl then a.la else []) ++ b.la.map (n + ·)).Pairwise (· < ·)
    split
    · exact asc_app ha.2 hb.2 k.2
    · rw [List.nil_append]; exact asc_sh hb.2 n
theorem AscI.alt {a b : It} {n : Nat} (ha : AscI a) (hb : AscI b) (k : Bdd a n) : AscI (itAlt a (b.sh n)) := ⟨asc_app ha.1 hb.1 k.1, asc_app ha.2 hb.2 k.2⟩
theorem ascN_uniq : ∀ {xs ys : List Nat}, xs.Pairwise (· < ·) → ys.Pairwise (· < ·) → (∀ z, z ∈ xs ↔ z ∈ ys) → xs = ys
  | [], [], _, _, _ => rfl
  | [], y :: ys, _, _, h => by have := (h y).2 (List.mem_cons_self ..); simp at this
  | x :: xs, [], _, _, h => by have := (h x).1 (List.mem_cons_self ..); simp at this
  | x :: xs, y :: ys, hx, hy, h => by
    rw [List.pairwise_cons] at hx hy
    have e : x = y := by
      have h1 := (h x).1 (List.mem_cons_self ..)
      have h2 := (h y).2 (List.mem_cons_self ..)
      rcases List.mem_cons.1 h1 with e | e
      · exact e
      · rcases List.mem_cons.1 h2 with e2 | e2
        · exact e2.symm
        · have := hy.1 x e; have := hx.1 y e2; omega
    subst e
    rw [ascN_uniq hx.2 hy.2 (fun z => ?_)]
    constructor
    · intro hz
      have := hx.1 z hz
      rcases List.mem_cons.1 ((h z).1 (List.mem_cons_of_mem _ hz)) with e | e
      · omega
      · exact e
    · intro hz
      have := hy.1 z hz
      rcases List.mem_cons.1 ((h z).2 (List.mem_cons_of_mem _ hz)) with e | e
      · omega
      · exact e
theorem range_asc (n : Nat) : (List.range n).Pairwise (· < ·) := List.pairwise_lt_range
/-- The list of a set of positions. -/
theorem bl_is {f : Nat → Nat} {xs : List Nat} (h : BitsOf f xs) (ha : xs.Pairwise (· < ·)) (hb : ∀ x ∈ xs, x < 512) : blN f 512 = xs := by
  refine ascN_uniq (List.Pairwise.filter _ (range_asc 512)) ha (fun z => ?_)
  have := mem_bl h hb z
  rw [Bool.eq_iff_iff, List.contains_iff_mem, List.contains_iff_mem] at this
  exact this

/-- Of a list of elements: they are of their kinds. -/
def AllOk (L : List El) : Prop := ∀ k : Nat, k < L.length → ElOk (L[k]?.getD dE)
theorem AllOk.app {a b : List El} (h : AllOk a) (k : AllOk b) : AllOk (a ++ b) := fun i hi => by
  by_cases e : i < a.length
  · rw [List.getElem?_append_left e]; exact h i e
  · rw [List.getElem?_append_right (by omega)]; exact k _ (by rw [List.length_append] at hi; omega)
theorem AllOk.one {x : El} (h : ElOk x) : AllOk [x] := fun i hi => by
  obtain rfl : i = 0 := by simpa using hi
  exact h

theorem lvs_cat (L R : List El) (k : Int) (hk : k ≠ 1) : lvs (L ++ R ++ [⟨k, [], 0, 0⟩]) = lvs L + lvs R := lvs_snoc L R _ hk
theorem lvs_half : ∀ L : List El, 2 * (lvs L : Int) ≤ L.length + wsum L
  | [] => by simp [lvs, wsum]
  | x :: r => by
    have := lvs_half r
    simp only [lvs, wsum, List.length_cons]
    unfold wt
    repeat' split
    all_goals simp_all
    all_goals omega

end Go.Proofs.YtfdkdjngeomcdaaDoor
