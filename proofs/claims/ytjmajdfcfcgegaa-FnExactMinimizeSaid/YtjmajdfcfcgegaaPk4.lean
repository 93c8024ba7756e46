import Derived.Test.YtjmajdfcfcgegaaMn10
import Derived.Test.YtjmajdfcfcgegaaPk3
import Derived.BigQuiet
import Derived.BigRegion
import Derived.Test.YtjmajdfcfcgegaaMr1
import Derived.Test.YtjmajdfcfcgegaaPk1
import Derived.StillTail
import Derived.Maps.OwnSet
import Derived.Maps.OwnOps
import Derived.DeepKeys4
namespace Go.Proofs.Ytjmajdfcfcgegaa
open Go.RowKit

set_option maxHeartbeats 2000000 in
set_option maxRecDepth 100000 in
/-- Two members change places. -/
theorem swap_any (g mb mo pb po n c1 c2 : Nat) (i j x y : Nat) (w : World) (hi : i < n) (hj : j < n) (hx : x < n) (hy : y < n) (d1 : mb ≠ g) (d2 : pb ≠ g) (d3 : mb ≠ pb)
    (f0 : w.cell? ⟨g, 0, none⟩ = some (.slice (some ⟨mb, mo, none⟩) n c1)) (f1 : w.cell? ⟨g, 1, none⟩ = some (.slice (some ⟨pb, po, none⟩) n c2))
    (m1 : w.cell? ⟨mb, mo + i, none⟩ = some (.int .i64 x)) (m2 : w.cell? ⟨mb, mo + j, none⟩ = some (.int .i64 y)) (p1 : ∃ v, w.cell? ⟨pb, po + x, none⟩ = some v) (p2 : ∃ v, w.cell? ⟨pb, po + y, none⟩ = some v)
    (zm : ∀ k, w.frozen? ⟨mb, k, none⟩ = false) (zp : ∀ k, w.frozen? ⟨pb, k, none⟩ = false) :
    Calls Try.prog 44 #[.pointer (some ⟨g, 0, none⟩), .int .i64 i, .int .i64 j] w fun e w' => e = .returned (.tuple #[]) ∧
      ∃ q, w' = ((((w.drewN q).setCell ⟨mb, mo + i, none⟩ (.int .i64 y)).setCell ⟨mb, mo + j, none⟩ (.int .i64 x)).setCell ⟨pb, po + y, none⟩ (.int .i64 i)).setCell ⟨pb, po + x, none⟩ (.int .i64 j) := by
  have hi' : (i : Int) < (n : Int) := by omega
  have hj' : (j : Int) < (n : Int) := by omega
  have z1 := zm (mo + i)
  have z2 := zm (mo + j)
  have hA : (w.setCell ⟨mb, mo + i, none⟩ (.int .i64 y)).cell? ⟨mb, mo + j, none⟩ = some (.int .i64 y) := by
    by_cases he : i = j
    · subst he; exact put_same m1
    · rw [put_other (by right; omega)]; exact m2
  have zA : (w.setCell ⟨mb, mo + i, none⟩ (.int .i64 y)).frozen? ⟨mb, mo + j, none⟩ = false := by rw [← z2]; exact World.frozen?_setCell ..
  obtain ⟨v1, p1⟩ := p1
  obtain ⟨v2, p2⟩ := p2
  have hx' : (x : Int) < (n : Int) := by omega
  have hy' : (y : Int) < (n : Int) := by omega
  obtain ⟨W1, hW1⟩ : ∃ W1, W1 = (w.setCell ⟨mb, mo + i, none⟩ (.int .i64 y)).setCell ⟨mb, mo + j, none⟩ (.int .i64 x) := ⟨_, rfl⟩
  have g0 : W1.cell? ⟨g, 0, none⟩ = some (.slice (some ⟨mb, mo, none⟩) n c1) := by rw [hW1, put_other (by left; exact d1), put_other (by left; exact d1)]; exact f0
  have g1 : W1.cell? ⟨g, 1, none⟩ = some (.slice (some ⟨pb, po, none⟩) n c2) := by rw [hW1, put_other (by left; exact d1), put_other (by left; exact d1)]; exact f1
  have k1 : W1.cell? ⟨mb, mo + i, none⟩ = some (.int .i64 y) := by
    rw [hW1]
    by_cases he : i = j
    · subst he
      rw [m1] at m2
      cases m2
      exact put_same hA
    · rw [put_other (by right; omega)]; exact put_same m1
  have k2 : W1.cell? ⟨mb, mo + j, none⟩ = some (.int .i64 x) := by rw [hW1]; exact put_same hA
  have k3 : W1.cell? ⟨pb, po + y, none⟩ = some v2 := by rw [hW1, put_other (by left; exact d3), put_other (by left; exact d3)]; exact p2
  have k4 : W1.cell? ⟨pb, po + x, none⟩ = some v1 := by rw [hW1, put_other (by left; exact d3), put_other (by left; exact d3)]; exact p1
  have z3 : W1.frozen? ⟨pb, po + y, none⟩ = false := by rw [hW1, World.frozen?_setCell, World.frozen?_setCell]; exact zp _
  have z4 : W1.frozen? ⟨pb, po + x, none⟩ = false := by rw [hW1, World.frozen?_setCell, World.frozen?_setCell]; exact zp _
  obtain ⟨W2, hW2⟩ : ∃ W2, W2 = W1.setCell ⟨pb, po + y, none⟩ (.int .i64 i) := ⟨_, rfl⟩
  have e0 : W2.cell? ⟨g, 0, none⟩ = some (.slice (some ⟨mb, mo, none⟩) n c1) := by rw [hW2, put_other (by left; exact d2)]; exact g0
  have e1 : W2.cell? ⟨g, 1, none⟩ = some (.slice (some ⟨pb, po, none⟩) n c2) := by rw [hW2, put_other (by left; exact d2)]; exact g1
  have e2 : W2.cell? ⟨mb, mo + j, none⟩ = some (.int .i64 x) := by rw [hW2, put_other (by left; exact Ne.symm d3)]; exact k2
  have e3 : ∃ v, W2.cell? ⟨pb, po + x, none⟩ = some v := by
    rw [hW2]
    by_cases he : x = y
    · subst he; exact ⟨_, put_same k3⟩
    · rw [put_other (by right; omega)]; exact ⟨_, k4⟩
  obtain ⟨v3, e3⟩ := e3
  have z5 : W2.frozen? ⟨pb, po + x, none⟩ = false := by rw [hW2, World.frozen?_setCell]; exact z4
  have HW1 := hide hW1
  have HW2 := hide hW2
  clear hW1 hW2 zm zp d1 d2 d3 p1 p2 z4 k4
  go_enter Try.func44, Try.ntmps44
  go_wp2_with fail
  go_region
  rw [← unhide HW1]
  clear hA zA m1 m2 f0 f1 z1 z2
  go_wp2_with fail
  go_region
  rw [← unhide HW2]
  clear g0 g1 k1 k2 k3 z3
  go_wp2_with fail
  go_region
  go_wp2
  first | (refine bodyPost_ret (results_none rfl _ _ _) rfl ?_) | (refine bodyPost_end (results_none rfl _ _ _) rfl ?_)
  refine ⟨rfl, 3, ?_⟩
  rw [unhide HW2, unhide HW1]
  rfl

end Go.Proofs.Ytjmajdfcfcgegaa

namespace Go.Proofs.Ytjmajdfcfcgegaa
open Go.RowKit

theorem PtAt.drewN {O : Nat → Prop} {g mb mc pb pc bb bc : Nat} {w : World} {n N : Nat} {ms ps bs fr mk tt : Nat → Nat} {kb kc : Nat} {qv : Value} {qs : List Int} {tk : Nat} (h : PtAt O g mb mc pb pc bb bc w n N ms ps bs fr mk tt kb kc qv qs tk) (q : Nat) : PtAt O g mb mc pb pc bb bc (w.drewN q) n N ms ps bs fr mk tt kb kc qv qs tk := h.keep (fun _ _ _ => rfl)
theorem fro_drewN {O : Nat → Prop} (w : World) (q : Nat) : FrO O w (w.drewN q) := ⟨rfl, rfl, rfl, Nat.le_refl _, fun _ _ => rfl⟩

/-- A state that is not marked is put behind those of its block that are. -/
theorem swap_pt {O : Nat → Prop} {g mb mc pb pc bb bc : Nat} {w : World} {n N : Nat} {ms ps bs fr mk tt : Nat → Nat} {kb kc : Nat} {qv : Value} {qs : List Int} {tk : Nat} (h : PtAt O g mb mc pb pc bb bc w n N ms ps bs fr mk tt kb kc qv qs tk) (hI : PInv n N ms ps bs fr mk tt) {s : Nat} (hs : s < n) (hm : mk (bs s) ≤ ps s) :
    Calls Try.prog 44 #[.pointer (some ⟨g, 0, none⟩), .int .i64 (ps s : Nat), .int .i64 (mk (bs s) : Nat)] w fun e w' => e = .returned (.tuple #[]) ∧
      PtAt O g mb mc pb pc bb bc w' n N (upd (upd ms (ps s) (ms (mk (bs s)))) (mk (bs s)) s) (upd (upd ps (ms (mk (bs s))) (ps s)) s (mk (bs s))) bs fr mk tt kb kc qv qs tk ∧ FrO O w w' ∧ w'.heap.size = w.heap.size := by
  obtain ⟨a1, a2, a3⟩ := hI.s1 s hs
  have b1 := hI.b1 _ a1
  obtain ⟨p1, p2⟩ := hI.p1 s hs
  obtain ⟨m1, m2⟩ := hI.m1 (mk (bs s)) (by omega)
  obtain ⟨c0, c1, -⟩ := h.facts
  refine (swap_any g mb 0 pb 0 n mc pc (ps s) (mk (bs s)) s (ms (mk (bs s))) w p1 (by omega) hs m1 (Ne.symm h.ng.1) (Ne.symm h.ng.2.1) h.ne.1 c0 c1 ?_ ?_ ?_ ?_ (fun k => h.rm.frozen k) (fun k => h.rp.frozen k)).mono ?_
  · rw [Nat.zero_add, h.rm.cell p1, p2]
  · rw [Nat.zero_add, h.rm.cell (by omega)]
  · rw [Nat.zero_add]; exact ⟨_, h.rp.cell hs⟩
  · rw [Nat.zero_add]; exact ⟨_, h.rp.cell m1⟩
  rintro e w' ⟨rfl, q, rfl⟩
  simp only [Nat.zero_add]
  have k0 := h.drewN q
  have k1 := k0.setM (ps s) (ms (mk (bs s)))
  have k2 := k1.setM (mk (bs s)) s
  have k3 := k2.setP (ms (mk (bs s))) (ps s)
  have k4 := k3.setP s (mk (bs s))
  refine ⟨trivial, k4, ?_, by simp only [sz_put]; rfl⟩
  obtain ⟨o1, o2, o3, o4, o5⟩ := h.oo
  exact (fro_drewN w q).trans ((((obk_put _ _).fro o2).trans ((obk_put _ _).fro o2)).trans (((obk_put _ _).fro o3).trans ((obk_put _ _).fro o3)))

end Go.Proofs.Ytjmajdfcfcgegaa

namespace Go.Proofs.Ytjmajdfcfcgegaa
open Go.RowKit

/-- A walk that reads alone, in one world, is a still one. -/
theorem still_of_quiet {P : Program} {ops : Array Oper} {W : World} {Q : Act → Prop} : ∀ (l : List Oper) (a : Act), wpQuiet P ops (fun w' => w' = W) Q l a → wpStill P ops W Q l a
  | [], _, h => h
  | o :: rest, a, h => by
    unfold wpQuiet at h
    unfold wpStill
    split
    · rename_i hw
      rw [if_pos hw] at h
      obtain ⟨v, h1, h2⟩ := h
      have h3 := h1 W rfl
      have h4 := still_of_quiet rest _ h2
      unfold Oper.quietAt at h3
      unfold Oper.still
      generalize (execOp a.eval o).run P W = r at h3 ⊢
      cases r with
      | ok n w' =>
        cases n <;> simp only [Oper.quietUpon] at h3 <;> simp only [Oper.stillUpon]
        case value u => obtain ⟨rfl, rfl⟩ := h3; exact ⟨rfl, h4⟩
        case skip => obtain ⟨rfl, rfl⟩ := h3; exact ⟨rfl, h4⟩
        case enter f args => exact ⟨h3.1, v, h3.2, h4⟩
      | halt x w' => simp only [Oper.quietUpon] at h3
    · rename_i hw
      rw [if_neg hw] at h
      exact still_of_quiet rest _ h
/-- A region that draws its order: n operations that read alone, then the rest in the text's order. -/
theorem wp_region_quiet_tail {P : Program} {id : Nat} {Q : Exit → Act → World → Prop} {a : Act} {w : World} {l : List Oper} (n : Nat) (hm : P.follows .mixedOrders = true) (hB : Region.lexTailB .any l.toArray n = true)
    (h : wpQuiet P l.toArray (fun w' => w' = w.drew) (fun a' => wpList P l.toArray Q (l.drop n) a' w.drew) (l.take n) a) : (Code.region id l.toArray true).wp P Q a w :=
  wp_region_still_tail n hm hB (still_of_quiet _ _ h)

end Go.Proofs.Ytjmajdfcfcgegaa

namespace Go.Proofs.Ytjmajdfcfcgegaa
open Go.RowKit

theorem Try.laidOutN : laidOutB Try.prog = true := by kernel_rfl
theorem wf64 {n : Nat} (h : n < 18446744073709551616) : (Lit.int .u64 (n : Int)).wf = true := WalkArith.wf_u64 (by omega)
/-- This value can be a map's key. -/
def KeyIs (kt : TypeId) (v : Value) : Prop := ∃ kl, keyOf Try.prog kt v = some kl
/-- A map that numbers these keys in their order. -/
def NumAt (kt : TypeId) (w : World) (b : Nat) (ks : List Value) : Prop :=
  ∃ es clock, w.heap[b]? = some (.map es clock) ∧ WideElems.Fit Try.prog kt (plainElem (H := Unit) Try.prog 3) es clock ∧ es.size = ks.length ∧ (∀ i v, ks[i]? = some v → ∃ e ∈ es.toList, e.key = v ∧ e.val = .int .i64 (i : Nat)) ∧ ∀ e ∈ es.toList, ∃ i : Nat, ks[i]? = some e.key ∧ e.val = .int .i64 i
section
variable {kt mt : TypeId} {w w' : World} {b : Nat} {ks : List Value}
theorem NumAt.lt (h : NumAt kt w b ks) : b < w.heap.size := by
  obtain ⟨es, clock, hb, -⟩ := h
  exact (Array.getElem?_eq_some_iff.1 hb).1
theorem NumAt.keep (h : NumAt kt w b ks) (e : w'.heap[b]? = w.heap[b]?) : NumAt kt w' b ks := by
  obtain ⟨es, clock, hb, h2⟩ := h
  exact ⟨es, clock, e.trans hb, h2⟩
theorem num_new (kt : TypeId) (w : World) : NumAt kt (w.alloc (.map #[] 0)) w.heap.size [] :=
  ⟨#[], 0, (MapKept.heap_alloc w _).1, ⟨by simp, MapKept.stamped_empty 0, by simp⟩, rfl, by simp, by simp⟩
theorem NumAt.len (h : NumAt kt w b ks) {et : TypeId} (ht : Try.prog.underlying mt = some (.map kt et)) (ty : TypeId) : (Builtin.len_ #[mt] ty #[.map (some b)]).run Try.prog w = .ok (.int .i64 (ks.length : Nat)) w := by
  obtain ⟨es, clock, hb, -, hs, -⟩ := h
  rw [← hs]
  simp [Builtin.len_, run_underlying ht, MapKept.run_getObj_map hb, goInt]
/-- v, ok := m[k]. -/
theorem NumAt.look (h : NumAt kt w b ks) (K : Maps.Keyed Try.prog kt) (ht : Try.prog.underlying mt = some (.map kt 3)) {v : Value} (hv : KeyIs kt v) :
    (∃ i : Nat, ks[i]? = some v ∧ (Instr.lookup mt (.map (some b)) v true).run Try.prog w = .ok (.tuple #[.int .i64 i, .bool true]) w) ∨ (v ∉ ks ∧ (Instr.lookup mt (.map (some b)) v true).run Try.prog w = .ok (.tuple #[.int .i64 0, .bool false]) w) := by
  obtain ⟨es, clock, hb, F, hs, h1, h2⟩ := h
  obtain ⟨kl, hkl⟩ := hv
  have hz : (zeroValue 3).run Try.prog w = .ok (.int .i64 0) w := by kernel_rfl
  rcases Maps.fit_look true K ht hz hb F hkl with ⟨hrun, hno, -⟩ | ⟨e0, y, hm, hk, hrun, -⟩
  · right
    refine ⟨fun hm => ?_, hrun⟩
    obtain ⟨i, hi⟩ := List.getElem?_of_mem hm
    obtain ⟨e, he, hek, -⟩ := h1 i v hi
    exact hno e he hek
  · left
    obtain ⟨i, hi, hval⟩ := h2 e0 hm
    rw [hk] at hi
    rw [hval] at hrun
    exact ⟨i, hi, hrun⟩
/-- m[k] = len(m), of a key that is new. -/
theorem NumAt.put (h : NumAt kt w b ks) (K : Maps.Keyed Try.prog kt) (ht : Try.prog.underlying mt = some (.map kt 3)) (hn : ks.length < 100000) {v : Value} (hv : KeyIs kt v) (hnew : v ∉ ks) :
    ∃ w', (Instr.mapUpdate mt (.map (some b)) v (.int .i64 (ks.length : Nat))).run Try.prog w = .ok () w' ∧ NumAt kt w' b (ks ++ [v]) ∧ Obk b w w' := by
  obtain ⟨es, clock, hb, F, hs, h1, h2⟩ := h
  obtain ⟨kl, hkl⟩ := hv
  have hval : plainElem (H := Unit) Try.prog 3 (.int .i64 (ks.length : Nat)) = some (.lit (.int .i64 (ks.length : Nat)), []) := plainElem_int Try.underlying3 (WalkArith.wf_i64 (by omega))
  rcases K.find w hkl es.toList F.keys with ⟨h3, h4⟩ | ⟨j, e0, -, h5, h6⟩
  · have hrun : (Instr.mapUpdate mt (.map (some b)) v (.int .i64 (ks.length : Nat))).run Try.prog w = .ok () (ChangeMaps.setBlock w b (.map (es.push ⟨v, .int .i64 (ks.length : Nat), clock⟩) (clock + 1))) := by
      simp [Instr.mapUpdate, run_underlying ht, MapKept.run_getObj_map hb, K.check w false hkl, h3, MapKept.run_setObj_map _ hb, Result.andThen, ChangeMaps.setBlock]
    refine ⟨_, hrun, ⟨es.push ⟨v, .int .i64 (ks.length : Nat), clock⟩, clock + 1, ChangeMaps.heap_setBlock_same hb _, ⟨by rw [Array.size_push, hs]; unfold maxLen; omega, MapKept.stamped_push F.stamped h4, fun x hx => ?_⟩, by rw [Array.size_push, hs]; simp, fun i u hi => ?_, fun e he => ?_⟩, ⟨rfl, rfl, rfl, by simp [ChangeMaps.setBlock], fun k hk => ChangeMaps.heap_setBlock_other hb _ hk⟩⟩
    · simp only [Array.toList_push, List.mem_append, List.mem_singleton] at hx
      rcases hx with hx | rfl
      · exact F.reads x hx
      · exact ⟨_, WideElems.rd_mk hkl hval⟩
    · by_cases e : i < ks.length
      · rw [List.getElem?_append_left e] at hi
        obtain ⟨e2, he, h7⟩ := h1 i u hi
        exact ⟨e2, by simp [he], h7⟩
      · rw [List.getElem?_append_right (by omega)] at hi
        obtain ⟨rfl, e3⟩ : i = ks.length ∧ v = u := by
          by_cases e4 : i = ks.length
          · subst e4; simpa using hi
          · rw [List.getElem?_eq_none (by simp; omega)] at hi; cases hi
        exact ⟨⟨v, .int .i64 (ks.length : Nat), clock⟩, by simp, e3, rfl⟩
    · simp only [Array.toList_push, List.mem_append, List.mem_singleton] at he
      rcases he with he | rfl
      · obtain ⟨i, hi, hv2⟩ := h2 e he
        have hlt : i < ks.length := by
          apply Nat.lt_of_not_le
          intro q
          rw [List.getElem?_eq_none q] at hi
          cases hi
        exact ⟨i, by rw [List.getElem?_append_left hlt]; exact hi, hv2⟩
      · exact ⟨ks.length, by simp, rfl⟩
  · obtain ⟨i, hi, -⟩ := h2 e0 (List.mem_of_getElem? h5)
    rw [h6] at hi
    exact absurd (List.mem_of_getElem? hi) hnew
end

/-- All but one block and what is new. -/
abbrev OneB (w : World) (b : Nat) : Nat → Prop := fun k => k = b ∨ w.heap.size ≤ k
/-- What a numbering answers to a key. -/
def NumR (ks : List Value) (v : Value) (ks' : List Value) (i : Nat) (f : Bool) : Prop := (v ∈ ks ∧ ks' = ks ∧ ks[i]? = some v ∧ f = false) ∨ (v ∉ ks ∧ ks' = ks ++ [v] ∧ i = ks.length ∧ f = true)
theorem NumR.at {ks ks' : List Value} {v : Value} {i : Nat} {f : Bool} (h : NumR ks v ks' i f) : ks'[i]? = some v := by
  rcases h with ⟨-, rfl, h, -⟩ | ⟨-, rfl, rfl, -⟩
  · exact h
  · simp

end Go.Proofs.Ytjmajdfcfcgegaa

namespace Go.Proofs.Ytjmajdfcfcgegaa
open Go.RowKit

theorem Try.lawI : Maps.Keyed Try.prog 3 := Maps.int_keyed Try.underlying3
theorem Try.lawII : Maps.Keyed Try.prog 47 := Maps.Keyed.of_law (deep_law_laid Try.laidOutN (m := 2) (by omega) (of_decide_eq_true (by kernel_rfl)) (by kernel_rfl) (by rw [Try.underlying47]))
theorem wfI {n : Int} (h0 : -9223372036854775808 ≤ n) (h1 : n ≤ 9223372036854775807) : (Lit.int .i64 n).wf = true := WalkArith.wf_i64 (by omega)

theorem key_i {n : Int} (h0 : -9223372036854775808 ≤ n) (h1 : n ≤ 9223372036854775807) : KeyIs 3 (.int .i64 n) := by
  unfold KeyIs keyOf
  simp only [Try.underlying3]
  exact ⟨_, by simp [mapKey, Try.underlying3, wfI h0 h1]; rfl⟩

end Go.Proofs.Ytjmajdfcfcgegaa

namespace Go.Proofs.Ytjmajdfcfcgegaa
open Go.RowKit

set_option maxHeartbeats 2000000 in
set_option maxRecDepth 100000 in
theorem newI_any (w : World) : Calls Try.prog 36 #[] w fun e w' => e = .returned (.agg #[.map (some (w.heap.size + 1))]) ∧ NumAt 3 w' (w.heap.size + 1) [] ∧ w'.heap.size = w.heap.size + 2 ∧ Below w.heap.size w w' := by
  have hmm := @run_makeMap Try.prog
  have hN := num_new 3 (w.alloc (.cells #[.map (some (w.heap.size + 1))] 54))
  rw [sz_alloc] at hN
  have hB := below2 w (.cells #[.map (some (w.heap.size + 1))] 54) (.map #[] 0)
  have HN := hide hN
  have HB := hide hB
  clear hN hB
  go_enter Try.func36, Try.ntmps36
  go_wp2
  refine bodyPost_ret (v := .agg #[.map (some (w.heap.size + 1))]) (by simp [results, Try.results36, go_sem]) rfl ?_
  refine ⟨rfl, unhide HN, by rw [sz_alloc, sz_alloc], unhide HB⟩

set_option maxHeartbeats 4000000 in
set_option maxRecDepth 100000 in
theorem ofI_any (b : Nat) (x : Int) (ks : List Value) (w : World) (h : NumAt 3 w b ks) (h0 : -9223372036854775808 ≤ x) (h1 : x ≤ 9223372036854775807) (hn : ks.length < 100000) :
    Calls Try.prog 37 #[.agg #[.map (some b)], .int .i64 x] w fun e w' => ∃ i ks' f, e = .returned (.tuple #[.int .i64 (i : Nat), .bool f]) ∧ NumR ks (.int .i64 x) ks' i f ∧ NumAt 3 w' b ks' ∧ FrO (OneB w b) w w' := by
  have hB := below1 w (.cells #[.map (some b)] 54)
  have hlt := h.lt
  have hW := h.keep (hB.block b hlt)
  have HF0 : Hid (FrO (OneB w b) w (w.alloc (.cells #[.map (some b)] 54))) := fro_of hB (fun k hk => Or.inr hk)
  rcases hW.look Try.lawI Try.underlying52 (key_i h0 h1) with ⟨i, hi, hl⟩ | ⟨hno, hl⟩
  · have HW := hide hW
    have HI := hide hi
    clear hW hi h hB
    go_enter Try.func37, Try.ntmps37
    go_wp2
    go_ret2
    exact ⟨i, ks, false, rfl, Or.inl ⟨List.mem_of_getElem? (unhide HI), rfl, unhide HI, rfl⟩, unhide HW, unhide HF0⟩
  · have hln := fun ty => hW.len Try.underlying52 ty
    obtain ⟨w3, hput, hN3, hob⟩ := hW.put Try.lawI Try.underlying52 hn (key_i h0 h1) hno
    have HN3 := hide hN3
    have HF3 := hide ((unhide HF0).trans (hob.fro (Or.inl rfl)))
    have HNO := hide hno
    clear hW hno h hB hN3 hob
    go_enter Try.func37, Try.ntmps37
    go_wp2
    go_ret2
    exact ⟨ks.length, ks ++ [.int .i64 x], true, rfl, Or.inr ⟨unhide HNO, rfl, rfl, rfl⟩, unhide HN3, unhide HF3⟩

end Go.Proofs.Ytjmajdfcfcgegaa

namespace Go.Proofs.Ytjmajdfcfcgegaa
open Go.RowKit

def I64 (x : Int) : Prop := -9223372036854775808 ≤ x ∧ x ≤ 9223372036854775807
def ii (x y : Int) : Value := .agg #[.int .i64 x, .int .i64 y]
theorem key_ii {x y : Int} (hx : I64 x) (hy : I64 y) : KeyIs 47 (ii x y) := by
  have c1 : Try.prog.cellsOf 47 = 2 := by kernel_rfl
  have c2 : Try.prog.cellsOf 3 = 1 := by kernel_rfl
  have hk : Try.prog.keyType 47 = true := by kernel_rfl
  obtain ⟨m, hm⟩ : ∃ m, Try.prog.types.size = m + 1 := ⟨Try.prog.types.size - 1, by have : 0 < Try.prog.types.size := of_decide_eq_true (by kernel_rfl); omega⟩
  unfold KeyIs keyOf
  simp only [Try.underlying47]
  rw [if_pos (by simp [hk, Value.formed, Try.underlying47, c1, ii]), hm]
  unfold Program.keyLits
  simp only [Try.underlying47, Value.cells, ii]
  rw [if_pos (by rw [c1]; rfl)]
  simp [List.range_succ, Program.keyLits, Try.underlying3, c2, wfI hx.1 hx.2, wfI hy.1 hy.2]

set_option maxHeartbeats 2000000 in
set_option maxRecDepth 100000 in
theorem newII_any (w : World) : Calls Try.prog 31 #[] w fun e w' => e = .returned (.agg #[.map (some (w.heap.size + 1))]) ∧ NumAt 47 w' (w.heap.size + 1) [] ∧ w'.heap.size = w.heap.size + 2 ∧ Below w.heap.size w w' := by
  have hmm := @run_makeMap Try.prog
  have hN := num_new 47 (w.alloc (.cells #[.map (some (w.heap.size + 1))] 45))
  rw [sz_alloc] at hN
  have hB := below2 w (.cells #[.map (some (w.heap.size + 1))] 45) (.map #[] 0)
  have HN := hide hN
  have HB := hide hB
  clear hN hB
  go_enter Try.func31, Try.ntmps31
  go_wp2
  refine bodyPost_ret (v := .agg #[.map (some (w.heap.size + 1))]) (by simp [results, Try.results31, go_sem]) rfl ?_
  refine ⟨rfl, unhide HN, by rw [sz_alloc, sz_alloc], unhide HB⟩

set_option maxHeartbeats 4000000 in
set_option maxRecDepth 100000 in
theorem ofII_any (b : Nat) (x y : Int) (ks : List Value) (w : World) (h : NumAt 47 w b ks) (hx : I64 x) (hy : I64 y) (hn : ks.length < 100000) :
    Calls Try.prog 33 #[.agg #[.map (some b)], ii x y] w fun e w' => ∃ i ks' f, e = .returned (.tuple #[.int .i64 (i : Nat), .bool f]) ∧ NumR ks (ii x y) ks' i f ∧ NumAt 47 w' b ks' ∧ FrO (OneB w b) w w' := by
  have hB := below2 w (.cells #[.map (some b)] 45) (.cells #[.int .i64 x, .int .i64 y] 47)
  have hlt := h.lt
  have hW := h.keep (hB.block b hlt)
  have hz : ((w.alloc (.cells #[.map (some b)] 45)).alloc (.cells #[.int .i64 x, .int .i64 y] 47)).heap.size = w.heap.size + 2 := by rw [sz_alloc, sz_alloc]
  have HF0 : Hid (FrO (OneB w b) w ((w.alloc (.cells #[.map (some b)] 45)).alloc (.cells #[.int .i64 x, .int .i64 y] 47))) := fro_of hB (fun k hk => Or.inr hk)
  rcases hW.look Try.lawII Try.underlying43 (key_ii hx hy) with ⟨i, hi, hl⟩ | ⟨hno, hl⟩
  · have HW := hide hW
    have HI := hide hi
    clear hW hi h hB
    unfold ii at hl ⊢
    go_enter Try.func33, Try.ntmps33
    go_wp2
    go_ret2
    exact ⟨i, ks, false, rfl, Or.inl ⟨List.mem_of_getElem? (unhide HI), rfl, unhide HI, rfl⟩, unhide HW, unhide HF0⟩
  · have hln := fun ty => hW.len Try.underlying43 ty
    obtain ⟨w3, hput, hN3, hob⟩ := hW.put Try.lawII Try.underlying43 hn (key_ii hx hy) hno
    have HN3 := hide hN3
    have HF3 := hide ((unhide HF0).trans (hob.fro (Or.inl rfl)))
    have HNO := hide hno
    clear hW hno h hB hN3 hob
    unfold ii at hl hput ⊢
    go_enter Try.func33, Try.ntmps33
    go_wp2
    go_ret2
    exact ⟨ks.length, ks ++ [ii x y], true, rfl, Or.inr ⟨unhide HNO, rfl, rfl, rfl⟩, unhide HN3, unhide HF3⟩

end Go.Proofs.Ytjmajdfcfcgegaa

namespace Go.Proofs.Ytjmajdfcfcgegaa
open Go.RowKit

set_option maxHeartbeats 2000000 in
set_option maxRecDepth 100000 in
theorem countII_any (b : Nat) (ks : List Value) (w : World) (h : NumAt 47 w b ks) :
    Calls Try.prog 34 #[.agg #[.map (some b)]] w fun e w' => e = .returned (.int .i64 (ks.length : Nat)) ∧ Below w.heap.size w w' := by
  have hB := below1 w (.cells #[.map (some b)] 45)
  have hW := h.keep (hB.block b h.lt)
  have hln := fun ty => hW.len Try.underlying43 ty
  have HB := hide hB
  clear hW h hB
  go_enter Try.func34, Try.ntmps34
  go_wp2
  go_ret
  exact ⟨rfl, unhide HB⟩

end Go.Proofs.Ytjmajdfcfcgegaa
