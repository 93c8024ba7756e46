import Derived.Test.YtfdkdjngeomcdaaDoorP17
import Derived.Test.YtfdkdjngeomcdaaDoorP16
import Derived.Deep.AppendLies
import Derived.Deep.RegionLaw
namespace Go.Proofs.YtfdkdjngeomcdaaDoor
open Go.RowKit

/-- What nodeOf answers. -/
def NodeG (G : Value → List El × Int → Prop) (e : Ending) (xs : List El) : Prop :=
  (∃ u c, e = .returned (.tuple #[u, .bool true]) ∧ ValidT xs ∧ G u (xs, c) ∧ c ≤ 500 ∧ SegM xs c) ∨ (e = .returned (.tuple #[.nilIface, .bool false]) ∧ ¬ ValidT xs)

theorem NodeG.no {G : Value → List El × Int → Prop} {xs : List El} (h : ¬ ValidT xs) : NodeG G (.returned (.tuple #[.nilIface, .bool false])) xs := Or.inr ⟨rfl, h⟩

set_option maxHeartbeats 2000000 in
set_option maxRecDepth 100000 in
theorem gnodeOf_any {G : Value → List El × Int → Prop} (hG : Clos G) (v : Value) (xs : List El) (w : World) (hv : ElsAt 0 w.heap.size w v xs) :
    Calls Tryd.prog 24 #[v] w fun e w' => NodeG G e xs ∧ Below w.heap.size w w' := by
  obtain ⟨a, cp, rfl, hl, hc⟩ := hv
  unfold maxLen at hl
  by_cases n1 : xs.length < 1
  · have n1' : (xs.length : Int) < 1 := by omega
    go_enter Tryd.func24, Tryd.ntmps24
    go_wp2
    go_ret2
    exact ⟨NodeG.no (fun h => by have := h.1; omega), Below.refl _ _⟩
  · have n1' : ¬ (xs.length : Int) < 1 := by omega
    by_cases n2 : 3000 < xs.length
    · have n2' : 3000 < (xs.length : Int) := by omega
      go_enter Tryd.func24, Tryd.ntmps24
      go_wp2
      go_ret2
      exact ⟨NodeG.no (fun h => by have := h.1; omega), Below.refl _ _⟩
    · have n2' : ¬ 3000 < (xs.length : Int) := by omega
      go_enter Tryd.func24, Tryd.ntmps24
      go_wp2
      go_loopw [4, 17] (fun sv i wr => ∃ (k : Nat) (vals : List Value) (st : List (List El × Int)), k ≤ xs.length ∧ i = .int .i64 k ∧ wr.ownsRow w.heap.size 40 1 sv vals.length vals ∧ GVals G st vals ∧ flats st = xs.take k ∧ (∀ s ∈ st, SegM s.1 s.2) ∧ (∀ j : Nat, j < k → ElOk (xs[j]?.getD dE)) ∧ Below w.heap.size w wr) (fun _ i _ => xs.length - (intOf i).toNat)
      case atStart => exact ⟨0, [], [], Nat.zero_le _, rfl, World.ownsRow_nil _ _ _ _, trivial, by simp [flats], by simp, fun j hj => absurd hj (Nat.not_lt_zero _), Below.refl _ _⟩
      case round =>
        obtain ⟨k, vals, st, hk, rfl, hown, hst, hfl, htr, hok, hb⟩ := hrel
        have hsl := hst.len
        have hvl : vals.length ≤ k := by
          have h1 := wsum_flats (fun s hs => (htr s hs).ws)
          have h2 := (wsum_bd (flats st)).2
          rw [h1, hfl, List.length_take] at h2
          omega
        obtain ⟨ao, sc, rfl⟩ := own_slice hown
        have Hown := hide hown
        have Hst := hide hst
        have Hfl := hide hfl
        have Htr := hide htr
        have Hok := hide hok
        clear hown hst hfl htr hok
        by_cases hlt : k < xs.length
        · obtain ⟨b, off, rfl, -, hbn, hel⟩ := hc (by omega)
          obtain ⟨i1, i2, i3, v, c0, c1, c2, c3, hints⟩ := (hel k hlt).same (Same.of_below hb (Nat.le_refl _)) (Nat.zero_le _) hbn
          have hlt' : (k : Int) < (xs.length : Int) := by omega
          generalize hX : xs[k]?.getD dE = x at *
          have HX := hide hX
          clear hX hel
          obtain ⟨a', cap', rfl, -, -, -⟩ := id hints
          go_wp2_with fail
          refine (validElement_any _ x _ (by exact (hints.mono (Nat.le_refl _) hb.size).below (below1 wr _) (Nat.le_refl _))).mono ?_
          rintro e w1 ⟨hret, hb1⟩
          obtain ⟨hc1, hf1⟩ := bcell hb1
          simp only [sz_alloc] at hc1 hf1
          have hB1 : Below wr.heap.size wr w1 := (below1 wr _).trans (hb1.mono (by rw [sz_alloc]; omega))
          have hBW : Below w.heap.size w w1 := hb.trans (hB1.mono hb.size)
          have hsz1 := hB1.size
          have hsz0 := hb.size
          clear hb1
          rcases hret.cases with ⟨rfl, hgood⟩ | ⟨rfl, hbad⟩
          · have Hgood := hide hgood
            clear hgood
            by_cases hcn : (vals.length : Int) < cnt x.kind
            · go_wp2_with (go_at_call 44; refine (operandCount_any _ _).mono ?_; rintro e w2 ⟨rfl, hw2⟩; subst hw2)
              go_ret2
              exact ⟨NodeG.no (short_bad hlt (unhide Hfl) (unhide Htr) (by rw [unhide HX]; exact unhide Hgood) (by rw [unhide HX, hsl]; exact hcn)), hBW⟩
            · go_wp2_with (go_at_call 44; refine (operandCount_any _ _).mono ?_; rintro e w2 ⟨rfl, hw2⟩; subst hw2)
              refine (gpushElement_any hG w.heap.size _ _ vals st x _ (own_below (unhide Hown) hB1 (Nat.le_refl _)) (unhide Hst) (by omega) (by omega) ((hints.mono (Nat.le_refl _) hb.size).below hB1 (Nat.le_refl _)) (unhide Hgood) (by omega)).mono ?_
              rintro e w3 ⟨v', vals', st', rfl, hown', hp, hn, hb3⟩
              have hnext := hide (show flats st' = xs.take (k + 1) ∧ (∀ s ∈ st', SegM s.1 s.2) ∧ GVals G st' vals' from ⟨hp.flats.trans (by rw [unhide Hfl, take_next hlt, unhide HX]), hp.seg (unhide Hgood) (unhide Htr), hn⟩)
              have Hown' := hide hown'
              have hB3 := hBW.trans hb3
              clear hown' hp hn hb3 hc1 hf1
              go_wp2
              go_roundw
              case rel => exact ⟨k + 1, vals', st', by omega, by go_num, unhide Hown', (unhide hnext).2.2, (unhide hnext).1, (unhide hnext).2.1, fun j hj => by
                by_cases e : j = k
                · subst e; rw [unhide HX]; exact unhide Hgood
                · exact unhide Hok j (by omega), hB3⟩
              case measure => simp [intOf]; omega
          · have Hbad := hide hbad
            clear hbad
            go_wp2
            go_ret2
            exact ⟨NodeG.no (fun h => by have := h.2.1 k hlt; rw [unhide HX] at this; exact unhide Hbad this), hBW⟩
        · obtain rfl : k = xs.length := by omega
          have hxs : flats st = xs := by have h := unhide Hfl; rwa [List.take_length] at h
          have Hxs := hide hxs
          clear hxs Hfl
          by_cases hone : vals.length = 1
          · obtain ⟨u, rfl⟩ := List.length_eq_one_iff.1 hone
            obtain ⟨t, rfl⟩ := List.length_eq_one_iff.1 (hsl.trans hone)
            obtain ⟨u', e1, hu⟩ := (unhide Hst).one
            simp only [List.cons.injEq, and_true] at e1
            subst e1
            have hT := unhide Htr t (by simp)
            have hft : xs = t.1 := by rw [← unhide Hxs, flats_one]
            have hGt : Hid (G u (xs, t.2)) := by rw [hft]; exact hu
            rw [← hft] at hT
            have HT : Hid (SegM xs t.2) := hT
            have Hrun := hide (hT.run [])
            have Hsh := hide (show Shape xs from ⟨hT.ws, hT.tl⟩)
            clear hft hT
            have hus := hG.sz hu
            have bt := hus.2
            obtain ⟨T, y, F, rfl, hm, hcf, hF⟩ := hus.1
            generalize t.2 = c at *
            have HF := hide hF
            clear hF hu hus
            obtain ⟨g, cap, e2, hnc, hcm⟩ := own_len (unhide Hown) (by simp)
            simp only [Value.slice.injEq] at e2
            obtain ⟨rfl, -, rfl⟩ := e2
            have hcell : wr.cell? ⟨g, 0, none⟩ = some (.iface T y) := by rw [(unhide Hown).cellAt 0 (by simp)]; rfl
            have hgl : g < wr.heap.size := ((unhide Hown).lt g rfl).2
            clear hone
            simp only [List.length_cons, List.length_nil, Nat.zero_add] at *
            go_wp2_with fail
            with_reducible refine (unhide HF _).mono ?_
            rintro e w1 ⟨rfl, hb1⟩
            obtain ⟨hc1, hf1⟩ := bcell hb1
            have hB1 := hb.trans (hb1.mono hb.size)
            clear hb1
            by_cases h5 : 500 < c
            · go_wp2
              go_ret2
              exact ⟨NodeG.no (fun h => by obtain ⟨-, -, -, t2, e2, h2⟩ := h; rw [unhide Hrun] at e2; simp only [List.cons.injEq, and_true] at e2; omega), hB1⟩
            · go_wp2
              go_ret2
              exact ⟨Or.inl ⟨_, c, rfl, ⟨⟨by omega, by omega⟩, unhide Hok, unhide Hsh, c, unhide Hrun, by omega⟩, unhide hGt, by omega, unhide HT⟩, hB1⟩
          · have hone' : ((vals.length : Int) != 1) = true := by simp; omega
            go_wp2
            go_ret2
            exact ⟨NodeG.no (fun h => by have h1 := wsum_flats (fun s hs => (unhide Htr s hs).ws); rw [unhide Hxs, h.2.2.1.1] at h1; omega), hb⟩

end Go.Proofs.YtfdkdjngeomcdaaDoor

namespace Go.Proofs.YtfdkdjngeomcdaaDoor
open Go.RowKit

/-- The first j parts of a counted repetition. -/
def tk (X : List El) (m j : Nat) : List (List El) := List.replicate (min j m) X ++ List.replicate (j - m) (optE X)
theorem tk_lt {X : List El} {m j : Nat} (h : j < m) : tk X m (j + 1) = tk X m j ++ [X] := by
  unfold tk
  rw [show min (j + 1) m = j + 1 by omega, show j + 1 - m = 0 by omega, show min j m = j by omega, show j - m = 0 by omega, List.replicate_succ']
  simp
theorem tk_ge {X : List El} {m j : Nat} (h : m ≤ j) : tk X m (j + 1) = tk X m j ++ [optE X] := by
  unfold tk
  rw [show min (j + 1) m = m by omega, show j + 1 - m = (j - m) + 1 by omega, show min j m = m by omega, List.replicate_succ', List.append_assoc]
theorem tk_all {X : List El} {m M : Nat} (h : m ≤ M) : tk X m M = partsX X m M := by
  unfold tk partsX
  rw [if_neg (by omega), show min M m = m by omega, show ((m : Int)).toNat = m by omega, show ((M : Int) - (m : Int)).toNat = M - m by omega]
theorem tk_mem {X : List El} {m j : Nat} {p : List El} (h : p ∈ tk X m j) : p = X ∨ p = optE X := by
  unfold tk at h
  rcases List.mem_append.1 h with h | h
  · exact Or.inl (List.mem_replicate.1 h).2
  · exact Or.inr (List.mem_replicate.1 h).2
theorem tk_len (X : List El) (m j : Nat) : (tk X m j).length = j := by unfold tk; simp; omega
theorem optE_nice {X : List El} (h : Nice X) : Nice (optE X) := (h.app (Nice.op 0 0 0 (by simp [In64]) (by simp [In64]) (by simp [In64]))).app (Nice.op 3 0 0 (by simp [In64]) (by simp [In64]) (by simp [In64]))

end Go.Proofs.YtfdkdjngeomcdaaDoor

namespace Go.Proofs.YtfdkdjngeomcdaaDoor
open Go.RowKit

theorem joinParts_l (base n : Nat) (v : Value) (vals : List Value) (w : World) (hown : w.ownsRow base 40 1 v n vals) (hn : 0 < n) (hif : ∀ u ∈ vals, ∃ T x, u = .iface T x) (hl : n ≤ 1000000) :
    Calls Tryd.prog 63 #[v] w fun e w' => e = .returned (jV vals) ∧ w' = w := by
  have h1 := hown.1
  rw [Nat.mul_one] at h1
  cases vals with
  | nil => simp at h1; omega
  | cons p r =>
    have e : n = r.length + 1 := by rw [← h1]; rfl
    subst e
    exact joinParts_any base v p r w hown hif (by omega)

def partsV (U : Value) (mn mx : Int) : List Value :=
  if mx = -1 then List.replicate (mn - 1).toNat U ++ [rV U (if 1 < mn then 1 else mn) (-1)]
  else List.replicate mn.toNat U ++ List.replicate (mx - mn).toNat (aV U eV)
def repV (U : Value) (mn mx : Int) : Value := if mx = 0 then eV else jV (partsV U mn mx)

/-- The program expands this node to that. -/
def ExpV (u U : Value) : Prop := (∃ T x, U = .iface T x) ∧ ∀ w, Calls Tryd.prog 25 #[u] w fun e w' => e = .returned U ∧ Below w.heap.size w w'

theorem own_of_below {base n m e size : Nat} {w w' : World} {v : Value} {xs : List Value} (h : w.ownsRow base e size v n xs) (hb : Below m w w') (hm : w.heap.size ≤ m) : w'.ownsRow base e size v n xs := own_keep h hb hm

theorem copies_k (T : TypeId) (y : Value) (n : Int) (k : Nat) (hk : n.toNat = k) (w : World) (hn : n ≤ 1000) :
    Calls Tryd.prog 64 #[.iface T y, .int .i64 n] w fun e w' => ∃ v, e = .returned v ∧ w'.ownsRow w.heap.size 40 1 v k (List.replicate k (.iface T y)) ∧ Below w.heap.size w w' := by
  subst hk
  exact copies_any T y n w hn

theorem own_base {b b' e size n : Nat} {w : World} {v : Value} {xs : List Value} (h : w.ownsRow b e size v n xs) (hb : b = b') : w.ownsRow b' e size v n xs := hb ▸ h

set_option maxHeartbeats 2000000 in
theorem expandRep_zero (T : TypeId) (y : Value) (mn : Int) (w : World) :
    Calls Tryd.prog 46 #[.agg #[.iface T y, .int .i64 mn, .int .i64 0]] w fun e w' => e = .returned eV ∧ Below w.heap.size w w' := by
  go_enter Tryd.func46, Tryd.ntmps46
  go_wp2
  go_ret
  exact ⟨rfl, below1 w _⟩

set_option maxHeartbeats 2000000 in
set_option maxRecDepth 100000 in
theorem expandRep_star (T : TypeId) (y : Value) (T' : TypeId) (y' : Value) (mn : Int) (w : World) (h : ExpV (.iface T y) (.iface T' y')) (o2 : 0 ≤ mn) (o3 : mn ≤ 250) :
    Calls Tryd.prog 46 #[.agg #[.iface T y, .int .i64 mn, .int .i64 (-1)]] w fun e w' => e = .returned (jV (partsV (.iface T' y') mn (-1))) ∧ Below w.heap.size w w' := by
  obtain ⟨i0, hi, hz0, hz1, hz2⟩ := info_parts Tryd.info40
  have HE := hide h.2
  clear h
  have hw2 : IntKind.i64.wrap (mn - 1) = mn - 1 := by rw [IntKind.wrap_i64]; omega
  have hw1 : wrap64 (mn - 1) = mn - 1 := by unfold wrap64; omega
  obtain ⟨K, hK0⟩ : ∃ K : Nat, (mn - 1).toNat = K := ⟨_, rfl⟩
  have hK1 : K ≤ 250 := by omega
  have HK := hide hK0
  clear hK0
  by_cases h1 : 1 < mn
  · have hmi : min mn 1 = 1 := by omega
    go_enter Tryd.func46, Tryd.ntmps46
    go_wp2_with fail
    refine (unhide HE _).mono ?_
    rintro e w1 ⟨rfl, hb1⟩
    have hB1 : Below w.heap.size w w1 := (below1 w _).trans (hb1.mono (by rw [sz_alloc]; omega))
    obtain ⟨hcc, -⟩ := bcell hb1
    have hz1' := hb1.size
    rw [sz_alloc] at hz1'
    have q0 : w1.cell? ⟨w.heap.size, 0, none⟩ = some (.iface T y) := by rw [hcc _ _ (by rw [sz_alloc]; omega)]; simp
    have q1 : w1.cell? ⟨w.heap.size, 1, none⟩ = some (.int .i64 mn) := by rw [hcc _ _ (by rw [sz_alloc]; omega)]; simp
    have q2 : w1.cell? ⟨w.heap.size, 2, none⟩ = some (.int .i64 (-1)) := by rw [hcc _ _ (by rw [sz_alloc]; omega)]; simp
    have hlt1 : w.heap.size < w1.heap.size := by omega
    clear hb1 hcc
    have hst : Hid (∀ (w2 w3 : World) (v3 : Value), Below (w1.heap.size + 1) (w1.alloc (.cells #[.iface T' y', .int .i64 1, .int .i64 (-1)] 69)) w2 → Below (w1.heap.size + 1) w2 w3 → Below w.heap.size w w3) := fun w2 w3 v3 a1 a2 =>
      hB1.trans (((below1 w1 _).mono (by omega)).trans ((a1.mono (by omega)).trans (a2.mono (by omega))))
    have hJ : Hid (List.replicate K (.iface T' y') ++ [.iface 69 (.agg #[.iface T' y', .int .i64 1, .int .i64 (-1)])] = partsV (.iface T' y') mn (-1)) := by
      unfold partsV
      rw [if_pos rfl, unhide HK]
      first | rw [if_pos h1] | rw [if_neg (by omega)]
      rfl
    go_wp2_with fail
    go_region_law (((first | (refine step_call 64 #[.iface T' y', .int .i64 (mn - 1)] rfl (by kernel_rfl) (copies_k T' y' (mn - 1) K (unhide HK) _ (by omega)) ?_; rintro e w2 ⟨v2, rfl, hown2, hb2⟩; refine ⟨_, rfl, ?_⟩; have hb2' : Below (w1.heap.size + 1) (w1.alloc (.cells #[.iface T' y', .int .i64 1, .int .i64 (-1)] 69)) w2 := ⟨hb2.os, hb2.tape, hb2.output, hb2.size, fun k hk => hb2.block k (by simpa using hk)⟩; have hz2' : w1.heap.size + 1 ≤ w2.heap.size := (by have := hb2'.size; rwa [sz_alloc] at this); have c0 : w2.cell? ⟨w1.heap.size, 0, none⟩ = some (.iface T' y') := (by rw [hb2'.cell (p := ⟨w1.heap.size, 0, none⟩) (by show w1.heap.size < w1.heap.size + 1; omega)]; simp); have c1 : w2.cell? ⟨w1.heap.size, 1, none⟩ = some (.int .i64 1) := (by rw [hb2'.cell (p := ⟨w1.heap.size, 1, none⟩) (by show w1.heap.size < w1.heap.size + 1; omega)]; simp); have c2 : w2.cell? ⟨w1.heap.size, 2, none⟩ = some (.int .i64 (-1)) := (by rw [hb2'.cell (p := ⟨w1.heap.size, 2, none⟩) (by show w1.heap.size < w1.heap.size + 1; omega)]; simp); have Hown2 : Hid (w2.ownsRow (w1.heap.size + 1) 40 1 v2 K (List.replicate K (.iface T' y'))) := own_base hown2 (sz_alloc w1 (.cells #[.iface T' y', .int .i64 1, .int .i64 (-1)] 69)); clear hown2 hb2) | (refine step_call 64 #[.iface T' y', .int .i64 (mn - 1)] rfl (by kernel_rfl) (copies_k T' y' (mn - 1) K (unhide HK) _ (by omega)) ?_; rintro e w2 ⟨v2, rfl, hown2, hb2⟩; refine ⟨_, rfl, ?_⟩; have hb2' : Below (w1.heap.size + 1) (w1.alloc (.cells #[.iface T' y', .int .i64 1, .int .i64 (-1)] 69)) w2 := (below1 _ (.cells #[.iface 69 (.agg #[.iface T' y', .int .i64 1, .int .i64 (-1)])] 40)).mono (by rw [sz_alloc]; omega) |>.trans ⟨hb2.os, hb2.tape, hb2.output, hb2.size, fun k hk => hb2.block k (by simp; omega)⟩; have hz2' : w1.heap.size + 1 ≤ w2.heap.size := (by have := hb2'.size; rwa [sz_alloc] at this); have hnw : w2.cell? ⟨w1.heap.size + 1, 0, none⟩ = some (.iface 69 (.agg #[.iface T' y', .int .i64 1, .int .i64 (-1)])) := (by rw [hb2.cell (p := ⟨w1.heap.size + 1, 0, none⟩) (by show w1.heap.size + 1 < _; simp)]; simp); have Hown2 : Hid (w2.ownsRow (w1.heap.size + 1) 40 1 v2 K (List.replicate K (.iface T' y'))) := own_low hown2 (by simp); have Hnw := hide hnw; clear hown2 hb2 hnw) | (refine step_append_lies _ rfl (.tmp 26) (.tmp 29) 102 rfl (w1.heap.size + 1) 40 i0 .nilIface 1 16 Tryd.underlying102 hi hz0 hz1 hz2 rfl (by decide) v2 K (List.replicate K (.iface T' y')) (by simp [Act.eval]) (by refine Pushd.own (w := w2) (o := (.cells #[.iface 69 (.agg #[.iface T' y', .int .i64 1, .int .i64 (-1)])] 40)) ?_ (unhide Hown2); exact ⟨rfl, rfl, rfl, rfl⟩) ⟨w2.heap.size, 0, none⟩ 1 1 [.iface 69 (.agg #[.iface T' y', .int .i64 1, .int .i64 (-1)])] (by simp [Act.eval]) rfl (by refine Pushd.news (w := w2) (cs := #[.iface 69 (.agg #[.iface T' y', .int .i64 1, .int .i64 (-1)])]) (t := 40) ?_; exact ⟨rfl, rfl, rfl, rfl⟩) (fun u hu => by obtain rfl := List.mem_singleton.1 hu; rfl) (by decide) (by unfold maxLen; omega) (by omega) (by show w1.heap.size + 1 ≤ (w2.alloc _).heap.size; rw [sz_alloc]; omega) (w2.heap.size + 1) (sz_alloc w2 _) (fun g cap' w3 r1 r2 r3 r4 => ?_); have hB3 : Below (w1.heap.size + 1) w2 w3 := (((below1 w2 _).mono hz2').grown r2 (by show w1.heap.size + 1 ≤ (w2.alloc _).heap.size; rw [sz_alloc]; omega) (fun k hk => ((unhide Hown2).lt k hk).1)); have R1 := hide r1; clear r1 r2 r3 r4) | (refine step_append_lies _ rfl (.tmp 26) (.tmp 29) 102 rfl (w1.heap.size + 1) 40 i0 .nilIface 1 16 Tryd.underlying102 hi hz0 hz1 hz2 rfl (by decide) v2 K (List.replicate K (.iface T' y')) (by simp [Act.eval]) (unhide Hown2) ⟨w1.heap.size + 1, 0, none⟩ 1 1 [.iface 69 (.agg #[.iface T' y', .int .i64 1, .int .i64 (-1)])] (by simp [Act.eval]) rfl (cell_one (unhide Hnw)) (fun u hu => by obtain rfl := List.mem_singleton.1 hu; rfl) (by decide) (by unfold maxLen; omega) (by omega) hz2' w2.heap.size rfl (fun g cap' w3 r1 r2 r3 r4 => ?_); have hB3 : Below (w1.heap.size + 1) w2 w3 := ((Below.refl (w1.heap.size + 1) w2).grown r2 hz2' (fun k hk => ((unhide Hown2).lt k hk).1)); have R1 := hide r1; clear r1 r2 r3 r4) | (refine step_call 63 #[.slice (some ⟨g, 0, none⟩) (K + 1) cap'] rfl (by kernel_rfl) (joinParts_l _ _ _ _ w3 (unhide R1) (by omega) (fun u hu => by rcases List.mem_append.1 hu with hu | hu; exact ⟨_, _, (List.mem_replicate.1 hu).2⟩; exact ⟨_, _, List.mem_singleton.1 hu⟩) (by omega)) ?_; rintro e w4 ⟨rfl, rfl⟩; refine ⟨_, rfl, ?_⟩))))
    all_goals
      go_wp2
      go_ret
      exact ⟨congrArg (fun l => Ending.returned (jV l)) (unhide hJ), unhide hst _ _ v2 hb2' hB3⟩
  · have hmi : min mn 1 = mn := by omega
    go_enter Tryd.func46, Tryd.ntmps46
    go_wp2_with fail
    refine (unhide HE _).mono ?_
    rintro e w1 ⟨rfl, hb1⟩
    have hB1 : Below w.heap.size w w1 := (below1 w _).trans (hb1.mono (by rw [sz_alloc]; omega))
    obtain ⟨hcc, -⟩ := bcell hb1
    have hz1' := hb1.size
    rw [sz_alloc] at hz1'
    have q0 : w1.cell? ⟨w.heap.size, 0, none⟩ = some (.iface T y) := by rw [hcc _ _ (by rw [sz_alloc]; omega)]; simp
    have q1 : w1.cell? ⟨w.heap.size, 1, none⟩ = some (.int .i64 mn) := by rw [hcc _ _ (by rw [sz_alloc]; omega)]; simp
    have q2 : w1.cell? ⟨w.heap.size, 2, none⟩ = some (.int .i64 (-1)) := by rw [hcc _ _ (by rw [sz_alloc]; omega)]; simp
    have hlt1 : w.heap.size < w1.heap.size := by omega
    clear hb1 hcc
    have hst : Hid (∀ (w2 w3 : World) (v3 : Value), Below (w1.heap.size + 1) (w1.alloc (.cells #[.iface T' y', .int .i64 mn, .int .i64 (-1)] 69)) w2 → Below (w1.heap.size + 1) w2 w3 → Below w.heap.size w w3) := fun w2 w3 v3 a1 a2 =>
      hB1.trans (((below1 w1 _).mono (by omega)).trans ((a1.mono (by omega)).trans (a2.mono (by omega))))
    have hJ : Hid (List.replicate K (.iface T' y') ++ [.iface 69 (.agg #[.iface T' y', .int .i64 mn, .int .i64 (-1)])] = partsV (.iface T' y') mn (-1)) := by
      unfold partsV
      rw [if_pos rfl, unhide HK]
      first | rw [if_pos h1] | rw [if_neg (by omega)]
      rfl
    go_wp2_with fail
    go_region_law (((first | (refine step_call 64 #[.iface T' y', .int .i64 (mn - 1)] rfl (by kernel_rfl) (copies_k T' y' (mn - 1) K (unhide HK) _ (by omega)) ?_; rintro e w2 ⟨v2, rfl, hown2, hb2⟩; refine ⟨_, rfl, ?_⟩; have hb2' : Below (w1.heap.size + 1) (w1.alloc (.cells #[.iface T' y', .int .i64 mn, .int .i64 (-1)] 69)) w2 := ⟨hb2.os, hb2.tape, hb2.output, hb2.size, fun k hk => hb2.block k (by simpa using hk)⟩; have hz2' : w1.heap.size + 1 ≤ w2.heap.size := (by have := hb2'.size; rwa [sz_alloc] at this); have c0 : w2.cell? ⟨w1.heap.size, 0, none⟩ = some (.iface T' y') := (by rw [hb2'.cell (p := ⟨w1.heap.size, 0, none⟩) (by show w1.heap.size < w1.heap.size + 1; omega)]; simp); have c1 : w2.cell? ⟨w1.heap.size, 1, none⟩ = some (.int .i64 mn) := (by rw [hb2'.cell (p := ⟨w1.heap.size, 1, none⟩) (by show w1.heap.size < w1.heap.size + 1; omega)]; simp); have c2 : w2.cell? ⟨w1.heap.size, 2, none⟩ = some (.int .i64 (-1)) := (by rw [hb2'.cell (p := ⟨w1.heap.size, 2, none⟩) (by show w1.heap.size < w1.heap.size + 1; omega)]; simp); have Hown2 : Hid (w2.ownsRow (w1.heap.size + 1) 40 1 v2 K (List.replicate K (.iface T' y'))) := own_base hown2 (sz_alloc w1 (.cells #[.iface T' y', .int .i64 mn, .int .i64 (-1)] 69)); clear hown2 hb2) | (refine step_call 64 #[.iface T' y', .int .i64 (mn - 1)] rfl (by kernel_rfl) (copies_k T' y' (mn - 1) K (unhide HK) _ (by omega)) ?_; rintro e w2 ⟨v2, rfl, hown2, hb2⟩; refine ⟨_, rfl, ?_⟩; have hb2' : Below (w1.heap.size + 1) (w1.alloc (.cells #[.iface T' y', .int .i64 mn, .int .i64 (-1)] 69)) w2 := (below1 _ (.cells #[.iface 69 (.agg #[.iface T' y', .int .i64 mn, .int .i64 (-1)])] 40)).mono (by rw [sz_alloc]; omega) |>.trans ⟨hb2.os, hb2.tape, hb2.output, hb2.size, fun k hk => hb2.block k (by simp; omega)⟩; have hz2' : w1.heap.size + 1 ≤ w2.heap.size := (by have := hb2'.size; rwa [sz_alloc] at this); have hnw : w2.cell? ⟨w1.heap.size + 1, 0, none⟩ = some (.iface 69 (.agg #[.iface T' y', .int .i64 mn, .int .i64 (-1)])) := (by rw [hb2.cell (p := ⟨w1.heap.size + 1, 0, none⟩) (by show w1.heap.size + 1 < _; simp)]; simp); have Hown2 : Hid (w2.ownsRow (w1.heap.size + 1) 40 1 v2 K (List.replicate K (.iface T' y'))) := own_low hown2 (by simp); have Hnw := hide hnw; clear hown2 hb2 hnw) | (refine step_append_lies _ rfl (.tmp 26) (.tmp 29) 102 rfl (w1.heap.size + 1) 40 i0 .nilIface 1 16 Tryd.underlying102 hi hz0 hz1 hz2 rfl (by decide) v2 K (List.replicate K (.iface T' y')) (by simp [Act.eval]) (by refine Pushd.own (w := w2) (o := (.cells #[.iface 69 (.agg #[.iface T' y', .int .i64 mn, .int .i64 (-1)])] 40)) ?_ (unhide Hown2); exact ⟨rfl, rfl, rfl, rfl⟩) ⟨w2.heap.size, 0, none⟩ 1 1 [.iface 69 (.agg #[.iface T' y', .int .i64 mn, .int .i64 (-1)])] (by simp [Act.eval]) rfl (by refine Pushd.news (w := w2) (cs := #[.iface 69 (.agg #[.iface T' y', .int .i64 mn, .int .i64 (-1)])]) (t := 40) ?_; exact ⟨rfl, rfl, rfl, rfl⟩) (fun u hu => by obtain rfl := List.mem_singleton.1 hu; rfl) (by decide) (by unfold maxLen; omega) (by omega) (by show w1.heap.size + 1 ≤ (w2.alloc _).heap.size; rw [sz_alloc]; omega) (w2.heap.size + 1) (sz_alloc w2 _) (fun g cap' w3 r1 r2 r3 r4 => ?_); have hB3 : Below (w1.heap.size + 1) w2 w3 := (((below1 w2 _).mono hz2').grown r2 (by show w1.heap.size + 1 ≤ (w2.alloc _).heap.size; rw [sz_alloc]; omega) (fun k hk => ((unhide Hown2).lt k hk).1)); have R1 := hide r1; clear r1 r2 r3 r4) | (refine step_append_lies _ rfl (.tmp 26) (.tmp 29) 102 rfl (w1.heap.size + 1) 40 i0 .nilIface 1 16 Tryd.underlying102 hi hz0 hz1 hz2 rfl (by decide) v2 K (List.replicate K (.iface T' y')) (by simp [Act.eval]) (unhide Hown2) ⟨w1.heap.size + 1, 0, none⟩ 1 1 [.iface 69 (.agg #[.iface T' y', .int .i64 mn, .int .i64 (-1)])] (by simp [Act.eval]) rfl (cell_one (unhide Hnw)) (fun u hu => by obtain rfl := List.mem_singleton.1 hu; rfl) (by decide) (by unfold maxLen; omega) (by omega) hz2' w2.heap.size rfl (fun g cap' w3 r1 r2 r3 r4 => ?_); have hB3 : Below (w1.heap.size + 1) w2 w3 := ((Below.refl (w1.heap.size + 1) w2).grown r2 hz2' (fun k hk => ((unhide Hown2).lt k hk).1)); have R1 := hide r1; clear r1 r2 r3 r4) | (refine step_call 63 #[.slice (some ⟨g, 0, none⟩) (K + 1) cap'] rfl (by kernel_rfl) (joinParts_l _ _ _ _ w3 (unhide R1) (by omega) (fun u hu => by rcases List.mem_append.1 hu with hu | hu; exact ⟨_, _, (List.mem_replicate.1 hu).2⟩; exact ⟨_, _, List.mem_singleton.1 hu⟩) (by omega)) ?_; rintro e w4 ⟨rfl, rfl⟩; refine ⟨_, rfl, ?_⟩))))
    all_goals
      go_wp2
      go_ret
      exact ⟨congrArg (fun l => Ending.returned (jV l)) (unhide hJ), unhide hst _ _ v2 hb2' hB3⟩

end Go.Proofs.YtfdkdjngeomcdaaDoor

namespace Go.Proofs.YtfdkdjngeomcdaaDoor
open Go.RowKit

/-- The length of parts that are joined. -/
def jl : List (List El) → Nat
  | [] => 0
  | p :: r => p.length + 1 + jl r
theorem jl_app (a b : List (List El)) : jl (a ++ b) = jl a + jl b := by
  induction a with
  | nil => simp [jl]
  | cons p r ih => simp only [List.cons_append, jl, ih]; omega
theorem jl_rep (p : List El) (n : Nat) : jl (List.replicate n p) = n * (p.length + 1) := by
  induction n with
  | zero => simp [jl]
  | succ n ih => simp only [List.replicate_succ, jl, ih, Nat.succ_mul]; omega
theorem jn_jl (ps : List (List El)) (h : ps ≠ []) : (jn ps).length + 1 = jl ps := by
  match ps with
  | p :: r =>
    have key : ∀ (r : List (List El)) (acc : List El), (r.foldl (fun acc q => acc ++ q ++ [catE]) acc).length = acc.length + jl r := by
      intro r
      induction r with
      | nil => intro acc; simp [jl]
      | cons q r ih => intro acc; simp only [List.foldl_cons, ih, jl, List.length_append, List.length_singleton]; omega
    simp only [jn, key, jl]
    omega

theorem partsX_ne (X : List El) (mn mx : Int) (h : mx = -1 ∨ (0 < mx ∧ mn ≤ mx ∧ 0 ≤ mn)) : partsX X mn mx ≠ [] := by
  unfold partsX
  rcases h with h | ⟨h1, h2, h3⟩
  · rw [if_pos h]; simp
  · rw [if_neg (by omega)]
    intro e
    have := congrArg List.length e
    simp at this
    omega
theorem partsV_ne (U : Value) (mn mx : Int) (h : mx = -1 ∨ (0 < mx ∧ mn ≤ mx ∧ 0 ≤ mn)) : partsV U mn mx ≠ [] := by
  unfold partsV
  rcases h with h | ⟨h1, h2, h3⟩
  · rw [if_pos h]; simp
  · rw [if_neg (by omega)]
    intro e
    have := congrArg List.length e
    simp at this
    omega

/-- What is written out is bounded by the size. -/
theorem parts_len (X : List El) (c mn mx : Int) (hX : (X.length : Int) ≤ 2 * c - 1) (o2 : 0 ≤ mn) (h : mx = -1 ∨ (0 < mx ∧ mn ≤ mx)) : ((jn (partsX X mn mx)).length : Int) ≤ 2 * repSize c mn mx - 1 := by
  have hne := partsX_ne X mn mx (h.imp id (fun q => ⟨q.1, q.2, o2⟩))
  have h1 := jn_jl _ hne
  rcases h with h | ⟨h3, h4⟩
  · subst h
    have e : jl (partsX X mn (-1)) = (mn - 1).toNat * (X.length + 1) + (X.length + 2) := by
      unfold partsX
      rw [if_pos rfl, jl_app, jl_rep]
      simp [jl]
    have hm : (((mn - 1).toNat * (X.length + 1) : Nat) : Int) ≤ ((mn - 1).toNat : Int) * (2 * c) := by
      rw [Int.natCast_mul]
      exact Int.mul_le_mul_of_nonneg_left (by omega) (by omega)
    by_cases hmn : mn < 1
    · rw [show (mn - 1).toNat = 0 by omega] at e hm
      rw [repSize_a hmn]
      omega
    · rw [repSize_b hmn]
      have e2 : ((mn - 1).toNat : Int) * (2 * c) = 2 * (mn * c) - 2 * c := by
        rw [show ((mn - 1).toNat : Int) = mn - 1 by omega, Int.sub_mul, Int.one_mul, ← Int.mul_assoc, Int.mul_comm mn 2, Int.mul_assoc]
      omega
  · have e : jl (partsX X mn mx) = mn.toNat * (X.length + 1) + (mx - mn).toNat * (X.length + 3) := by
      unfold partsX
      rw [if_neg (by omega), jl_app, jl_rep, jl_rep]
      simp [optE]
    have hm : ((mn.toNat * (X.length + 1) : Nat) : Int) ≤ mn * (2 * c) := by
      rw [Int.natCast_mul, show (mn.toNat : Int) = mn by omega]
      exact Int.mul_le_mul_of_nonneg_left (by omega) (by omega)
    have hm2 : (((mx - mn).toNat * (X.length + 3) : Nat) : Int) ≤ (mx - mn) * (2 * (c + 1)) := by
      rw [Int.natCast_mul, show ((mx - mn).toNat : Int) = mx - mn by omega]
      exact Int.mul_le_mul_of_nonneg_left (by omega) (by omega)
    rw [repSize_d (by omega) (by omega)]
    have e2 : mn * (2 * c) = 2 * (mn * c) := by rw [← Int.mul_assoc, Int.mul_comm mn 2, Int.mul_assoc]
    have e3 : (mx - mn) * (2 * (c + 1)) = 2 * ((mx - mn) * (c + 1)) := by rw [← Int.mul_assoc, Int.mul_comm (mx - mn) 2, Int.mul_assoc]
    omega

theorem rep_ge (c mn mx : Int) (hc : 0 ≤ c) (o2 : 0 ≤ mn) (h : mx = -1 ∨ (mn ≤ mx ∧ mx ≤ 250)) : c ≤ repSize c mn mx := by
  rcases h with h | ⟨h1, -⟩
  · subst h
    by_cases hmn : mn < 1
    · rw [repSize_a hmn]; omega
    · rw [repSize_b hmn]
      have : 1 * c ≤ mn * c := Int.mul_le_mul_of_nonneg_right (by omega) hc
      omega
  · by_cases h0 : mx = 0
    · subst h0; rw [repSize_c]; exact Int.le_refl _
    · rw [repSize_d (by omega) h0]
      have p1 : 0 ≤ mn * c := Int.mul_nonneg o2 hc
      have p2 : 0 ≤ (mx - mn) * (c + 1) := Int.mul_nonneg (by omega) (by omega)
      by_cases h2 : 0 < mn
      · have : 1 * c ≤ mn * c := Int.mul_le_mul_of_nonneg_right (by omega) hc
        omega
      · have : 1 * (c + 1) ≤ (mx - mn) * (c + 1) := Int.mul_le_mul_of_nonneg_right (by omega) (by omega)
        omega

end Go.Proofs.YtfdkdjngeomcdaaDoor

namespace Go.Proofs.YtfdkdjngeomcdaaDoor
open Go.RowKit

/-- The lists that are written out, on the stack, top first, behind one element more. -/
def xPush (st : List (List El)) (x : El) : List (List El) :=
  if x.kind = 0 ∨ x.kind = 1 then [x] :: st else
  match st with
  | [] => []
  | [o] => if x.kind = 4 then [repX o x.mn x.mx] else [o]
  | r :: l :: b => if x.kind = 4 then repX r x.mn x.mx :: l :: b else (l ++ r ++ [x]) :: b
def xRun (st : List (List El)) : List El → List (List El)
  | [] => st
  | x :: r => xRun (xPush st x) r
theorem xRun_append (st : List (List El)) (a b : List El) : xRun st (a ++ b) = xRun (xRun st a) b := by
  induction a generalizing st with
  | nil => rfl
  | cons x r ih => simp [xRun, ih]
def SegX (seg L : List El) : Prop := ∀ st, xRun st seg = L :: st
theorem SegX.leaf {x : El} (h : x.kind = 0 ∨ x.kind = 1) : SegX [x] [x] := fun st => by simp only [xRun, xPush]; rw [if_pos h]
theorem SegX.bin {a b A B : List El} {x : El} (ha : SegX a A) (hb : SegX b B) (h : x.kind = 2 ∨ x.kind = 3) : SegX (a ++ b ++ [x]) (A ++ B ++ [x]) := fun st => by
  rw [xRun_append, xRun_append, ha, hb]
  simp only [xRun, xPush]
  rw [if_neg (by omega), if_neg (by omega)]
theorem SegX.rep {a A : List El} {x : El} (ha : SegX a A) (h : x.kind = 4) : SegX (a ++ [x]) (repX A x.mn x.mx) := fun st => by
  rw [xRun_append, ha]
  cases st with
  | nil => simp only [xRun, xPush]; rw [if_neg (by omega), if_pos h]
  | cons q st => simp only [xRun, xPush]; rw [if_neg (by omega), if_pos h]
theorem SegX.one {a A B : List El} (h : SegX a A) (k : SegX a B) : A = B := by
  have := (h []).symm.trans (k [])
  simpa using this

theorem cap_small {n : Int} (h : cap n ≤ 500) : cap n = n ∧ n ≤ 500 := by
  unfold cap at h ⊢
  by_cases e : 500 < n
  · rw [if_pos e] at h; omega
  · rw [if_neg e]; exact ⟨rfl, by omega⟩

theorem canon_len {xs : List Int} (h : Canon xs) : xs.length ≤ 300 := by
  by_cases q : xs.length ≤ 258
  · omega
  · have h1 := canon_ge h 129 (by omega)
    have h2 := (h.2.1 (2 * 129) (by omega)).2
    omega

theorem nice_set {xs : List Int} (h : Canon xs) : Nice [⟨1, xs, 0, 0⟩] := by
  refine ⟨fun i => ?_, fun i => ?_⟩
  · cases i with
    | zero =>
      refine ⟨by simp [In64], by simp [In64], by simp [In64], fun j => ?_⟩
      by_cases hj : j < xs.length
      · have := h.2.1 j hj
        show In64 (xs[j]?.getD 0)
        unfold In64
        omega
      · show In64 (xs[j]?.getD 0)
        rw [List.getElem?_eq_none (by omega)]
        simp [In64]
    | succ i => simp [dE, In64]
  · cases i with
    | zero => have := canon_len h; show xs.length ≤ 1048576; omega
    | succ i => simp [dE]

theorem parts_nice {X : List El} (h : Nice X) (mn mx : Int) (o2 : 0 ≤ mn) (o3 : mn ≤ 250) : Nice (jn (partsX X mn mx)) := by
  refine jn_nice _ (fun p hp => ?_)
  unfold partsX at hp
  by_cases e : mx = -1
  · rw [if_pos e] at hp
    rcases List.mem_append.1 hp with hp | hp
    · rw [(List.mem_replicate.1 hp).2]; exact h
    · rw [List.mem_singleton.1 hp]
      exact h.app (Nice.op _ _ _ (by simp [In64]) (by unfold In64; split <;> omega) (by simp [In64]))
  · rw [if_neg e] at hp
    rcases List.mem_append.1 hp with hp | hp
    · rw [(List.mem_replicate.1 hp).2]; exact h
    · rw [(List.mem_replicate.1 hp).2]; exact optE_nice h

theorem jV_iface {vs : List Value} (h : vs ≠ []) (hi : ∀ u ∈ vs, ∃ T x, u = .iface T x) : ∃ T x, jV vs = .iface T x := by
  match vs with
  | p :: r => exact foldV r p (hi p (by simp))
  | [] => exact absurd rfl h
theorem parts_iface {U : Value} (h : ∃ T x, U = .iface T x) (mn mx : Int) : ∀ u ∈ partsV U mn mx, ∃ T x, u = .iface T x := by
  intro u hu
  unfold partsV at hu
  by_cases e : mx = -1
  · rw [if_pos e] at hu
    rcases List.mem_append.1 hu with hu | hu
    · rw [(List.mem_replicate.1 hu).2]; exact h
    · rw [List.mem_singleton.1 hu]; exact ⟨_, _, rfl⟩
  · rw [if_neg e] at hu
    rcases List.mem_append.1 hu with hu | hu
    · rw [(List.mem_replicate.1 hu).2]; exact h
    · rw [(List.mem_replicate.1 hu).2]; exact ⟨_, _, rfl⟩

end Go.Proofs.YtfdkdjngeomcdaaDoor
