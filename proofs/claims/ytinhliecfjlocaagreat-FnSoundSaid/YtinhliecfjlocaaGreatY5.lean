import Derived.Test.YtinhliecfjlocaaGreatY4
import Derived.Deep.AppendLies
import Derived.Deep.RegionLaw
namespace Go.Proofs.YtinhliecfjlocaaGreat
open Go.RowKit
theorem joinParts_l (base n : Nat) (v : Value) (vals : List Value) (w : World) (hown : w.ownsRow base 82 1 v n vals) (hn : 0 < n) (hif : ∀ u ∈ vals, ∃ T x, u = .iface T x) (hl : n ≤ 1000000) :
    Calls Tryz.prog 106 #[v] w fun e w' => e = .returned (jV vals) ∧ w' = w := by
  have h1 := hown.1
  rw [Nat.mul_one] at h1
  cases vals with
  | nil => simp at h1; omega
  | cons p r =>
    have e : n = r.length + 1 := by rw [← h1]; rfl
    subst e
    exact joinParts_any base v p r w hown hif (by omega)
def partsV (U : Value) (mn mx : Int) : List Value :=
  if mx = -1 then List.replicate (mn - 1).toNat U ++ [rV U (if 1 < mn then 1 else mn) (-1)]
  else List.replicate mn.toNat U ++ List.replicate (mx - mn).toNat (aV U eV)
def ExpV (u U : Value) : Prop := (∃ T x, U = .iface T x) ∧ ∀ w, Calls Tryz.prog 44 #[u] w fun e w' => e = .returned U ∧ Below w.heap.size w w'
theorem copies_k (T : TypeId) (y : Value) (n : Int) (k : Nat) (hk : n.toNat = k) (w : World) (hn : n ≤ 1000) :
    Calls Tryz.prog 107 #[.iface T y, .int .i64 n] w fun e w' => ∃ v, e = .returned v ∧ w'.ownsRow w.heap.size 82 1 v k (List.replicate k (.iface T y)) ∧ Below w.heap.size w w' := by
  subst hk
  exact copies_any T y n w hn
theorem own_base {b b' e size n : Nat} {w : World} {v : Value} {xs : List Value} (h : w.ownsRow b e size v n xs) (hb : b = b') : w.ownsRow b' e size v n xs := hb ▸ h
set_option maxHeartbeats 2000000 in
theorem expandRep_zero (T : TypeId) (y : Value) (mn : Int) (w : World) :
    Calls Tryz.prog 83 #[.agg #[.iface T y, .int .i64 mn, .int .i64 0]] w fun e w' => e = .returned eV ∧ Below w.heap.size w w' := by
  go_enter Tryz.func83, Tryz.ntmps83
  go_wp2
  go_ret
  exact ⟨rfl, below1 w _⟩
set_option maxHeartbeats 2000000 in
set_option maxRecDepth 100000 in
theorem expandRep_star (T : TypeId) (y : Value) (T' : TypeId) (y' : Value) (mn : Int) (w : World) (h : ExpV (.iface T y) (.iface T' y')) (o2 : 0 ≤ mn) (o3 : mn ≤ 250) :
    Calls Tryz.prog 83 #[.agg #[.iface T y, .int .i64 mn, .int .i64 (-1)]] w fun e w' => e = .returned (jV (partsV (.iface T' y') mn (-1))) ∧ Below w.heap.size w w' := by
  obtain ⟨i0, hi, hz0, hz1, hz2⟩ := info_parts Tryz.info82
  have HE := hide h.2
  clear h
  have hw2 : IntKind.i64.wrap (mn - 1) = mn - 1 := by rw [IntKind.wrap_i64]; omega
  have hw1 : wrap64 (mn - 1) = mn - 1 := by unfold wrap64; omega
  obtain ⟨K, hK0⟩ : ∃ K : Nat, (mn - 1).toNat = K := ⟨_, rfl⟩
  have hK1 : K ≤ 250 := by omega
  have HK := hide hK0
  clear hK0
  by_cases h1 : 1 < mn
  · have hmi : min mn 1 = 1 := by omega
    go_enter Tryz.func83, Tryz.ntmps83
    go_wp2_with fail
    refine (unhide HE _).mono ?_
    rintro e w1 ⟨rfl, hb1⟩
    have hB1 : Below w.heap.size w w1 := (below1 w _).trans (hb1.mono (by rw [sz_alloc]; omega))
    obtain ⟨hcc, -⟩ := bcell hb1
    have hz1' := hb1.size
    rw [sz_alloc] at hz1'
    have q0 : w1.cell? ⟨w.heap.size, 0, none⟩ = some (.iface T y) := by rw [hcc _ _ (by rw [sz_alloc]; omega)]; simp
    have q1 : w1.cell? ⟨w.heap.size, 1, none⟩ = some (.int .i64 mn) := by rw [hcc _ _ (by rw [sz_alloc]; omega)]; simp
    have q2 : w1.cell? ⟨w.heap.size, 2, none⟩ = some (.int .i64 (-1)) := by rw [hcc _ _ (by rw [sz_alloc]; omega)]; simp
    have hlt1 : w.heap.size < w1.heap.size := by omega
    clear hb1 hcc
    have hst : Hid (∀ (w2 w3 : World) (v3 : Value), Below (w1.heap.size + 1) (w1.alloc (.cells #[.iface T' y', .int .i64 1, .int .i64 (-1)] 136)) w2 → Below (w1.heap.size + 1) w2 w3 → Below w.heap.size w w3) := fun w2 w3 v3 a1 a2 =>
      hB1.trans (((below1 w1 _).mono (by omega)).trans ((a1.mono (by omega)).trans (a2.mono (by omega))))
    have hJ : Hid (List.replicate K (.iface T' y') ++ [.iface 136 (.agg #[.iface T' y', .int .i64 1, .int .i64 (-1)])] = partsV (.iface T' y') mn (-1)) := by
      unfold partsV
      rw [if_pos rfl, unhide HK]
      first | rw [if_pos h1] | rw [if_neg (by omega)]
      rfl
    go_wp2_with fail
    go_region_law (((first | (refine step_call 107 #[.iface T' y', .int .i64 (mn - 1)] rfl (by kernel_rfl) (copies_k T' y' (mn - 1) K (unhide HK) _ (by omega)) ?_; rintro e w2 ⟨v2, rfl, hown2, hb2⟩; refine ⟨_, rfl, ?_⟩; have hb2' : Below (w1.heap.size + 1) (w1.alloc (.cells #[.iface T' y', .int .i64 1, .int .i64 (-1)] 136)) w2 := ⟨hb2.os, hb2.tape, hb2.output, hb2.size, fun k hk => hb2.block k (by simpa using hk)⟩; have hz2' : w1.heap.size + 1 ≤ w2.heap.size := (by have := hb2'.size; rwa [sz_alloc] at this); have c0 : w2.cell? ⟨w1.heap.size, 0, none⟩ = some (.iface T' y') := (by rw [hb2'.cell (p := ⟨w1.heap.size, 0, none⟩) (by show w1.heap.size < w1.heap.size + 1; omega)]; simp); have c1 : w2.cell? ⟨w1.heap.size, 1, none⟩ = some (.int .i64 1) := (by rw [hb2'.cell (p := ⟨w1.heap.size, 1, none⟩) (by show w1.heap.size < w1.heap.size + 1; omega)]; simp); have c2 : w2.cell? ⟨w1.heap.size, 2, none⟩ = some (.int .i64 (-1)) := (by rw [hb2'.cell (p := ⟨w1.heap.size, 2, none⟩) (by show w1.heap.size < w1.heap.size + 1; omega)]; simp); have Hown2 : Hid (w2.ownsRow (w1.heap.size + 1) 82 1 v2 K (List.replicate K (.iface T' y'))) := own_base hown2 (sz_alloc w1 (.cells #[.iface T' y', .int .i64 1, .int .i64 (-1)] 136)); clear hown2 hb2) | (refine step_call 107 #[.iface T' y', .int .i64 (mn - 1)] rfl (by kernel_rfl) (copies_k T' y' (mn - 1) K (unhide HK) _ (by omega)) ?_; rintro e w2 ⟨v2, rfl, hown2, hb2⟩; refine ⟨_, rfl, ?_⟩; have hb2' : Below (w1.heap.size + 1) (w1.alloc (.cells #[.iface T' y', .int .i64 1, .int .i64 (-1)] 136)) w2 := (below1 _ (.cells #[.iface 136 (.agg #[.iface T' y', .int .i64 1, .int .i64 (-1)])] 82)).mono (by rw [sz_alloc]; omega) |>.trans ⟨hb2.os, hb2.tape, hb2.output, hb2.size, fun k hk => hb2.block k (by simp; omega)⟩; have hz2' : w1.heap.size + 1 ≤ w2.heap.size := (by have := hb2'.size; rwa [sz_alloc] at this); have hnw : w2.cell? ⟨w1.heap.size + 1, 0, none⟩ = some (.iface 136 (.agg #[.iface T' y', .int .i64 1, .int .i64 (-1)])) := (by rw [hb2.cell (p := ⟨w1.heap.size + 1, 0, none⟩) (by show w1.heap.size + 1 < _; simp)]; simp); have Hown2 : Hid (w2.ownsRow (w1.heap.size + 1) 82 1 v2 K (List.replicate K (.iface T' y'))) := own_low hown2 (by simp); have Hnw := hide hnw; clear hown2 hb2 hnw) | (refine step_append_lies _ rfl (.tmp 26) (.tmp 29) 120 rfl (w1.heap.size + 1) 82 i0 .nilIface 1 16 Tryz.underlying120 hi hz0 hz1 hz2 rfl (by decide) v2 K (List.replicate K (.iface T' y')) (by simp [Act.eval]) (by refine Pushd.own (w := w2) (o := (.cells #[.iface 136 (.agg #[.iface T' y', .int .i64 1, .int .i64 (-1)])] 82)) ?_ (unhide Hown2); exact ⟨rfl, rfl, rfl, rfl⟩) ⟨w2.heap.size, 0, none⟩ 1 1 [.iface 136 (.agg #[.iface T' y', .int .i64 1, .int .i64 (-1)])] (by simp [Act.eval]) rfl (by refine Pushd.news (w := w2) (cs := #[.iface 136 (.agg #[.iface T' y', .int .i64 1, .int .i64 (-1)])]) (t := 82) ?_; exact ⟨rfl, rfl, rfl, rfl⟩) (fun u hu => by obtain rfl := List.mem_singleton.1 hu; rfl) (by decide) (by unfold maxLen; omega) (by omega) (by show w1.heap.size + 1 ≤ (w2.alloc _).heap.size; rw [sz_alloc]; omega) (w2.heap.size + 1) (sz_alloc w2 _) (fun g cap' w3 r1 r2 r3 r4 => ?_); have hB3 : Below (w1.heap.size + 1) w2 w3 := (((below1 w2 _).mono hz2').grown r2 (by show w1.heap.size + 1 ≤ (w2.alloc _).heap.size; rw [sz_alloc]; omega) (fun k hk => ((unhide Hown2).lt k hk).1)); have R1 := hide r1; clear r1 r2 r3 r4) | (refine step_append_lies _ rfl (.tmp 26) (.tmp 29) 120 rfl (w1.heap.size + 1) 82 i0 .nilIface 1 16 Tryz.underlying120 hi hz0 hz1 hz2 rfl (by decide) v2 K (List.replicate K (.iface T' y')) (by simp [Act.eval]) (unhide Hown2) ⟨w1.heap.size + 1, 0, none⟩ 1 1 [.iface 136 (.agg #[.iface T' y', .int .i64 1, .int .i64 (-1)])] (by simp [Act.eval]) rfl (cell_one (unhide Hnw)) (fun u hu => by obtain rfl := List.mem_singleton.1 hu; rfl) (by decide) (by unfold maxLen; omega) (by omega) hz2' w2.heap.size rfl (fun g cap' w3 r1 r2 r3 r4 => ?_); have hB3 : Below (w1.heap.size + 1) w2 w3 := ((Below.refl (w1.heap.size + 1) w2).grown r2 hz2' (fun k hk => ((unhide Hown2).lt k hk).1)); have R1 := hide r1; clear r1 r2 r3 r4) | (refine step_call 106 #[.slice (some ⟨g, 0, none⟩) (K + 1) cap'] rfl (by kernel_rfl) (joinParts_l _ _ _ _ w3 (unhide R1) (by omega) (fun u hu => by rcases List.mem_append.1 hu with hu | hu; exact ⟨_, _, (List.mem_replicate.1 hu).2⟩; exact ⟨_, _, List.mem_singleton.1 hu⟩) (by omega)) ?_; rintro e w4 ⟨rfl, rfl⟩; refine ⟨_, rfl, ?_⟩))))
    all_goals
      go_wp2
      go_ret
      exact ⟨congrArg (fun l => Ending.returned (jV l)) (unhide hJ), unhide hst _ _ v2 hb2' hB3⟩
  · have hmi : min mn 1 = mn := by omega
    go_enter Tryz.func83, Tryz.ntmps83
    go_wp2_with fail
    refine (unhide HE _).mono ?_
    rintro e w1 ⟨rfl, hb1⟩
    have hB1 : Below w.heap.size w w1 := (below1 w _).trans (hb1.mono (by rw [sz_alloc]; omega))
    obtain ⟨hcc, -⟩ := bcell hb1
    have hz1' := hb1.size
    rw [sz_alloc] at hz1'
    have q0 : w1.cell? ⟨w.heap.size, 0, none⟩ = some (.iface T y) := by rw [hcc _ _ (by rw [sz_alloc]; omega)]; simp
    have q1 : w1.cell? ⟨w.heap.size, 1, none⟩ = some (.int .i64 mn) := by rw [hcc _ _ (by rw [sz_alloc]; omega)]; simp
    have q2 : w1.cell? ⟨w.heap.size, 2, none⟩ = some (.int .i64 (-1)) := by rw [hcc _ _ (by rw [sz_alloc]; omega)]; simp
    have hlt1 : w.heap.size < w1.heap.size := by omega
    clear hb1 hcc
    have hst : Hid (∀ (w2 w3 : World) (v3 : Value), Below (w1.heap.size + 1) (w1.alloc (.cells #[.iface T' y', .int .i64 mn, .int .i64 (-1)] 136)) w2 → Below (w1.heap.size + 1) w2 w3 → Below w.heap.size w w3) := fun w2 w3 v3 a1 a2 =>
      hB1.trans (((below1 w1 _).mono (by omega)).trans ((a1.mono (by omega)).trans (a2.mono (by omega))))
    have hJ : Hid (List.replicate K (.iface T' y') ++ [.iface 136 (.agg #[.iface T' y', .int .i64 mn, .int .i64 (-1)])] = partsV (.iface T' y') mn (-1)) := by
      unfold partsV
      rw [if_pos rfl, unhide HK]
      first | rw [if_pos h1] | rw [if_neg (by omega)]
      rfl
    go_wp2_with fail
    go_region_law (((first | (refine step_call 107 #[.iface T' y', .int .i64 (mn - 1)] rfl (by kernel_rfl) (copies_k T' y' (mn - 1) K (unhide HK) _ (by omega)) ?_; rintro e w2 ⟨v2, rfl, hown2, hb2⟩; refine ⟨_, rfl, ?_⟩; have hb2' : Below (w1.heap.size + 1) (w1.alloc (.cells #[.iface T' y', .int .i64 mn, .int .i64 (-1)] 136)) w2 := ⟨hb2.os, hb2.tape, hb2.output, hb2.size, fun k hk => hb2.block k (by simpa using hk)⟩; have hz2' : w1.heap.size + 1 ≤ w2.heap.size := (by have := hb2'.size; rwa [sz_alloc] at this); have c0 : w2.cell? ⟨w1.heap.size, 0, none⟩ = some (.iface T' y') := (by rw [hb2'.cell (p := ⟨w1.heap.size, 0, none⟩) (by show w1.heap.size < w1.heap.size + 1; omega)]; simp); have c1 : w2.cell? ⟨w1.heap.size, 1, none⟩ = some (.int .i64 mn) := (by rw [hb2'.cell (p := ⟨w1.heap.size, 1, none⟩) (by show w1.heap.size < w1.heap.size + 1; omega)]; simp); have c2 : w2.cell? ⟨w1.heap.size, 2, none⟩ = some (.int .i64 (-1)) := (by rw [hb2'.cell (p := ⟨w1.heap.size, 2, none⟩) (by show w1.heap.size < w1.heap.size + 1; omega)]; simp); have Hown2 : Hid (w2.ownsRow (w1.heap.size + 1) 82 1 v2 K (List.replicate K (.iface T' y'))) := own_base hown2 (sz_alloc w1 (.cells #[.iface T' y', .int .i64 mn, .int .i64 (-1)] 136)); clear hown2 hb2) | (refine step_call 107 #[.iface T' y', .int .i64 (mn - 1)] rfl (by kernel_rfl) (copies_k T' y' (mn - 1) K (unhide HK) _ (by omega)) ?_; rintro e w2 ⟨v2, rfl, hown2, hb2⟩; refine ⟨_, rfl, ?_⟩; have hb2' : Below (w1.heap.size + 1) (w1.alloc (.cells #[.iface T' y', .int .i64 mn, .int .i64 (-1)] 136)) w2 := (below1 _ (.cells #[.iface 136 (.agg #[.iface T' y', .int .i64 mn, .int .i64 (-1)])] 82)).mono (by rw [sz_alloc]; omega) |>.trans ⟨hb2.os, hb2.tape, hb2.output, hb2.size, fun k hk => hb2.block k (by simp; omega)⟩; have hz2' : w1.heap.size + 1 ≤ w2.heap.size := (by have := hb2'.size; rwa [sz_alloc] at this); have hnw : w2.cell? ⟨w1.heap.size + 1, 0, none⟩ = some (.iface 136 (.agg #[.iface T' y', .int .i64 mn, .int .i64 (-1)])) := (by rw [hb2.cell (p := ⟨w1.heap.size + 1, 0, none⟩) (by show w1.heap.size + 1 < _; simp)]; simp); have Hown2 : Hid (w2.ownsRow (w1.heap.size + 1) 82 1 v2 K (List.replicate K (.iface T' y'))) := own_low hown2 (by simp); have Hnw := hide hnw; clear hown2 hb2 hnw) | (refine step_append_lies _ rfl (.tmp 26) (.tmp 29) 120 rfl (w1.heap.size + 1) 82 i0 .nilIface 1 16 Tryz.underlying120 hi hz0 hz1 hz2 rfl (by decide) v2 K (List.replicate K (.iface T' y')) (by simp [Act.eval]) (by refine Pushd.own (w := w2) (o := (.cells #[.iface 136 (.agg #[.iface T' y', .int .i64 mn, .int .i64 (-1)])] 82)) ?_ (unhide Hown2); exact ⟨rfl, rfl, rfl, rfl⟩) ⟨w2.heap.size, 0, none⟩ 1 1 [.iface 136 (.agg #[.iface T' y', .int .i64 mn, .int .i64 (-1)])] (by simp [Act.eval]) rfl (by refine Pushd.news (w := w2) (cs := #[.iface 136 (.agg #[.iface T' y', .int .i64 mn, .int .i64 (-1)])]) (t := 82) ?_; exact ⟨rfl, rfl, rfl, rfl⟩) (fun u hu => by obtain rfl := List.mem_singleton.1 hu; rfl) (by decide) (by unfold maxLen; omega) (by omega) (by show w1.heap.size + 1 ≤ (w2.alloc _).heap.size; rw [sz_alloc]; omega) (w2.heap.size + 1) (sz_alloc w2 _) (fun g cap' w3 r1 r2 r3 r4 => ?_); have hB3 : Below (w1.heap.size + 1) w2 w3 := (((below1 w2 _).mono hz2').grown r2 (by show w1.heap.size + 1 ≤ (w2.alloc _).heap.size; rw [sz_alloc]; omega) (fun k hk => ((unhide Hown2).lt k hk).1)); have R1 := hide r1; clear r1 r2 r3 r4) | (refine step_append_lies _ rfl (.tmp 26) (.tmp 29) 120 rfl (w1.heap.size + 1) 82 i0 .nilIface 1 16 Tryz.underlying120 hi hz0 hz1 hz2 rfl (by decide) v2 K (List.replicate K (.iface T' y')) (by simp [Act.eval]) (unhide Hown2) ⟨w1.heap.size + 1, 0, none⟩ 1 1 [.iface 136 (.agg #[.iface T' y', .int .i64 mn, .int .i64 (-1)])] (by simp [Act.eval]) rfl (cell_one (unhide Hnw)) (fun u hu => by obtain rfl := List.mem_singleton.1 hu; rfl) (by decide) (by unfold maxLen; omega) (by omega) hz2' w2.heap.size rfl (fun g cap' w3 r1 r2 r3 r4 => ?_); have hB3 : Below (w1.heap.size + 1) w2 w3 := ((Below.refl (w1.heap.size + 1) w2).grown r2 hz2' (fun k hk => ((unhide Hown2).lt k hk).1)); have R1 := hide r1; clear r1 r2 r3 r4) | (refine step_call 106 #[.slice (some ⟨g, 0, none⟩) (K + 1) cap'] rfl (by kernel_rfl) (joinParts_l _ _ _ _ w3 (unhide R1) (by omega) (fun u hu => by rcases List.mem_append.1 hu with hu | hu; exact ⟨_, _, (List.mem_replicate.1 hu).2⟩; exact ⟨_, _, List.mem_singleton.1 hu⟩) (by omega)) ?_; rintro e w4 ⟨rfl, rfl⟩; refine ⟨_, rfl, ?_⟩))))
    all_goals
      go_wp2
      go_ret
      exact ⟨congrArg (fun l => Ending.returned (jV l)) (unhide hJ), unhide hst _ _ v2 hb2' hB3⟩
end Go.Proofs.YtinhliecfjlocaaGreat
