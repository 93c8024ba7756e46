import Derived.Test.YtijejbdpagbmpaaDoorP11
import Derived.Test.YtijejbdpagbmpaaDoorP10
namespace Go.Proofs.YtijejbdpagbmpaaDoor
open Go.RowKit

/-- Words for a set that is told by its bytes. -/
def wof (p : Nat → Bool) : Nat → Nat → Nat
  | 0 => fun _ => 0
  | n + 1 => if p n then (fun j => if j = n / 64 then wof p n (n / 64) ||| 2 ^ (n % 64) else wof p n j) else wof p n
theorem wof_fit (p : Nat → Bool) : ∀ n : Nat, Fit (wof p n)
  | 0 => fun j => by show 0 < 18446744073709551616; omega
  | n + 1 => fun j => by
    simp only [wof]
    split
    · by_cases e : j = n / 64
      · simp only [e, if_true]; exact or_lt _ _ (wof_fit p n _) (by omega)
      · simp only [e, if_false]; exact wof_fit p n j
    · exact wof_fit p n j
theorem wof_bt (p : Nat → Bool) (b : Nat) : ∀ n : Nat, Bt (wof p n) b = (decide (b < n) && p b)
  | 0 => by simp [wof, Bt]
  | n + 1 => by
    have ih := wof_bt p b n
    by_cases hp : p n = true
    · have e : wof p (n + 1) = (fun j => if j = n / 64 then wof p n (n / 64) ||| 2 ^ (n % 64) else wof p n j) := by simp [wof, hp]
      rw [e, bt_put, ih]
      by_cases e2 : b = n
      · subst e2; simp [hp]
      · have : b < n + 1 ↔ b < n := by omega
        simp [e2, this]
    · have e : wof p (n + 1) = wof p n := by simp [wof, hp]
      rw [e, ih]
      by_cases e2 : b = n
      · subst e2; simp [hp]
      · have : b < n + 1 ↔ b < n := by omega
        simp [this]
theorem words_ex {xs : List Int} (h : Canon xs) : ∃ g, WordsOf xs g := by
  refine ⟨wof (InP xs (xs.length / 2)) 256, wof_fit _ _, fun b => ?_⟩
  rw [wof_bt]
  by_cases hb : b < 256
  · simp [hb]
  · have : InP xs (xs.length / 2) b = false := by
      rw [Bool.eq_false_iff]
      intro q
      obtain ⟨j, h1, h2, h3⟩ := (inP_iff _ _ _).1 q
      have := (h.2.1 (2 * j + 1) (by omega)).2
      omega
    rw [this]; simp

end Go.Proofs.YtijejbdpagbmpaaDoor

namespace Go.Proofs.YtijejbdpagbmpaaDoor
open Go.RowKit

theorem PushR.gg {G : Value → List El × Int → Prop} (hG : Clos G) {st st' : List (List El × Int)} {x : El} (h : PushR st x st') (ok : ElOk x) (hs : ∀ s ∈ st, ∃ u, G u s) : ∀ s ∈ st', ∃ u, G u s := by
  intro s hm
  obtain ⟨k, xs, mn, mx⟩ := x
  rcases h with ⟨hk, rfl⟩ | ⟨hk, b, l, r, rfl, rfl⟩ | ⟨hk, b, o, rfl, rfl⟩
  · simp only [List.mem_append, List.mem_singleton] at hm; rcases hm with hm | rfl
    · exact hs s hm
    · rcases ok with ⟨q1, q2, q3, q4⟩ | ⟨q1, q2, q3, q4⟩ | ⟨q1, q2, q3, q4, q5⟩ <;> simp only at hk q1 q2 q3 q4
      · subst q1 q3 q4
        obtain ⟨g, hg⟩ := words_ex q2
        exact ⟨_, hG.s q2 hg⟩
      · subst q3 q4
        obtain rfl := List.eq_nil_of_length_eq_zero q2
        obtain rfl : k = 0 := by omega
        exact ⟨_, hG.e⟩
      · omega
  · simp only [List.mem_append, List.mem_singleton] at hm; rcases hm with hm | rfl
    · exact hs s (by simp [hm])
    · obtain ⟨u, hu⟩ := hs l (by simp)
      obtain ⟨v, hv⟩ := hs r (by simp)
      rcases ok with ⟨q1, q2, q3, q4⟩ | ⟨q1, q2, q3, q4⟩ | ⟨q1, q2, q3, q4, q5⟩ <;> simp only at hk q1 q2 q3 q4
      · omega
      · subst q3 q4
        obtain rfl := List.eq_nil_of_length_eq_zero q2
        rcases hk with rfl | rfl
        · exact ⟨_, hG.cat hu hv⟩
        · exact ⟨_, hG.alt hu hv⟩
      · omega
  · simp only [List.mem_append, List.mem_singleton] at hm; rcases hm with hm | rfl
    · exact hs s (by simp [hm])
    · obtain ⟨u, hu⟩ := hs o (by simp)
      rcases ok with ⟨q1, q2, q3, q4⟩ | ⟨q1, q2, q3, q4⟩ | ⟨q1, q2, q3, q4, q5⟩ <;> simp only at hk q1 q2 q3 q4
      · omega
      · omega
      · subst hk
        obtain rfl := List.eq_nil_of_length_eq_zero q2
        exact ⟨_, hG.rep hu q3 q4 q5⟩
/-- A valid tree has a node. -/
theorem valid_g {G : Value → List El × Int → Prop} (hG : Clos G) {xs : List El} (h : ValidT xs) : ∃ u c, G u (xs, c) := by
  obtain ⟨h1, ok, sh, c, hc1, hc2⟩ := h
  have key : ∀ k : Nat, k ≤ xs.length → ∃ st, flats st = xs.take k ∧ (∀ s ∈ st, SegM s.1 s.2) ∧ ∀ s ∈ st, ∃ u, G u s := by
    intro k
    induction k with
    | zero => intro _; exact ⟨[], by simp [flats], by simp, by simp⟩
    | succ k ih =>
      intro hk
      obtain ⟨st, hst, hok, hgx⟩ := ih (by omega)
      have hx := ok k (by omega)
      have h1 : wsum (xs.take (k + 1)) + wsum (xs.drop (k + 1)) = 1 := by rw [← wsum_append, List.take_append_drop]; exact sh.1
      have h2 := sh.2 (k + 1) (by omega) hk
      have h3 := wsum_flats (fun s hs => (hok s hs).ws)
      rw [hst] at h3
      rw [take_next (by omega), wsum_append, h3] at h1
      simp only [wsum] at h1
      obtain ⟨st', hp⟩ := PushR.ex (st := st) hx (by omega)
      exact ⟨st', by rw [hp.flats, hst, take_next (by omega)], hp.seg hx hok, hp.gg hG hx hgx⟩
  obtain ⟨st, hst, hok, hgx⟩ := key xs.length (Nat.le_refl _)
  rw [List.take_length] at hst
  have h3 := wsum_flats (fun s hs => (hok s hs).ws)
  rw [hst, sh.1] at h3
  obtain ⟨t, rfl⟩ := List.length_eq_one_iff.1 (show st.length = 1 by omega)
  obtain ⟨u, hu⟩ := hgx t (by simp)
  rw [flats_one] at hst
  obtain ⟨t1, t2⟩ := t
  simp only at hst
  subst hst
  exact ⟨u, t2, hu⟩

end Go.Proofs.YtijejbdpagbmpaaDoor

namespace Go.Proofs.YtijejbdpagbmpaaDoor
open Go.RowKit

theorem run_copies (x y : Value) (w : World) : Sem.run Tryd.prog (callFunc 72 #[x, y]) w = .ok (.enter 72 #[x, y]) w := by kernel_rfl
theorem run_join (x : Value) (w : World) : Sem.run Tryd.prog (callFunc 71 #[x]) w = .ok (.enter 71 #[x]) w := by kernel_rfl

end Go.Proofs.YtijejbdpagbmpaaDoor

namespace Go.Proofs.YtijejbdpagbmpaaDoor
open Go.RowKit

set_option maxHeartbeats 1000000 in
theorem copies_zero (T : TypeId) (y : Value) (w : World) :
    Calls Tryd.prog 72 #[.iface T y, .int .i64 0] w fun e w' => e = .returned (.slice none 0 0) ∧ w' = w := by
  go_enter Tryd.func72, Tryd.ntmps72
  go_wp2
  go_loop [5, 7] (fun ov i => ov = .slice none 0 0 ∧ i = .int .i64 0) (fun _ _ => 0)
  case atStart => exact ⟨rfl, rfl⟩
  case round =>
    obtain ⟨rfl, rfl⟩ := hrel
    go_wp2
    go_ret
    exact ⟨rfl, rfl⟩

theorem step_append_none_c {w : World} {ops : Array Oper} {o : Oper} {a : Act} {K : Act → World → Prop} {Q : Exit → Act → World → Prop} {E : Prop} (hgd : o.guard = none) (s x : Operand) (t : TypeId)
    (ho : o.op = .call { callee := .builtin .append, args := #[s, x], argTypes := #[t, t] })
    (base : Nat) (e : TypeId) (i : TypeInfo) (size : Nat) (ht : Tryd.prog.underlying t = some (.slice e)) (hi : Tryd.prog.info? e = some i)
    (v : Value) (n : Nat) (xs : List Value) (hs : a.eval s = v) (hown : w.ownsRow base e size v n xs) (c : Nat) (hx : a.eval x = .slice none 0 c)
    (h : K (a.put o.dst v) w) : if Region.wanted o (yielded ops a.tmps) = true then Oper.wp Tryd.prog o a w K Q else E := by
  have hw : Region.wanted o (yielded ops a.tmps) = true := by simp [Region.wanted, hgd]
  rw [if_pos hw]
  have hrun := run_append_none_c (P := Tryd.prog) (w := w) base t o.type e i size ht hi v n xs hown c
  unfold Oper.wp
  simp [execOp, ho, resolve, invoke, builtin, hs, hx, hrun, Result.andThen]
  exact h

set_option maxHeartbeats 2000000 in
set_option maxRecDepth 100000 in
theorem expandRep_count0 (T : TypeId) (y : Value) (T' : TypeId) (y' : Value) (m M : Nat) (w : World) (h : ExpV (.iface T y) (.iface T' y')) (o2 : m = M) (o3 : M ≤ 250) (o4 : 0 < M) :
    Calls Tryd.prog 61 #[.agg #[.iface T y, .int .i64 m, .int .i64 M]] w fun e w' => e = .returned (jV (partsV (.iface T' y') m M)) ∧ Below w.heap.size w w' := by
  subst o2
  obtain ⟨i0, hi, hz0, hz1, hz2⟩ := info_parts Tryd.info52
  have HE := hide h.2
  clear h
  have hM0 : ((m : Int) == 0) = false := by rw [beq_eq_false_iff_ne]; omega
  have hM1 : ((m : Int) == -1) = false := by rw [beq_eq_false_iff_ne]; omega
  obtain ⟨D, hD⟩ : ∃ D : Nat, (m : Int) - (m : Int) = (D : Int) := ⟨m - m, by omega⟩
  have hw2 : IntKind.i64.wrap ((m : Int) - (m : Int)) = (D : Int) := by rw [IntKind.wrap_i64]; omega
  have hw1 : wrap64 ((m : Int) - (m : Int)) = (D : Int) := by unfold wrap64; omega
  have hDm : Hid (m - m = D) := by show m - m = D; omega
  have hD1 : D ≤ 250 := by omega
  clear hD
  go_enter Tryd.func61, Tryd.ntmps61
  go_wp2_with fail
  refine (unhide HE _).mono ?_
  rintro e w1 ⟨rfl, hb1⟩
  have hB1 : Below w.heap.size w w1 := (below1 w _).trans (hb1.mono (by rw [sz_alloc]; omega))
  obtain ⟨hcc, -⟩ := bcell hb1
  have hz1' := hb1.size
  rw [sz_alloc] at hz1'
  have q0 : w1.cell? ⟨w.heap.size, 0, none⟩ = some (.iface T y) := by rw [hcc _ _ (by rw [sz_alloc]; omega)]; simp
  have q1 : w1.cell? ⟨w.heap.size, 1, none⟩ = some (.int .i64 (m : Int)) := by rw [hcc _ _ (by rw [sz_alloc]; omega)]; simp
  have q2 : w1.cell? ⟨w.heap.size, 2, none⟩ = some (.int .i64 (m : Int)) := by rw [hcc _ _ (by rw [sz_alloc]; omega)]; simp
  have hlt1 : w.heap.size < w1.heap.size := by omega
  clear hb1 hcc
  have hJ : Hid (List.replicate m (.iface T' y') ++ List.replicate D (.iface 105 (.agg #[.iface T' y', .iface 115 (.agg #[])])) = partsV (.iface T' y') m m) := by
    unfold partsV
    rw [if_neg (by omega), show ((m : Int)).toNat = m by omega, show ((m : Int) - (m : Int)).toNat = D by have := unhide hDm; omega]
    rfl
  obtain rfl : D = 0 := by have := unhide hDm; omega
  have hm0 : 0 < m := by omega
  have hw0 : IntKind.i64.wrap 0 = 0 := by rw [IntKind.wrap_i64]; omega
  go_wp2_with fail
  go_region_law (((first | (refine step_call_o 72 #[.tmp 36, .tmp 38] _ rfl #[.iface T' y', .int .i64 (m : Int)] rfl (by first | (simp [Act.eval]; done) | simp [Act.eval, Act.put]) (run_copies _ _) (copies_k T' y' (m : Int) m (by omega) _ (by omega)) ?_; rintro e w2 ⟨v2, rfl, hown2, hb2⟩; refine ⟨_, rfl, ?_⟩; have hb2' : Below (w1.heap.size + 1) (w1.alloc (.cells #[.iface T' y', .iface 115 (.agg #[])] 105)) w2 := ⟨hb2.os, hb2.tape, hb2.output, hb2.size, fun k hk => hb2.block k (by simpa using hk)⟩; have hz2' : w1.heap.size + 1 ≤ w2.heap.size := (by have := hb2'.size; rwa [sz_alloc] at this); have c0 : w2.cell? ⟨w1.heap.size, 0, none⟩ = some (.iface T' y') := (by rw [hb2'.cell (p := ⟨w1.heap.size, 0, none⟩) (by show w1.heap.size < w1.heap.size + 1; omega)]; simp); have c1 : w2.cell? ⟨w1.heap.size, 1, none⟩ = some (.iface 115 (.agg #[])) := (by rw [hb2'.cell (p := ⟨w1.heap.size, 1, none⟩) (by show w1.heap.size < w1.heap.size + 1; omega)]; simp); have p1 : w2.cell? ⟨w.heap.size, 1, none⟩ = some (.int .i64 (m : Int)) := (by rw [hb2'.cell (p := ⟨w.heap.size, 1, none⟩) (by show w.heap.size < w1.heap.size + 1; omega), (below1 w1 (.cells #[.iface T' y', .iface 115 (.agg #[])] 105)).cell (p := ⟨w.heap.size, 1, none⟩) hlt1]; exact q1); have p2 : w2.cell? ⟨w.heap.size, 2, none⟩ = some (.int .i64 (m : Int)) := (by rw [hb2'.cell (p := ⟨w.heap.size, 2, none⟩) (by show w.heap.size < w1.heap.size + 1; omega), (below1 w1 (.cells #[.iface T' y', .iface 115 (.agg #[])] 105)).cell (p := ⟨w.heap.size, 2, none⟩) hlt1]; exact q2); have Hown2 : Hid (w2.ownsRow (w1.heap.size + 1) 52 1 v2 m (List.replicate m (.iface T' y'))) := own_base hown2 (sz_alloc w1 (.cells #[.iface T' y', .iface 115 (.agg #[])] 105)); clear hown2 hb2) | (refine step_call_o 72 #[.tmp 41, .tmp 46] _ rfl #[.iface 105 (.agg #[.iface T' y', .iface 115 (.agg #[])]), .int .i64 0] rfl (by first | (simp [Act.eval]; done) | simp [Act.eval, Act.put]) (run_copies _ _) (copies_zero _ _ _) ?_; rintro e w3 ⟨rfl, rfl⟩; refine ⟨_, rfl, ?_⟩) | (refine step_append_none_c rfl (.tmp 39) (.tmp 47) 101 rfl (w1.heap.size + 1) 52 i0 1 Tryd.underlying101 hi v2 m (List.replicate m (.iface T' y')) (by first | (simp [Act.eval]; done) | simp [Act.eval, Act.put]) (by exact unhide Hown2) 0 (by first | (simp [Act.eval]; done) | simp [Act.eval, Act.put]) ?_) | (refine step_call_o 71 #[.tmp 48] _ rfl #[v2] rfl (by first | (simp [Act.eval]; done) | simp [Act.eval, Act.put]) (run_join _) (joinParts_l _ m _ _ _ (unhide Hown2) (by omega) (fun u hu => ⟨_, _, (List.mem_replicate.1 hu).2⟩) (by omega)) ?_; rintro e w4 ⟨rfl, rfl⟩; refine ⟨_, rfl, ?_⟩))))
  all_goals
    go_wp2
    go_ret
    exact ⟨congrArg (fun l => Ending.returned (jV l)) (by rw [← unhide hJ]; simp), hB1.trans (((below1 w1 _).mono (by omega)).trans (hb2'.mono (by omega)))⟩

end Go.Proofs.YtijejbdpagbmpaaDoor

namespace Go.Proofs.YtijejbdpagbmpaaDoor
open Go.RowKit

set_option maxHeartbeats 2000000 in
set_option maxRecDepth 100000 in
theorem expandRep_count1 (T : TypeId) (y : Value) (T' : TypeId) (y' : Value) (m M : Nat) (w : World) (h : ExpV (.iface T y) (.iface T' y')) (o2 : m < M) (o3 : M ≤ 250) (o4 : 0 < M) :
    Calls Tryd.prog 61 #[.agg #[.iface T y, .int .i64 m, .int .i64 M]] w fun e w' => e = .returned (jV (partsV (.iface T' y') m M)) ∧ Below w.heap.size w w' := by
  obtain ⟨i0, hi, hz0, hz1, hz2⟩ := info_parts Tryd.info52
  have HE := hide h.2
  clear h
  have hM0 : ((M : Int) == 0) = false := by rw [beq_eq_false_iff_ne]; omega
  have hM1 : ((M : Int) == -1) = false := by rw [beq_eq_false_iff_ne]; omega
  obtain ⟨D, hD⟩ : ∃ D : Nat, (M : Int) - (m : Int) = (D : Int) := ⟨M - m, by omega⟩
  have hw2 : IntKind.i64.wrap ((M : Int) - (m : Int)) = (D : Int) := by rw [IntKind.wrap_i64]; omega
  have hw1 : wrap64 ((M : Int) - (m : Int)) = (D : Int) := by unfold wrap64; omega
  have hDm : Hid (M - m = D) := by show M - m = D; omega
  have hD1 : D ≤ 250 := by omega
  clear hD
  go_enter Tryd.func61, Tryd.ntmps61
  go_wp2_with fail
  refine (unhide HE _).mono ?_
  rintro e w1 ⟨rfl, hb1⟩
  have hB1 : Below w.heap.size w w1 := (below1 w _).trans (hb1.mono (by rw [sz_alloc]; omega))
  obtain ⟨hcc, -⟩ := bcell hb1
  have hz1' := hb1.size
  rw [sz_alloc] at hz1'
  have q0 : w1.cell? ⟨w.heap.size, 0, none⟩ = some (.iface T y) := by rw [hcc _ _ (by rw [sz_alloc]; omega)]; simp
  have q1 : w1.cell? ⟨w.heap.size, 1, none⟩ = some (.int .i64 (m : Int)) := by rw [hcc _ _ (by rw [sz_alloc]; omega)]; simp
  have q2 : w1.cell? ⟨w.heap.size, 2, none⟩ = some (.int .i64 (M : Int)) := by rw [hcc _ _ (by rw [sz_alloc]; omega)]; simp
  have hlt1 : w.heap.size < w1.heap.size := by omega
  clear hb1 hcc
  have hJ : Hid (List.replicate m (.iface T' y') ++ List.replicate D (.iface 105 (.agg #[.iface T' y', .iface 115 (.agg #[])])) = partsV (.iface T' y') m M) := by
    unfold partsV
    rw [if_neg (by omega), show ((m : Int)).toNat = m by omega, show ((M : Int) - (m : Int)).toNat = D by have := unhide hDm; omega]
    rfl
  have hd0 : 0 < D := by have := unhide hDm; omega
  go_wp2_with fail
  go_region_law (((first | (refine step_call_o 72 #[.tmp 36, .tmp 38] _ rfl #[.iface T' y', .int .i64 (m : Int)] rfl (by first | (simp [Act.eval]; done) | simp [Act.eval, Act.put]) (run_copies _ _) (copies_k T' y' (m : Int) m (by omega) _ (by omega)) ?_; rintro e w2 ⟨v2, rfl, hown2, hb2⟩; refine ⟨_, rfl, ?_⟩; have hb2' : Below (w1.heap.size + 1) (w1.alloc (.cells #[.iface T' y', .iface 115 (.agg #[])] 105)) w2 := ⟨hb2.os, hb2.tape, hb2.output, hb2.size, fun k hk => hb2.block k (by simpa using hk)⟩; have hz2' : w1.heap.size + 1 ≤ w2.heap.size := (by have := hb2'.size; rwa [sz_alloc] at this); have c0 : w2.cell? ⟨w1.heap.size, 0, none⟩ = some (.iface T' y') := (by rw [hb2'.cell (p := ⟨w1.heap.size, 0, none⟩) (by show w1.heap.size < w1.heap.size + 1; omega)]; simp); have c1 : w2.cell? ⟨w1.heap.size, 1, none⟩ = some (.iface 115 (.agg #[])) := (by rw [hb2'.cell (p := ⟨w1.heap.size, 1, none⟩) (by show w1.heap.size < w1.heap.size + 1; omega)]; simp); have p1 : w2.cell? ⟨w.heap.size, 1, none⟩ = some (.int .i64 (m : Int)) := (by rw [hb2'.cell (p := ⟨w.heap.size, 1, none⟩) (by show w.heap.size < w1.heap.size + 1; omega), (below1 w1 (.cells #[.iface T' y', .iface 115 (.agg #[])] 105)).cell (p := ⟨w.heap.size, 1, none⟩) hlt1]; exact q1); have p2 : w2.cell? ⟨w.heap.size, 2, none⟩ = some (.int .i64 (M : Int)) := (by rw [hb2'.cell (p := ⟨w.heap.size, 2, none⟩) (by show w.heap.size < w1.heap.size + 1; omega), (below1 w1 (.cells #[.iface T' y', .iface 115 (.agg #[])] 105)).cell (p := ⟨w.heap.size, 2, none⟩) hlt1]; exact q2); have Hown2 : Hid (w2.ownsRow (w1.heap.size + 1) 52 1 v2 m (List.replicate m (.iface T' y'))) := own_base hown2 (sz_alloc w1 (.cells #[.iface T' y', .iface 115 (.agg #[])] 105)); clear hown2 hb2) | (refine step_call_o 72 #[.tmp 41, .tmp 46] _ rfl #[.iface 105 (.agg #[.iface T' y', .iface 115 (.agg #[])]), .int .i64 (D : Int)] rfl (by first | (simp [Act.eval]; done) | simp [Act.eval, Act.put]) (run_copies _ _) (copies_k _ _ (D : Int) D (by omega) w2 (by omega)) ?_; rintro e w3 ⟨v3, rfl, hown3, hb3⟩; refine ⟨_, rfl, ?_⟩; obtain ⟨g3, d3, rfl, hc3⟩ := own_at_g hown3 (by omega); have Hown3 := hide hown3; have Hc3 := hide hc3; have Hown2' := hide (own_keep (unhide Hown2) hb3 (Nat.le_refl _)); have hz3' := hb3.size; clear hown3 hc3) | (refine step_append_lies _ rfl (.tmp 39) (.tmp 47) 101 rfl (w1.heap.size + 1) 52 i0 .nilIface 1 16 Tryd.underlying101 hi hz0 hz1 hz2 rfl (by decide) v2 m (List.replicate m (.iface T' y')) (by first | (simp [Act.eval]; done) | simp [Act.eval, Act.put]) (unhide Hown2') ⟨g3, 0, none⟩ D d3 (List.replicate D (.iface 105 (.agg #[.iface T' y', .iface 115 (.agg #[])]))) (by first | (simp [Act.eval]; done) | simp [Act.eval, Act.put]) (by simp) (fun j u hu => by have e3 : (⟨g3, 0, none⟩ : Addr).add j = ⟨g3, j, none⟩ := (by cases j <;> simp [Addr.add]); rw [e3, unhide Hc3 j (by have := (List.getElem?_eq_some_iff.1 hu).1; simpa using this)]; exact hu) (fun u hu => by rw [(List.mem_replicate.1 hu).2]; rfl) (by omega) (by unfold maxLen; omega) (by omega) (by omega) w3.heap.size rfl (fun g cap' w4 r1 r2 r3 r4 => ?_); have hB4 : Below (w1.heap.size + 1) w3 w4 := ((Below.refl (w1.heap.size + 1) w3).grown r2 (by omega) (fun k hk => ((unhide Hown2').lt k hk).1)); have R1 := hide r1; clear r1 r2 r3 r4) | (refine step_call_o 71 #[.tmp 48] _ rfl #[.slice (some ⟨g, 0, none⟩) (m + D) cap'] rfl (by first | (simp [Act.eval]; done) | simp [Act.eval, Act.put]) (run_join _) (joinParts_l _ _ _ _ w4 (unhide R1) (by omega) (fun u hu => by rcases List.mem_append.1 hu with hu | hu; exact ⟨_, _, (List.mem_replicate.1 hu).2⟩; exact ⟨_, _, (List.mem_replicate.1 hu).2⟩) (by omega)) ?_; rintro e w5 ⟨rfl, rfl⟩; refine ⟨_, rfl, ?_⟩))))
  all_goals
    go_wp2
    go_ret
    exact ⟨congrArg (fun l => Ending.returned (jV l)) (unhide hJ), hB1.trans (((below1 w1 _).mono (by omega)).trans ((hb2'.mono (by omega)).trans ((hb3.mono (by omega)).trans (hB4.mono (by omega)))))⟩


end Go.Proofs.YtijejbdpagbmpaaDoor
