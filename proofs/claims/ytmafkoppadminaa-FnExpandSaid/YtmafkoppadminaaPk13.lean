import Derived.Test.YtmafkoppadminaaX4
import Derived.Test.YtmafkoppadminaaD6
import Derived.Test.YtmafkoppadminaaYV
import Derived.Test.YtmafkoppadminaaPk9
namespace Go.Proofs.Ytmafkoppadminaa
open Go.RowKit
def OwnOr (w : World) (v v' : Value) : Prop := v'.ownBlock = v.ownBlock ∨ ∃ k, w.heap.size ≤ k ∧ v'.ownBlock = some k
theorem OwnOr.trans {w w1 : World} {v v1 v2 : Value} (h : OwnOr w v v1) (hz : w.heap.size ≤ w1.heap.size) (k : OwnOr w1 v1 v2) : OwnOr w v v2 := by
  rcases k with k | ⟨j, h1, h2⟩
  · rcases h with h | ⟨j, h1, h2⟩
    · exact Or.inl (k.trans h)
    · exact Or.inr ⟨j, h1, k.trans h2⟩
  · exact Or.inr ⟨j, by omega, h2⟩
theorem grown_trans {w w1 w2 : World} {v v1 : Value} (h : w.grownBy w1 v.ownBlock) (o : OwnOr w v v1) (k : w1.grownBy w2 v1.ownBlock) : w.grownBy w2 v.ownBlock :=
  ⟨k.os.trans h.os, k.tape.trans h.tape, k.output.trans h.output, Nat.le_trans h.size k.size, fun j hj hne => (k.block j (Nat.lt_of_lt_of_le hj h.size) (fun e => by
    rcases o with o | ⟨q, q1, q2⟩
    · exact hne (by rw [e, o])
    · rw [q2] at e; simp at e; omega)).trans (h.block j hj hne)⟩
theorem grown_of {w w0 w1 : World} {v : Value} (hb : Below w.heap.size w w0) (hg : w0.grownBy w1 v.ownBlock) : w.grownBy w1 v.ownBlock :=
  ⟨hg.os.trans hb.os, hg.tape.trans hb.tape, hg.output.trans hb.output, Nat.le_trans hb.size hg.size, fun j hj hne => (hg.block j (Nat.lt_of_lt_of_le hj hb.size) hne).trans (hb.block j hj)⟩
theorem app_op2 {base : Nat} {wr w1 W : World} {ops : Array Oper} {rest : List Oper} {o : Oper} {a : Act} {Q : Exit → Act → World → Prop} {v : Value} {ps : List Pc} (x : El) (sv : Value) (T : Nat → Prop) (hgd : o.guard = none) (s y : Operand)
    (ho : o.op = .call { callee := .builtin .append, args := #[s, y], argTypes := #[23, 23] }) (hs : a.eval s = v) (N : Nat) (hN : w1.heap.size = N) (hy : a.eval y = .slice (some ⟨N, 0, none⟩) 1 1)
    (h : GrowP base wr v ps) (hbase : base ≤ wr.heap.size) (hb : Below wr.heap.size wr w1) (hsl : SlF mI 0 T w1 sv x.set) (hT : ∀ k, T k → wr.heap.size ≤ k ∧ k < w1.heap.size) (h1c : sv.oneCell' = true)
    (hP : Pushd w1 W (.cells #[.int .i64 x.kind, sv, .int .i64 x.mn, .int .i64 x.mx] 32)) (hlen : ps.length ≤ 16777216)
    (K : ∀ v' w', GrowP base w' v' (ps ++ [⟨x, sv, T⟩]) → wr.grownBy w' v.ownBlock → OwnOr wr v v' → wpList Try.prog ops Q rest (a.put o.dst v') w') : wpList Try.prog ops Q (o :: rest) a W := by
  subst hN
  obtain ⟨j0, hj, hy0, hy1, hy2⟩ := info_parts Try.zinOp
  have hown := hP.own (own_keep h.own hb (Nat.le_refl _))
  have hB : Below wr.heap.size wr W := hb.trans (hP.below.mono hb.size)
  refine wpList_append_own_at W hgd s y 23 ho base 32 j0 (.agg #[.int .i64 0, .slice none 0 0, .int .i64 0, .int .i64 0]) 4 48 Try.underlying23 hj hy0 hy1 hy2 rfl (by decide) v ps.length (cellsP ps) hs hown ⟨w1.heap.size, 0, none⟩ 1 1 (cell4 x sv) hy rfl ?_ ?_ ?_ ?_ ?_ ?_
  · exact Pushd.news hP
  · intro u hu
    simp only [cell4, List.mem_cons, List.not_mem_nil, or_false] at hu
    rcases hu with rfl | rfl | rfl | rfl
    · rfl
    · exact h1c
    · rfl
    · rfl
  · unfold maxLen; omega
  · omega
  · have := hP.size; have := hb.size; omega
  · intro v' w' q1 q2 _ q3
    obtain ⟨r1, r2⟩ := h.app1 hbase hb hsl hT hP q1 q2 q3
    refine K v' w' r1 (grown_of hB q2) (q3.imp id (fun e => ⟨_, hB.size, e⟩))
def OpsRet (base : Nat) (w : World) (v : Value) (ps : List Pc) (L : List El) (e : Ending) (w' : World) : Prop :=
  ∃ v' qs, e = .returned v' ∧ GrowP base w' v' (ps ++ qs) ∧ qs.map Pc.x = L ∧ w.grownBy w' v.ownBlock ∧ OwnOr w v v'
def OpsAs (u : Value) (L : List El) : Prop := ∃ (T : TypeId) (x : Value) (F : FuncId), u = .iface T x ∧
  (∀ w, Sem.run Try.prog (method 213 T x "loop.example/s0027/impl.appendOps") w = .ok (F, x) w) ∧ (∀ y w, Sem.run Try.prog (callFunc F #[x, y]) w = .ok (.enter F #[x, y]) w) ∧
  ∀ (base : Nat) (v : Value) (ps : List Pc) (w : World), base ≤ w.heap.size → GrowP base w v ps → ps.length + L.length ≤ 1000000 → Calls Try.prog F #[x, v] w fun e w' => OpsRet base w v ps L e w'
set_option maxHeartbeats 1000000 in
theorem eOps_any (base : Nat) (v : Value) (ps : List Pc) (w : World) (hbase : base ≤ w.heap.size) (h : GrowP base w v ps) (hl : ps.length ≤ 1000000) :
    Calls Try.prog 80 #[.agg #[], v] w fun e w' => OpsRet base w v ps ([⟨0, [], 0, 0⟩]) e w' := by
  obtain ⟨oa, oc, rfl⟩ := own_is h.own
  have H := hide h
  clear h
  go_enter Try.func80, Try.ntmps80
  go_wp2_with (at_builtin; refine app_op2 (wr := w) ⟨0, [], 0, 0⟩ (.slice none 0 0) (fun _ => False) rfl _ _ rfl rfl (w.heap.size + 1) (sz_alloc w _) rfl (unhide H) hbase (below1 w _) (SlF.none _) (fun k hk => hk.elim) rfl ⟨rfl, rfl, rfl, rfl⟩ (by omega) ?_)
  intro v' w' q1 q2 q3
  have Q1 := hide q1
  have Q2 := hide q2
  have Q3 := hide q3
  clear q1 q2 q3
  go_wp2
  go_ret
  exact ⟨_, _, rfl, unhide Q1, rfl, unhide Q2, unhide Q3⟩
set_option maxHeartbeats 1000000 in
theorem sOps_any (g : Nat → Nat) (xs : List Int) (hg : WordsOf xs g) (hcn : Canon xs) (base : Nat) (v : Value) (ps : List Pc) (w : World) (hbase : base ≤ w.heap.size) (h : GrowP base w v ps) (hl : ps.length ≤ 1000000) :
    Calls Try.prog 83 #[ws4 g, v] w fun e w' => OpsRet base w v ps ([⟨1, xs, 0, 0⟩]) e w' := by
  obtain ⟨oa, oc, rfl⟩ := own_is h.own
  have H := hide h
  have HG := hide hg
  clear h hg
  unfold ws4
  go_enter Try.func83, Try.ntmps83
  go_wp2_with fail
  refine (pairs_w g xs _ (unhide HG) hcn).mono ?_
  rintro e w1 ⟨v1, rfl, hs1, hb1⟩
  obtain ⟨sa, sc, rfl⟩ : ∃ a c, v1 = .slice a xs.length c := by obtain ⟨a, c, e, -⟩ := hs1; exact ⟨a, c, e⟩
  have Hs1 := hide hs1.foot
  have hz1 := hb1.size
  have hB1 : Below w.heap.size w w1 := (below1 w _).trans (hb1.mono (by rw [sz_alloc]; omega))
  rw [sz_alloc] at hz1
  clear hs1
  go_wp2_with (at_builtin; refine app_op2 (wr := w) ⟨1, xs, 0, 0⟩ (.slice sa xs.length sc) (Rng (w.heap.size + 1) w1.heap.size) rfl _ _ rfl rfl w1.heap.size rfl rfl (unhide H) hbase hB1 ((unhide Hs1).mono (fun k hk => ⟨by have := hk.1; rw [sz_alloc] at this; exact this, hk.2⟩)) (fun k hk => ⟨by have := hk.1; omega, hk.2⟩) rfl ⟨rfl, rfl, rfl, rfl⟩ (by omega) ?_)
  intro v' w' q1 q2 q3
  have Q1 := hide q1
  have Q2 := hide q2
  have Q3 := hide q3
  clear q1 q2 q3
  go_wp2
  go_ret
  exact ⟨_, _, rfl, unhide Q1, rfl, unhide Q2, unhide Q3⟩
theorem Pushd.grow {w W : World} {o : Obj} (hP : Pushd w W o) {base : Nat} {v : Value} {ps : List Pc} (h : GrowP base w v ps) : GrowP base W v ps := h.keep hP.below (Nat.le_refl _)
theorem GrowP.drew {w : World} {base : Nat} {v : Value} {ps : List Pc} (h : GrowP base w v ps) : GrowP base w.drew v ps := ⟨h.own, h.set, h.blk, h.dis⟩
theorem recv_cell {w W w1 : World} {cs : Array Value} {t : TypeId} {v : Value} {base : Nat} {ps : List Pc} (hP : Pushd w W (.cells cs t)) (h : GrowP base w v ps) (hg : W.grownBy w1 v.ownBlock) (i : Nat) : w1.cell? ⟨w.heap.size, i, none⟩ = cs[i]? := by
  have h1 : w1.heap[w.heap.size]? = some (.cells cs t) := by
    rw [hg.block w.heap.size (by rw [hP.size]; omega) (fun e => by have := (h.own.lt _ e.symm).2; omega)]
    exact hP.new
  simp [World.cell?, h1]
theorem OwnOr.weak {w W : World} {v v' : Value} (h : OwnOr W v v') (hz : w.heap.size ≤ W.heap.size) : OwnOr w v v' := h.imp id (fun ⟨k, h1, h2⟩ => ⟨k, by omega, h2⟩)
theorem ops_end {base : Nat} {w W w1 w2 w3 : World} {v v1 v2 v3 : Value} {ps qs rs : List Pc} {p : Pc} {o : Obj} {L R : List El} (hP : Pushd w W o) (g1 : qs.map Pc.x = L) (g2 : W.grownBy w1 v.ownBlock) (g3 : OwnOr W v v1) (k1 : rs.map Pc.x = R) (k2 : w1.grownBy w2 v1.ownBlock) (k3 : OwnOr w1 v1 v2)
    (h : GrowP base w3 v3 (ps ++ (qs ++ (rs ++ [p])))) (m2 : w2.grownBy w3 v2.ownBlock) (m3 : OwnOr w2 v2 v3) : ∃ us, GrowP base w3 v3 (ps ++ us) ∧ us.map Pc.x = L ++ R ++ [p.x] ∧ w.grownBy w3 v.ownBlock ∧ OwnOr w v v3 := by
  have hb := hP.below
  have g2' := grown_of hb g2
  have g3' : OwnOr w v v1 := g3.weak hb.size
  have a2 := grown_trans g2' g3' k2
  have a3 : OwnOr w v v2 := g3'.trans g2'.size k3
  exact ⟨qs ++ (rs ++ [p]), h, by simp [g1, k1], grown_trans a2 a3 m2, a3.trans a2.size m3⟩
theorem ops_end1 {base : Nat} {w W w1 w3 : World} {v v1 v3 : Value} {ps qs : List Pc} {p : Pc} {o : Obj} {L : List El} (hP : Pushd w W o) (g1 : qs.map Pc.x = L) (g2 : W.grownBy w1 v.ownBlock) (g3 : OwnOr W v v1)
    (h : GrowP base w3 v3 (ps ++ (qs ++ [p]))) (m2 : w1.grownBy w3 v1.ownBlock) (m3 : OwnOr w1 v1 v3) : ∃ us, GrowP base w3 v3 (ps ++ us) ∧ us.map Pc.x = L ++ [p.x] ∧ w.grownBy w3 v.ownBlock ∧ OwnOr w v v3 := by
  have hb := hP.below
  have g2' := grown_of hb g2
  have g3' : OwnOr w v v1 := g3.weak hb.size
  exact ⟨qs ++ [p], h, by simp [g1], grown_trans g2' g3' m2, g3'.trans g2'.size m3⟩
set_option maxHeartbeats 1000000 in
theorem repOps_any (u : Value) (L : List El) (mn mx : Int) (hu : OpsAs u L) (base : Nat) (v : Value) (ps : List Pc) (w : World) (hbase : base ≤ w.heap.size) (h : GrowP base w v ps) (hl : ps.length + L.length ≤ 999999) :
    Calls Try.prog 78 #[.agg #[u, .int .i64 mn, .int .i64 mx], v] w fun e w' => OpsRet base w v ps (L ++ [⟨4, [], mn, mx⟩]) e w' := by
  obtain ⟨T, x, F, rfl, hm, hcf, hF⟩ := hu
  obtain ⟨oa, oc, rfl⟩ := own_is h.own
  have H := hide h
  have HF := hide hF
  clear h hF
  go_enter Try.func78, Try.ntmps78
  have hA : Hid (∀ (W w1 : World), Pushd w W (.cells #[.iface T x, .int .i64 mn, .int .i64 mx] 64) → W.grownBy w1 (Value.slice oa ps.length oc).ownBlock → w1.cell? ⟨w.heap.size, 1, none⟩ = some (.int .i64 mn) ∧ w1.cell? ⟨w.heap.size, 2, none⟩ = some (.int .i64 mx) ∧ w.heap.size ≤ w1.heap.size) := fun W w1 hP hg => ⟨recv_cell hP (unhide H) hg 1, recv_cell hP (unhide H) hg 2, Nat.le_trans hP.below.size hg.size⟩
  go_wp2_with (with_reducible refine (unhide HF base _ ps _ ?_ ?_ (by omega)).mono ?_)
  · refine Nat.le_trans hbase ?_
    show w.heap.size ≤ (w.alloc _).heap.size
    rw [sz_alloc]; omega
  · refine Pushd.grow (w := w) (o := .cells #[.iface T x, .int .i64 mn, .int .i64 mx] 64) ?_ (unhide H)
    exact ⟨rfl, rfl, rfl, rfl⟩
  rintro e w1 ⟨v2, qs, rfl, g1, g2, g3, g4⟩
  obtain ⟨hc0, hc1, hz1⟩ := unhide hA _ w1 (by exact ⟨rfl, rfl, rfl, rfl⟩) g3
  have hql : qs.length = L.length := by rw [← g2, List.length_map]
  have G1 := hide g1
  have G2 := hide g2
  have G3 := hide g3
  have G4 := hide g4
  clear g1 g2 g3 g4
  go_wp2_with (at_builtin; refine app_op2 (wr := w1) ⟨4, [], mn, mx⟩ (.slice none 0 0) (fun _ => False) rfl _ _ rfl rfl w1.heap.size rfl rfl (unhide G1) (Nat.le_trans hbase hz1) (Below.refl _ _) (SlF.none _) (fun k hk => hk.elim) rfl ⟨rfl, rfl, rfl, rfl⟩ (by rw [List.length_append]; omega) ?_)
  intro v4 w4 m1 m2 m3
  have hfin := hide (ops_end1 (w := w) (o := .cells #[.iface T x, .int .i64 mn, .int .i64 mx] 64) (by exact ⟨rfl, rfl, rfl, rfl⟩) (unhide G2) (unhide G3) (unhide G4) (by simpa [List.append_assoc] using m1) m2 m3)
  clear m1 m2 m3
  go_wp2
  go_ret
  obtain ⟨us, r1, r2, r3, r4⟩ := unhide hfin
  exact ⟨_, us, rfl, r1, r2, r3, r4⟩
set_option maxHeartbeats 1000000 in
theorem catOps_any (u v1 : Value) (L R : List El) (hu : OpsAs u L) (hv : OpsAs v1 R) (base : Nat) (v : Value) (ps : List Pc) (w : World) (hbase : base ≤ w.heap.size) (h : GrowP base w v ps) (hl : ps.length + L.length + R.length ≤ 999999) :
    Calls Try.prog 73 #[.agg #[u, v1], v] w fun e w' => OpsRet base w v ps (L ++ R ++ [⟨2, [], 0, 0⟩]) e w' := by
  obtain ⟨T, x, F, rfl, hm, hcf, hF⟩ := hu
  obtain ⟨T', x', F', rfl, hm', hcf', hF'⟩ := hv
  obtain ⟨oa, oc, rfl⟩ := own_is h.own
  have H := hide h
  have HF := hide hF
  have HG := hide hF'
  clear h hF hF'
  go_enter Try.func73, Try.ntmps73
  have hA : Hid (∀ (W w1 : World), Pushd w W (.cells #[.iface T x, .iface T' x'] 61) → W.grownBy w1 (Value.slice oa ps.length oc).ownBlock → w1.cell? ⟨w.heap.size, 0, none⟩ = some (.iface T x) ∧ w1.cell? ⟨w.heap.size, 1, none⟩ = some (.iface T' x') ∧ w.heap.size ≤ w1.heap.size) := fun W w1 hP hg => ⟨recv_cell hP (unhide H) hg 0, recv_cell hP (unhide H) hg 1, Nat.le_trans hP.below.size hg.size⟩
  go_wp2
  go_region_with ((first | ((with_reducible refine (unhide HF base _ ps _ ?_ ?_ (by omega)).mono ?_); (refine Nat.le_trans hbase ?_; show w.heap.size ≤ (w.alloc _).heap.size; rw [sz_alloc]; omega); (refine Pushd.grow (w := w) (o := .cells #[.iface T x, .iface T' x'] 61) ?_ (unhide H); exact ⟨rfl, rfl, rfl, rfl⟩); rintro e w1 ⟨v2, qs, rfl, g1, g2, g3, g4⟩; obtain ⟨hc0, hc1, hz1⟩ := unhide hA _ w1 (by exact ⟨rfl, rfl, rfl, rfl⟩) g3; have hql : qs.length = L.length := (by rw [← g2, List.length_map]); have G1 := hide g1; have G2 := hide g2; have G3 := hide g3; have G4 := hide g4; clear g1 g2 g3 g4) | ((with_reducible refine (unhide HG base _ (ps ++ qs) _ ?_ ?_ ?_).mono ?_); (show base ≤ w1.heap.size; omega); (first | exact unhide G1 | exact (unhide G1).drew); (rw [List.length_append]; omega); rintro e w2 ⟨v3, rs, rfl, k1, k2, k3, k4⟩; have hrl : rs.length = R.length := (by rw [← k2, List.length_map]); have K1 := hide k1; have K2 := hide k2; have K3 := hide k3; have K4 := hide k4; have hz2 := k3.size; clear k1 k2 k3 k4)))
  all_goals
    clear hc0 hc1
    go_wp2_with (at_builtin; refine app_op2 (wr := w2) ⟨2, [], 0, 0⟩ (.slice none 0 0) (fun _ => False) rfl _ _ rfl rfl w2.heap.size rfl rfl (unhide K1) (Nat.le_trans hbase (Nat.le_trans hz1 hz2)) (Below.refl _ _) (SlF.none _) (fun k hk => hk.elim) rfl ⟨rfl, rfl, rfl, rfl⟩ (by rw [List.length_append, List.length_append]; omega) ?_)
    intro v4 w4 m1 m2 m3
    have hfin := hide (ops_end (w := w) (o := .cells #[.iface T x, .iface T' x'] 61) (by exact ⟨rfl, rfl, rfl, rfl⟩) (unhide G2) (unhide G3) (unhide G4) (unhide K2) (unhide K3) (unhide K4) m1 m2 m3)
    clear m1 m2 m3
    go_wp2
    go_ret
    obtain ⟨us, r1, r2, r3, r4⟩ := unhide hfin
    exact ⟨_, us, rfl, r1, by simpa using r2, r3, r4⟩
set_option maxHeartbeats 1000000 in
theorem altOps_any (u v1 : Value) (L R : List El) (hu : OpsAs u L) (hv : OpsAs v1 R) (base : Nat) (v : Value) (ps : List Pc) (w : World) (hbase : base ≤ w.heap.size) (h : GrowP base w v ps) (hl : ps.length + L.length + R.length ≤ 999999) :
    Calls Try.prog 76 #[.agg #[u, v1], v] w fun e w' => OpsRet base w v ps (L ++ R ++ [⟨3, [], 0, 0⟩]) e w' := by
  obtain ⟨T, x, F, rfl, hm, hcf, hF⟩ := hu
  obtain ⟨T', x', F', rfl, hm', hcf', hF'⟩ := hv
  obtain ⟨oa, oc, rfl⟩ := own_is h.own
  have H := hide h
  have HF := hide hF
  have HG := hide hF'
  clear h hF hF'
  go_enter Try.func76, Try.ntmps76
  have hA : Hid (∀ (W w1 : World), Pushd w W (.cells #[.iface T x, .iface T' x'] 62) → W.grownBy w1 (Value.slice oa ps.length oc).ownBlock → w1.cell? ⟨w.heap.size, 0, none⟩ = some (.iface T x) ∧ w1.cell? ⟨w.heap.size, 1, none⟩ = some (.iface T' x') ∧ w.heap.size ≤ w1.heap.size) := fun W w1 hP hg => ⟨recv_cell hP (unhide H) hg 0, recv_cell hP (unhide H) hg 1, Nat.le_trans hP.below.size hg.size⟩
  go_wp2
  go_region_with ((first | ((with_reducible refine (unhide HF base _ ps _ ?_ ?_ (by omega)).mono ?_); (refine Nat.le_trans hbase ?_; show w.heap.size ≤ (w.alloc _).heap.size; rw [sz_alloc]; omega); (refine Pushd.grow (w := w) (o := .cells #[.iface T x, .iface T' x'] 62) ?_ (unhide H); exact ⟨rfl, rfl, rfl, rfl⟩); rintro e w1 ⟨v2, qs, rfl, g1, g2, g3, g4⟩; obtain ⟨hc0, hc1, hz1⟩ := unhide hA _ w1 (by exact ⟨rfl, rfl, rfl, rfl⟩) g3; have hql : qs.length = L.length := (by rw [← g2, List.length_map]); have G1 := hide g1; have G2 := hide g2; have G3 := hide g3; have G4 := hide g4; clear g1 g2 g3 g4) | ((with_reducible refine (unhide HG base _ (ps ++ qs) _ ?_ ?_ ?_).mono ?_); (show base ≤ w1.heap.size; omega); (first | exact unhide G1 | exact (unhide G1).drew); (rw [List.length_append]; omega); rintro e w2 ⟨v3, rs, rfl, k1, k2, k3, k4⟩; have hrl : rs.length = R.length := (by rw [← k2, List.length_map]); have K1 := hide k1; have K2 := hide k2; have K3 := hide k3; have K4 := hide k4; have hz2 := k3.size; clear k1 k2 k3 k4)))
  all_goals
    clear hc0 hc1
    go_wp2_with (at_builtin; refine app_op2 (wr := w2) ⟨3, [], 0, 0⟩ (.slice none 0 0) (fun _ => False) rfl _ _ rfl rfl w2.heap.size rfl rfl (unhide K1) (Nat.le_trans hbase (Nat.le_trans hz1 hz2)) (Below.refl _ _) (SlF.none _) (fun k hk => hk.elim) rfl ⟨rfl, rfl, rfl, rfl⟩ (by rw [List.length_append, List.length_append]; omega) ?_)
    intro v4 w4 m1 m2 m3
    have hfin := hide (ops_end (w := w) (o := .cells #[.iface T x, .iface T' x'] 62) (by exact ⟨rfl, rfl, rfl, rfl⟩) (unhide G2) (unhide G3) (unhide G4) (unhide K2) (unhide K3) (unhide K4) m1 m2 m3)
    clear m1 m2 m3
    go_wp2
    go_ret
    obtain ⟨us, r1, r2, r3, r4⟩ := unhide hfin
    exact ⟨_, us, rfl, r1, by simpa using r2, r3, r4⟩
theorem ops_e (w : World) : Sem.run Try.prog (method 213 78 (.agg #[]) "loop.example/s0027/impl.appendOps") w = .ok (80, .agg #[]) w := by kernel_rfl
theorem ocall_e (y : Value) (w : World) : Sem.run Try.prog (callFunc 80 #[.agg #[], y]) w = .ok (.enter 80 #[.agg #[], y]) w := by kernel_rfl
theorem ops_s (x : Value) (w : World) : Sem.run Try.prog (method 213 84 x "loop.example/s0027/impl.appendOps") w = .ok (83, x) w := by kernel_rfl
theorem ocall_s (x y : Value) (w : World) : Sem.run Try.prog (callFunc 83 #[x, y]) w = .ok (.enter 83 #[x, y]) w := by kernel_rfl
theorem ops_cat (x : Value) (w : World) : Sem.run Try.prog (method 213 61 x "loop.example/s0027/impl.appendOps") w = .ok (73, x) w := by kernel_rfl
theorem ocall_cat (x y : Value) (w : World) : Sem.run Try.prog (callFunc 73 #[x, y]) w = .ok (.enter 73 #[x, y]) w := by kernel_rfl
theorem ops_alt (x : Value) (w : World) : Sem.run Try.prog (method 213 62 x "loop.example/s0027/impl.appendOps") w = .ok (76, x) w := by kernel_rfl
theorem ocall_alt (x y : Value) (w : World) : Sem.run Try.prog (callFunc 76 #[x, y]) w = .ok (.enter 76 #[x, y]) w := by kernel_rfl
theorem ops_rep (x : Value) (w : World) : Sem.run Try.prog (method 213 64 x "loop.example/s0027/impl.appendOps") w = .ok (78, x) w := by kernel_rfl
theorem ocall_rep (x y : Value) (w : World) : Sem.run Try.prog (callFunc 78 #[x, y]) w = .ok (.enter 78 #[x, y]) w := by kernel_rfl
theorem OpsAs.e : OpsAs eV [⟨0, [], 0, 0⟩] := ⟨_, _, _, rfl, ops_e, ocall_e, fun base v ps w h1 h2 h3 => eOps_any base v ps w h1 h2 (by omega)⟩
theorem OpsAs.s {g : Nat → Nat} {xs : List Int} (hg : WordsOf xs g) (hc : Canon xs) : OpsAs (sV g) [⟨1, xs, 0, 0⟩] := ⟨_, _, _, rfl, ops_s _, ocall_s _, fun base v ps w h1 h2 h3 => sOps_any g xs hg hc base v ps w h1 h2 (by omega)⟩
theorem OpsAs.cat {u v : Value} {L R : List El} (hu : OpsAs u L) (hv : OpsAs v R) : OpsAs (cV u v) (L ++ R ++ [⟨2, [], 0, 0⟩]) := ⟨_, _, _, rfl, ops_cat _, ocall_cat _, fun base y ps w h1 h2 h3 => catOps_any u v L R hu hv base y ps w h1 h2 (by simp only [List.length_append, List.length_singleton] at h3; omega)⟩
theorem OpsAs.alt {u v : Value} {L R : List El} (hu : OpsAs u L) (hv : OpsAs v R) : OpsAs (aV u v) (L ++ R ++ [⟨3, [], 0, 0⟩]) := ⟨_, _, _, rfl, ops_alt _, ocall_alt _, fun base y ps w h1 h2 h3 => altOps_any u v L R hu hv base y ps w h1 h2 (by simp only [List.length_append, List.length_singleton] at h3; omega)⟩
theorem OpsAs.rep {u : Value} {L : List El} (hu : OpsAs u L) (mn mx : Int) : OpsAs (rV u mn mx) (L ++ [⟨4, [], mn, mx⟩]) := ⟨_, _, _, rfl, ops_rep _, ocall_rep _, fun base y ps w h1 h2 h3 => repOps_any u L mn mx hu base y ps w h1 h2 (by simp only [List.length_append, List.length_singleton] at h3; omega)⟩
open Classical in
theorem l1has_dec (v : Value) (set : List Int) (b : Int) (w : World) (hv : SlAt mI 0 0 w.heap.size w v set) (hl : set.length ≤ 1048576) :
    Calls Try.prog 48 #[v, .int .i64 b] w fun e w' => e = .returned (.bool (decide (inPs set b))) ∧ w' = w :=
  (l1has_any v set b w hv hl).mono (fun e w' ⟨⟨r, h1, h2⟩, h3⟩ => ⟨by rw [h1]; congr 2; rw [Bool.eq_iff_iff, h2, decide_eq_true_eq], h3⟩)
set_option maxHeartbeats 8000000 in
set_option maxRecDepth 100000 in
open Classical in
theorem en_s (bs xs : List Int) (hxs : xs.length ≤ 1048576) : EnS bs [⟨1, xs, 0, 0⟩] (rOne bs.length (hsL bs xs)) := by
  intro v lv bq F w hv hlen hlv hbs hbr
  obtain ⟨a, cp, rfl, -, -⟩ := id hv
  obtain ⟨hlen2, hcap, b, off, rfl, hbn, hel⟩ := ElsAt.last (p := []) hv
  simp only [List.length_singleton, List.length_nil, Nat.zero_mul, Nat.add_zero] at hel hv ⊢
  obtain ⟨i1, i2, i3, sv, c0, c1, c2, c3, hints⟩ := hel
  have hsl : SlAt mI 0 0 w.heap.size w sv xs := ints_slAt hints
  obtain ⟨sa, sc, rfl, -, -⟩ := id hsl
  have Hsl := hide hsl
  have Hlv := hide hlv
  have Hbt := hide hbs.2
  have hn := hbs.1
  have hmk := run_make_row' (P := Try.prog) 66 4 (.bool false) 1 Try.underlying66 Try.zinBoolM rfl .i64 .i64 (bs.length + 1) (by omega) (by omega)
  simp only [Int.natCast_add, Int.natCast_one] at hmk
  have hb2 := below2 w (.cells #[.int .i64 1, .slice sa xs.length sc, .int .i64 0, .int .i64 0] 32) (.cells (madeCells #[.bool false] (bs.length + 1)) 4)
  have h0 := br_made (w.alloc (.cells #[.int .i64 1, .slice sa xs.length sc, .int .i64 0, .int .i64 0] 32)) bs.length
  rw [sz_alloc] at h0
  have hq0 : ((w.alloc (.cells #[.int .i64 1, .slice sa xs.length sc, .int .i64 0, .int .i64 0] 32)).alloc (.cells (madeCells #[.bool false] (bs.length + 1)) 4)).cell? ⟨w.heap.size, 1, none⟩ = some (.slice sa xs.length sc) :=
    ((below1 _ _).cell (p := ⟨w.heap.size, 1, none⟩) (by rw [sz_alloc]; exact Nat.lt_succ_self _)).trans ((pushd_alloc w _).news 1 _ rfl)
  have Hbr := hide hbr
  have H0 := hide h0
  have HB2 := hide hb2
  have HQ0 := hide hq0
  obtain ⟨la, lc, rfl, -, -⟩ := id hlv
  clear hv hints i1 i2 i3 hlv hbr hb2 h0 hq0 hsl hbs
  go_enter Try.func31, Try.ntmps31
  go_wp2_with fail
  go_loopw [10] (fun iv wr => ∃ (i : Nat) (G : Nat → Bool), i ≤ bs.length ∧ iv = .int .i64 i ∧ BR wr bs.length (w.heap.size + 1) G ∧ (∀ j, G j = true ↔ ∃ k, k < i ∧ j = k + 1 ∧ F k = true ∧ hsL bs xs k) ∧ wr.cell? ⟨w.heap.size, 1, none⟩ = some (.slice sa xs.length sc) ∧ w.heap.size + 2 ≤ wr.heap.size ∧ Below w.heap.size w wr) (fun iv _ => bs.length - (intOf iv).toNat)
  case atStart => exact ⟨0, _, Nat.zero_le _, rfl, unhide H0, fun j => ⟨fun h => (by cases h), fun ⟨k, hk, _⟩ => absurd hk (Nat.not_lt_zero _)⟩, unhide HQ0, by rw [sz_alloc, sz_alloc]; omega, unhide HB2⟩
  case round =>
    clear H0 HB2 HQ0 hmk c0 c1 c2 c3
    obtain ⟨i, G, hi, rfl, hG, hGi, hq, hz, hB⟩ := hrel
    have HG := hide hG
    have HGi := hide hGi
    by_cases hlt : i < bs.length
    · have hlt' : (i : Int) < (bs.length : Int) := by omega
      have hlt2 : (i : Int) < (bs.length : Int) + 1 := by omega
      have hlt3 : (i : Int) + 1 < (bs.length : Int) + 1 := by omega
      have hw1 : IntKind.i64.wrap ((i : Int) + 1) = (i : Int) + 1 := k64i (by omega) (by omega)
      have hp1 : (0 : Int) ≤ (i : Int) + 1 := by omega
      have hF := (unhide Hbr).below hB (Nat.le_refl _)
      have d1 := World.rowIs.cell hF (i := i) (by omega)
      have d2 := World.rowIs.cell hG (i := i + 1) (by omega)
      have f2 := World.rowIs.frozen hG (i + 1)
      obtain ⟨_, _, e, -, hc⟩ := (unhide Hlv).below hB (Nat.le_refl _)
      cases e
      obtain ⟨lb, lo, rfl, -, -, hcell⟩ := hc (by omega)
      have d3 := hcell i hlt
      obtain ⟨x, hx⟩ : ∃ x, x = bs[i]?.getD 0 := ⟨_, rfl⟩
      have hx2 : 0 ≤ x ∧ x ≤ 255 := unhide Hbt x (by rw [hx, List.getElem?_eq_getElem hlt]; exact List.getElem_mem hlt)
      rw [← hx] at d3
      have HX := hide hx
      have HSL := hide ((unhide Hsl).below hB (Nat.le_refl _))
      have HBW := hide hB
      unfold mB at d3
      clear hF hc hcell hx hG hGi hB
      have hFIN : ∀ r : Bool, (r = true ↔ F i = true ∧ hsL bs xs i) → ∀ W0 : World, BR W0 bs.length (w.heap.size + 1) G → W0.cell? ⟨w.heap.size, 1, none⟩ = some (.slice sa xs.length sc) → w.heap.size + 2 ≤ W0.heap.size → Below w.heap.size w W0 → ∀ W : World, W = W0.setCell ⟨w.heap.size + 1, i + 1, none⟩ (.bool r) → ∃ (i' : Nat) (G : Nat → Bool), i' ≤ bs.length ∧ (Value.int .i64 ((i : Int) + 1)) = .int .i64 i' ∧ BR W bs.length (w.heap.size + 1) G ∧ (∀ j, G j = true ↔ ∃ k, k < i' ∧ j = k + 1 ∧ F k = true ∧ hsL bs xs k) ∧ W.cell? ⟨w.heap.size, 1, none⟩ = some (.slice sa xs.length sc) ∧ w.heap.size + 2 ≤ W.heap.size ∧ Below w.heap.size w W := by
        intro r hr W0 HG hq hz HBW W hW
        subst hW
        refine ⟨i + 1, fun j => if j = i + 1 then r else G j, by omega, by simp, ?_, fun j => ?_, ?_, ?_, ?_⟩
        · refine World.rowIs.congr (World.rowIs.set HG (i + 1) (.bool r)) (fun j hj => ?_)
          by_cases e : j = i + 1 <;> simp [e]
        · by_cases e : j = i + 1
          · subst e
            simp only [if_pos]
            rw [hr]
            constructor
            · intro h; exact ⟨i, by omega, rfl, h⟩
            · rintro ⟨k, hk, e, h⟩
              obtain rfl : i = k := by omega
              exact h
          · simp only [if_neg e]
            rw [unhide HGi j]
            constructor
            · rintro ⟨k, hk, h⟩; exact ⟨k, by omega, h⟩
            · rintro ⟨k, hk, e2, h⟩; exact ⟨k, by omega, e2, h⟩
        · rw [put_other (Or.inl (by omega))]; exact hq
        · rw [sz_put]; exact hz
        · exact bput HBW (by omega) _
      have HFIN := hide hFIN
      clear hFIN
      cases hFi : F i with
      | false =>
        rw [hFi] at d1
        have HR := hide (unhide HFIN false ⟨fun h => (by cases h), fun h => absurd h.1 (by rw [hFi]; decide)⟩)
        clear hFi HFIN
        go_wp2_with fail
        refine wp_region_quiet_tail 18 (by kernel_rfl) (by kernel_rfl) ?_
        simp only [List.take_succ_cons, List.take_zero, List.drop_succ_cons, List.drop_zero]
        repeat (first | go_big_quiet_skip | (go_big_quiet_want; go_big_quiet_op; go_big_quiet_on))
        refine wpQuiet_nil ?_
        go_wp2
        go_roundw
        case rel => exact unhide HR wr.drew (by exact unhide HG) (by exact hq) (by exact hz) (unhide HBW).drew _ rfl
        case measure => simp [intOf]; omega
      | true =>
        rw [hFi] at d1
        have HR : Hid (∀ r : Bool, (r = true ↔ inPs xs x) → _) := fun r h => unhide HFIN r (by rw [h]; unfold hsL; rw [← unhide HX]; exact ⟨fun q => ⟨hFi, q⟩, fun q => q.2⟩)
        clear hFi HFIN
        go_wp2_with fail
        refine wp_region_quiet_tail 18 (by kernel_rfl) (by kernel_rfl) ?_
        simp only [List.take_succ_cons, List.take_zero, List.drop_succ_cons, List.drop_zero]
        repeat (first | go_big_quiet_skip | (go_big_quiet_want; go_big_quiet_op; go_big_quiet_on))
        go_big_quiet_want
        go_big_quiet_op
        refine ⟨_, l1has_dec _ xs x _ (by exact unhide HSL) hxs, ?_⟩
        go_big_quiet_on
        repeat (first | go_big_quiet_skip | (go_big_quiet_want; go_big_quiet_op; go_big_quiet_on))
        refine wpQuiet_nil ?_
        go_wp2
        go_roundw
        case rel => exact unhide HR _ (by rw [decide_eq_true_eq]) wr.drew (by exact unhide HG) (by exact hq) (by exact hz) (unhide HBW).drew _ rfl
        case measure => simp [intOf]; omega
    · have e : i = bs.length := by omega
      have HB := hide hB
      subst e
      clear hG hGi hB hq
      go_wp2
      go_ret
      refine ⟨_, G, rfl, by omega, unhide HG, fun j hj => ?_, unhide HB⟩
      rw [unhide HGi]
      constructor
      · rintro ⟨k, h1, h2, h3, h4⟩; exact ⟨k, h3, h2, h1, h4⟩
      · rintro ⟨k, h3, h2, h1, h4⟩; exact ⟨k, h1, h2, h3, h4⟩
end Go.Proofs.Ytmafkoppadminaa
