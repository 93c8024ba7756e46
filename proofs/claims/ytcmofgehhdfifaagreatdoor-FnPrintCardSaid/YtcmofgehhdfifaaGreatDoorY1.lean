import Derived.Test.YtcmofgehhdfifaaGreatDoorPk8
import Derived.Test.YtcmofgehhdfifaaGreatDoorPk7
namespace Go.Proofs.YtcmofgehhdfifaaGreatDoor
open Go.RowKit
def OwnOr (w : World) (v v' : Value) : Prop := v'.ownBlock = v.ownBlock ∨ ∃ k, w.heap.size ≤ k ∧ v'.ownBlock = some k
theorem OwnOr.trans {w w1 : World} {v v1 v2 : Value} (h : OwnOr w v v1) (hz : w.heap.size ≤ w1.heap.size) (k : OwnOr w1 v1 v2) : OwnOr w v v2 := by
  rcases k with k | ⟨j, h1, h2⟩
  · rcases h with h | ⟨j, h1, h2⟩
    · exact Or.inl (k.trans h)
    · exact Or.inr ⟨j, h1, k.trans h2⟩
  · exact Or.inr ⟨j, by omega, h2⟩
theorem grown_trans {w w1 w2 : World} {v v1 : Value} (h : w.grownBy w1 v.ownBlock) (o : OwnOr w v v1) (k : w1.grownBy w2 v1.ownBlock) : w.grownBy w2 v.ownBlock :=
  ⟨k.os.trans h.os, k.tape.trans h.tape, k.output.trans h.output, Nat.le_trans h.size k.size, fun j hj hne => (k.block j (Nat.lt_of_lt_of_le hj h.size) (fun e => by
    rcases o with o | ⟨q, q1, q2⟩
    · exact hne (by rw [e, o])
    · rw [q2] at e; simp at e; omega)).trans (h.block j hj hne)⟩
theorem grown_of {w w0 w1 : World} {v : Value} (hb : Below w.heap.size w w0) (hg : w0.grownBy w1 v.ownBlock) : w.grownBy w1 v.ownBlock :=
  ⟨hg.os.trans hb.os, hg.tape.trans hb.tape, hg.output.trans hb.output, Nat.le_trans hb.size hg.size, fun j hj hne => (hg.block j (Nat.lt_of_lt_of_le hj hb.size) hne).trans (hb.block j hj)⟩
theorem app_op2 {base : Nat} {wr w1 W : World} {ops : Array Oper} {rest : List Oper} {o : Oper} {a : Act} {Q : Exit → Act → World → Prop} {v : Value} {ps : List Pc} (x : El) (sv : Value) (T : Nat → Prop) (hgd : o.guard = none) (s y : Operand)
    (ho : o.op = .call { callee := .builtin .append, args := #[s, y], argTypes := #[23, 23] }) (hs : a.eval s = v) (N : Nat) (hN : w1.heap.size = N) (hy : a.eval y = .slice (some ⟨N, 0, none⟩) 1 1)
    (h : GrowP base wr v ps) (hbase : base ≤ wr.heap.size) (hb : Below wr.heap.size wr w1) (hsl : SlF mI 0 T w1 sv x.set) (hT : ∀ k, T k → wr.heap.size ≤ k ∧ k < w1.heap.size) (h1c : sv.oneCell' = true)
    (hP : Pushd w1 W (.cells #[.int .i64 x.kind, sv, .int .i64 x.mn, .int .i64 x.mx] 67)) (hlen : ps.length ≤ 16777216)
    (K : ∀ v' w', GrowP base w' v' (ps ++ [⟨x, sv, T⟩]) → wr.grownBy w' v.ownBlock → OwnOr wr v v' → wpList Tryz.prog ops Q rest (a.put o.dst v') w') : wpList Tryz.prog ops Q (o :: rest) a W := by
  subst hN
  obtain ⟨j0, hj, hy0, hy1, hy2⟩ := info_parts Tryz.zinOp
  have hown := hP.own (own_keep h.own hb (Nat.le_refl _))
  have hB : Below wr.heap.size wr W := hb.trans (hP.below.mono hb.size)
  refine wpList_append_own_at W hgd s y 23 ho base 67 j0 (.agg #[.int .i64 0, .slice none 0 0, .int .i64 0, .int .i64 0]) 4 48 Tryz.underlying23 hj hy0 hy1 hy2 rfl (by decide) v ps.length (cellsP ps) hs hown ⟨w1.heap.size, 0, none⟩ 1 1 (cell4 x sv) hy rfl ?_ ?_ ?_ ?_ ?_ ?_
  · exact Pushd.news hP
  · intro u hu
    simp only [cell4, List.mem_cons, List.not_mem_nil, or_false] at hu
    rcases hu with rfl | rfl | rfl | rfl
    · rfl
    · exact h1c
    · rfl
    · rfl
  · unfold maxLen; omega
  · omega
  · have := hP.size; have := hb.size; omega
  · intro v' w' q1 q2 _ q3
    obtain ⟨r1, r2⟩ := h.app1 hbase hb hsl hT hP q1 q2 q3
    refine K v' w' r1 (grown_of hB q2) (q3.imp id (fun e => ⟨_, hB.size, e⟩))
def OpsRet (base : Nat) (w : World) (v : Value) (ps : List Pc) (L : List El) (e : Ending) (w' : World) : Prop :=
  ∃ v' qs, e = .returned v' ∧ GrowP base w' v' (ps ++ qs) ∧ qs.map Pc.x = L ∧ w.grownBy w' v.ownBlock ∧ OwnOr w v v'
def OpsAs (u : Value) (L : List El) : Prop := ∃ (T : TypeId) (x : Value) (F : FuncId), u = .iface T x ∧
  (∀ w, Sem.run Tryz.prog (method 267 T x "loop.example/s0027/impl.appendOps") w = .ok (F, x) w) ∧ (∀ y w, Sem.run Tryz.prog (callFunc F #[x, y]) w = .ok (.enter F #[x, y]) w) ∧
  ∀ (base : Nat) (v : Value) (ps : List Pc) (w : World), base ≤ w.heap.size → GrowP base w v ps → ps.length + L.length ≤ 1000000 → Calls Tryz.prog F #[x, v] w fun e w' => OpsRet base w v ps L e w'
set_option maxHeartbeats 1000000 in
theorem eOps_any (base : Nat) (v : Value) (ps : List Pc) (w : World) (hbase : base ≤ w.heap.size) (h : GrowP base w v ps) (hl : ps.length ≤ 1000000) :
    Calls Tryz.prog 142 #[.agg #[], v] w fun e w' => OpsRet base w v ps ([⟨0, [], 0, 0⟩]) e w' := by
  obtain ⟨oa, oc, rfl⟩ := own_is h.own
  have H := hide h
  clear h
  go_enter Tryz.func142, Tryz.ntmps142
  go_wp2_with (at_builtin; refine app_op2 (wr := w) ⟨0, [], 0, 0⟩ (.slice none 0 0) (fun _ => False) rfl _ _ rfl rfl (w.heap.size + 1) (sz_alloc w _) rfl (unhide H) hbase (below1 w _) (SlF.none _) (fun k hk => hk.elim) rfl ⟨rfl, rfl, rfl, rfl⟩ (by omega) ?_)
  intro v' w' q1 q2 q3
  have Q1 := hide q1
  have Q2 := hide q2
  have Q3 := hide q3
  clear q1 q2 q3
  go_wp2
  go_ret
  exact ⟨_, _, rfl, unhide Q1, rfl, unhide Q2, unhide Q3⟩
set_option maxHeartbeats 1000000 in
theorem sOps_any (g : Nat → Nat) (xs : List Int) (hg : WordsOf xs g) (hcn : Canon xs) (base : Nat) (v : Value) (ps : List Pc) (w : World) (hbase : base ≤ w.heap.size) (h : GrowP base w v ps) (hl : ps.length ≤ 1000000) :
    Calls Tryz.prog 144 #[ws4 g, v] w fun e w' => OpsRet base w v ps ([⟨1, xs, 0, 0⟩]) e w' := by
  obtain ⟨oa, oc, rfl⟩ := own_is h.own
  have H := hide h
  have HG := hide hg
  clear h hg
  unfold ws4
  go_enter Tryz.func144, Tryz.ntmps144
  go_wp2_with fail
  refine (pairs_w g xs _ (unhide HG) hcn).mono ?_
  rintro e w1 ⟨v1, rfl, hs1, hb1⟩
  obtain ⟨sa, sc, rfl⟩ : ∃ a c, v1 = .slice a xs.length c := by obtain ⟨a, c, e, -⟩ := hs1; exact ⟨a, c, e⟩
  have Hs1 := hide hs1.foot
  have hz1 := hb1.size
  have hB1 : Below w.heap.size w w1 := (below1 w _).trans (hb1.mono (by rw [sz_alloc]; omega))
  rw [sz_alloc] at hz1
  clear hs1
  go_wp2_with (at_builtin; refine app_op2 (wr := w) ⟨1, xs, 0, 0⟩ (.slice sa xs.length sc) (Rng (w.heap.size + 1) w1.heap.size) rfl _ _ rfl rfl w1.heap.size rfl rfl (unhide H) hbase hB1 ((unhide Hs1).mono (fun k hk => ⟨by have := hk.1; rw [sz_alloc] at this; exact this, hk.2⟩)) (fun k hk => ⟨by have := hk.1; omega, hk.2⟩) rfl ⟨rfl, rfl, rfl, rfl⟩ (by omega) ?_)
  intro v' w' q1 q2 q3
  have Q1 := hide q1
  have Q2 := hide q2
  have Q3 := hide q3
  clear q1 q2 q3
  go_wp2
  go_ret
  exact ⟨_, _, rfl, unhide Q1, rfl, unhide Q2, unhide Q3⟩
theorem Pushd.grow {w W : World} {o : Obj} (hP : Pushd w W o) {base : Nat} {v : Value} {ps : List Pc} (h : GrowP base w v ps) : GrowP base W v ps := h.keep hP.below (Nat.le_refl _)
theorem GrowP.drew {w : World} {base : Nat} {v : Value} {ps : List Pc} (h : GrowP base w v ps) : GrowP base w.drew v ps := ⟨h.own, h.set, h.blk, h.dis⟩
theorem recv_cell {w W w1 : World} {cs : Array Value} {t : TypeId} {v : Value} {base : Nat} {ps : List Pc} (hP : Pushd w W (.cells cs t)) (h : GrowP base w v ps) (hg : W.grownBy w1 v.ownBlock) (i : Nat) : w1.cell? ⟨w.heap.size, i, none⟩ = cs[i]? := by
  have h1 : w1.heap[w.heap.size]? = some (.cells cs t) := by
    rw [hg.block w.heap.size (by rw [hP.size]; omega) (fun e => by have := (h.own.lt _ e.symm).2; omega)]
    exact hP.new
  simp [World.cell?, h1]
theorem OwnOr.weak {w W : World} {v v' : Value} (h : OwnOr W v v') (hz : w.heap.size ≤ W.heap.size) : OwnOr w v v' := h.imp id (fun ⟨k, h1, h2⟩ => ⟨k, by omega, h2⟩)
theorem ops_end {base : Nat} {w W w1 w2 w3 : World} {v v1 v2 v3 : Value} {ps qs rs : List Pc} {p : Pc} {o : Obj} {L R : List El} (hP : Pushd w W o) (g1 : qs.map Pc.x = L) (g2 : W.grownBy w1 v.ownBlock) (g3 : OwnOr W v v1) (k1 : rs.map Pc.x = R) (k2 : w1.grownBy w2 v1.ownBlock) (k3 : OwnOr w1 v1 v2)
    (h : GrowP base w3 v3 (ps ++ (qs ++ (rs ++ [p])))) (m2 : w2.grownBy w3 v2.ownBlock) (m3 : OwnOr w2 v2 v3) : ∃ us, GrowP base w3 v3 (ps ++ us) ∧ us.map Pc.x = L ++ R ++ [p.x] ∧ w.grownBy w3 v.ownBlock ∧ OwnOr w v v3 := by
  have hb := hP.below
  have g2' := grown_of hb g2
  have g3' : OwnOr w v v1 := g3.weak hb.size
  have a2 := grown_trans g2' g3' k2
  have a3 : OwnOr w v v2 := g3'.trans g2'.size k3
  exact ⟨qs ++ (rs ++ [p]), h, by simp [g1, k1], grown_trans a2 a3 m2, a3.trans a2.size m3⟩
theorem ops_end1 {base : Nat} {w W w1 w3 : World} {v v1 v3 : Value} {ps qs : List Pc} {p : Pc} {o : Obj} {L : List El} (hP : Pushd w W o) (g1 : qs.map Pc.x = L) (g2 : W.grownBy w1 v.ownBlock) (g3 : OwnOr W v v1)
    (h : GrowP base w3 v3 (ps ++ (qs ++ [p]))) (m2 : w1.grownBy w3 v1.ownBlock) (m3 : OwnOr w1 v1 v3) : ∃ us, GrowP base w3 v3 (ps ++ us) ∧ us.map Pc.x = L ++ [p.x] ∧ w.grownBy w3 v.ownBlock ∧ OwnOr w v v3 := by
  have hb := hP.below
  have g2' := grown_of hb g2
  have g3' : OwnOr w v v1 := g3.weak hb.size
  exact ⟨qs ++ [p], h, by simp [g1], grown_trans g2' g3' m2, g3'.trans g2'.size m3⟩
set_option maxHeartbeats 1000000 in
theorem repOps_any (u : Value) (L : List El) (mn mx : Int) (hu : OpsAs u L) (base : Nat) (v : Value) (ps : List Pc) (w : World) (hbase : base ≤ w.heap.size) (h : GrowP base w v ps) (hl : ps.length + L.length ≤ 999999) :
    Calls Tryz.prog 151 #[.agg #[u, .int .i64 mn, .int .i64 mx], v] w fun e w' => OpsRet base w v ps (L ++ [⟨4, [], mn, mx⟩]) e w' := by
  obtain ⟨T, x, F, rfl, hm, hcf, hF⟩ := hu
  obtain ⟨oa, oc, rfl⟩ := own_is h.own
  have H := hide h
  have HF := hide hF
  clear h hF
  go_enter Tryz.func151, Tryz.ntmps151
  have hA : Hid (∀ (W w1 : World), Pushd w W (.cells #[.iface T x, .int .i64 mn, .int .i64 mx] 111) → W.grownBy w1 (Value.slice oa ps.length oc).ownBlock → w1.cell? ⟨w.heap.size, 1, none⟩ = some (.int .i64 mn) ∧ w1.cell? ⟨w.heap.size, 2, none⟩ = some (.int .i64 mx) ∧ w.heap.size ≤ w1.heap.size) := fun W w1 hP hg => ⟨recv_cell hP (unhide H) hg 1, recv_cell hP (unhide H) hg 2, Nat.le_trans hP.below.size hg.size⟩
  go_wp2_with (with_reducible refine (unhide HF base _ ps _ ?_ ?_ (by omega)).mono ?_)
  · refine Nat.le_trans hbase ?_
    show w.heap.size ≤ (w.alloc _).heap.size
    rw [sz_alloc]; omega
  · refine Pushd.grow (w := w) (o := .cells #[.iface T x, .int .i64 mn, .int .i64 mx] 111) ?_ (unhide H)
    exact ⟨rfl, rfl, rfl, rfl⟩
  rintro e w1 ⟨v2, qs, rfl, g1, g2, g3, g4⟩
  obtain ⟨hc0, hc1, hz1⟩ := unhide hA _ w1 (by exact ⟨rfl, rfl, rfl, rfl⟩) g3
  have hql : qs.length = L.length := by rw [← g2, List.length_map]
  have G1 := hide g1
  have G2 := hide g2
  have G3 := hide g3
  have G4 := hide g4
  clear g1 g2 g3 g4
  go_wp2_with (at_builtin; refine app_op2 (wr := w1) ⟨4, [], mn, mx⟩ (.slice none 0 0) (fun _ => False) rfl _ _ rfl rfl w1.heap.size rfl rfl (unhide G1) (Nat.le_trans hbase hz1) (Below.refl _ _) (SlF.none _) (fun k hk => hk.elim) rfl ⟨rfl, rfl, rfl, rfl⟩ (by rw [List.length_append]; omega) ?_)
  intro v4 w4 m1 m2 m3
  have hfin := hide (ops_end1 (w := w) (o := .cells #[.iface T x, .int .i64 mn, .int .i64 mx] 111) (by exact ⟨rfl, rfl, rfl, rfl⟩) (unhide G2) (unhide G3) (unhide G4) (by simpa [List.append_assoc] using m1) m2 m3)
  clear m1 m2 m3
  go_wp2
  go_ret
  obtain ⟨us, r1, r2, r3, r4⟩ := unhide hfin
  exact ⟨_, us, rfl, r1, r2, r3, r4⟩
end Go.Proofs.YtcmofgehhdfifaaGreatDoor
