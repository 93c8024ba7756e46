import Derived.Test.YtjmajdfcfcgegaaMr3a
namespace Go.Proofs.Ytjmajdfcfcgegaa
open Go.RowKit

theorem bF_fr (fr mk tt : Nat → Nat) {j k : Nat} (x : Nat) (h : j ≠ k * 3) : bF (upd fr k x) mk tt j = bF fr mk tt j := by
  unfold bF
  by_cases h1 : j % 3 = 0
  · simp only [h1, if_true]; rw [upd_ne _ (by omega)]
  · simp only [h1, if_false]
theorem bF_mk (fr mk tt : Nat → Nat) {j k : Nat} (x : Nat) (h : j ≠ k * 3 + 1) : bF fr (upd mk k x) tt j = bF fr mk tt j := by
  unfold bF
  by_cases h1 : j % 3 = 1
  · simp only [h1, if_true]; rw [upd_ne _ (by omega)]
  · simp only [h1, if_false]
theorem bF_tt (fr mk tt : Nat → Nat) {j k : Nat} (x : Nat) (h : j ≠ k * 3 + 2) : bF fr mk (upd tt k x) j = bF fr mk tt j := by
  unfold bF
  by_cases h1 : j % 3 = 0
  · simp only [h1, if_true]
  · by_cases h2 : j % 3 = 1
    · simp only [h2, if_true]
    · simp only [h1, h2, if_false]; rw [upd_ne _ (by omega)]
theorem upd_upd (f : Nat → Nat) (k a b : Nat) : upd (upd f k a) k b = upd f k b := by
  funext x
  by_cases h : x = k
  · subst h; simp [upd]
  · simp [upd, h]
section
variable {O : Nat → Prop} {g mb mc pb pc bb bc : Nat} {w : World} {n N : Nat} {ms ps bs fr mk tt : Nat → Nat} {kb kc : Nat} {qv : Value} {qs : List Int} {tk : Nat}
theorem PtAt.setFr (h : PtAt O g mb mc pb pc bb bc w n N ms ps bs fr mk tt kb kc qv qs tk) {k : Nat} (hk : k < N) (x : Nat) : PtAt O g mb mc pb pc bb bc (w.setCell ⟨kb, k * 3, none⟩ (.int .i64 (x : Nat))) n N ms ps bs (upd fr k x) mk tt kb kc qv qs tk :=
  h.setK _ (by omega) (by rw [bF0, upd_at]) (fun j _ hj => bF_fr _ _ _ _ hj)
theorem PtAt.setMk (h : PtAt O g mb mc pb pc bb bc w n N ms ps bs fr mk tt kb kc qv qs tk) {k : Nat} (hk : k < N) (x : Nat) : PtAt O g mb mc pb pc bb bc (w.setCell ⟨kb, k * 3 + 1, none⟩ (.int .i64 (x : Nat))) n N ms ps bs fr (upd mk k x) tt kb kc qv qs tk :=
  h.setK _ (by omega) (by rw [bF1, upd_at]) (fun j _ hj => bF_mk _ _ _ _ hj)
theorem PtAt.setTt (h : PtAt O g mb mc pb pc bb bc w n N ms ps bs fr mk tt kb kc qv qs tk) {k : Nat} (hk : k < N) (x : Nat) : PtAt O g mb mc pb pc bb bc (w.setCell ⟨kb, k * 3 + 2, none⟩ (.int .i64 (x : Nat))) n N ms ps bs fr mk (upd tt k x) kb kc qv qs tk :=
  h.setK _ (by omega) (by rw [bF2, upd_at]) (fun j _ hj => bF_tt _ _ _ _ hj)
theorem PtAt.fro (h : PtAt O g mb mc pb pc bb bc w n N ms ps bs fr mk tt kb kc qv qs tk) (j : Nat) (u : Value) : FrO O w (w.setCell ⟨kb, j, none⟩ u) := (obk_put j u).fro h.oo.2.2.2.2
theorem PtAt.froB (h : PtAt O g mb mc pb pc bb bc w n N ms ps bs fr mk tt kb kc qv qs tk) (j : Nat) (u : Value) : FrO O w (w.setCell ⟨bb, j, none⟩ u) := (obk_put j u).fro h.oo.2.2.2.1
end

/-- The smaller part goes off. -/
def CutS (f m t o1 o2 r1 r2 : Nat) : Prop := (o1 = f ∧ o2 = m ∧ r1 = m ∧ r2 = t ∧ m - f ≤ t - m) ∨ (o1 = m ∧ o2 = t ∧ r1 = f ∧ r2 = m ∧ t - m < m - f)
/-- The two parts, in two boxes. -/
structure CutM (w w' : World) (o1 o2 r1 r2 : Nat) : Prop where
  off : w'.rowIs w.heap.size 71 3 (fun j => [Value.int .i64 (o1 : Nat), .int .i64 (o1 : Nat), .int .i64 (o2 : Nat)].getD j undef)
  rest : w'.rowIs (w.heap.size + 1) 71 3 (fun j => [Value.int .i64 (r1 : Nat), .int .i64 (r1 : Nat), .int .i64 (r2 : Nat)].getD j undef)
  bl : Below w.heap.size w w'
  sz : w'.heap.size = w.heap.size + 2
theorem CutM.drew {w w' : World} {o1 o2 r1 r2 : Nat} (h : CutM w w' o1 o2 r1 r2) : CutM w w'.drew o1 o2 r1 r2 := ⟨h.off.drew, h.rest.drew, h.bl.drew, h.sz⟩
theorem row3_new (w : World) (a b c : Value) (t : TypeId) : (w.alloc (.cells #[a, b, c] t)).rowIs w.heap.size t 3 (fun j => [a, b, c].getD j undef) :=
  World.rowIs_alloc w #[a, b, c] t _ (fun j hj => by
    match j, hj with
    | 0, _ => rfl
    | 1, _ => rfl
    | 2, _ => rfl)
theorem row3_set {w : World} {b : Nat} {t : TypeId} {F : Nat → Value} (h : w.rowIs b t 3 F) (x y z : Value) : (((w.setCell ⟨b, 0, none⟩ x).setCell ⟨b, 1, none⟩ y).setCell ⟨b, 2, none⟩ z).rowIs b t 3 (fun j => [x, y, z].getD j undef) :=
  (((h.set 0 x).set 1 y).set 2 z).congr (fun j hj => by
    match j, hj with
    | 0, _ => rfl
    | 1, _ => rfl
    | 2, _ => rfl)

theorem CutM.swap {w w' : World} {o1 o2 r1 r2 : Nat} (h : CutM w w' o1 o2 r1 r2) : CutM w ((((((w'.setCell ⟨w.heap.size, 0, none⟩ (.int .i64 (r1 : Nat))).setCell ⟨w.heap.size, 1, none⟩ (.int .i64 (r1 : Nat))).setCell ⟨w.heap.size, 2, none⟩ (.int .i64 (r2 : Nat))).setCell ⟨w.heap.size + 1, 0, none⟩ (.int .i64 (o1 : Nat))).setCell ⟨w.heap.size + 1, 1, none⟩ (.int .i64 (o1 : Nat))).setCell ⟨w.heap.size + 1, 2, none⟩ (.int .i64 (o2 : Nat))) r1 r2 o1 o2 := by
  obtain ⟨A, hA⟩ : ∃ A, A = ((w'.setCell ⟨w.heap.size, 0, none⟩ (.int .i64 (r1 : Nat))).setCell ⟨w.heap.size, 1, none⟩ (.int .i64 (r1 : Nat))).setCell ⟨w.heap.size, 2, none⟩ (.int .i64 (r2 : Nat)) := ⟨_, rfl⟩
  have bA : Obk w.heap.size w' A := by rw [hA]; exact ((obk_put _ _).trans (obk_put _ _)).trans (obk_put _ _)
  have rA := row3_set h.off (.int .i64 (r1 : Nat)) (.int .i64 (r1 : Nat)) (.int .i64 (r2 : Nat))
  rw [← hA] at rA ⊢
  obtain ⟨B, hB⟩ : ∃ B, B = ((A.setCell ⟨w.heap.size + 1, 0, none⟩ (.int .i64 (o1 : Nat))).setCell ⟨w.heap.size + 1, 1, none⟩ (.int .i64 (o1 : Nat))).setCell ⟨w.heap.size + 1, 2, none⟩ (.int .i64 (o2 : Nat)) := ⟨_, rfl⟩
  have bB : Obk (w.heap.size + 1) A B := by rw [hB]; exact ((obk_put _ _).trans (obk_put _ _)).trans (obk_put _ _)
  have rB := row3_set (h.rest.of_block (bA.block _ (by omega))) (.int .i64 (o1 : Nat)) (.int .i64 (o1 : Nat)) (.int .i64 (o2 : Nat))
  rw [← hB] at rB ⊢
  exact ⟨rA.of_block (bB.block _ (by omega)), rB, ⟨bB.os.trans (bA.os.trans h.bl.os), bB.tape.trans (bA.tape.trans h.bl.tape), bB.output.trans (bA.output.trans h.bl.output), by rw [bB.size, bA.size]; exact h.bl.size, fun k hk => by rw [bB.block k (by omega), bA.block k (by omega)]; exact h.bl.block k hk⟩, by rw [bB.size, bA.size]; exact h.sz⟩

theorem PtAt.congrB {O : Nat → Prop} {g mb mc pb pc bb bc : Nat} {w : World} {n N : Nat} {ms ps bs bs' fr mk tt : Nat → Nat} {kb kc : Nat} {qv : Value} {qs : List Int} {tk : Nat} (h : PtAt O g mb mc pb pc bb bc w n N ms ps bs fr mk tt kb kc qv qs tk) (e : ∀ t, t < n → bs t = bs' t) : PtAt O g mb mc pb pc bb bc w n N ms ps bs' fr mk tt kb kc qv qs tk :=
  ⟨h.box, h.cap, h.rm, h.rp, h.rb.congr e, h.rk, h.rq, h.ng, h.ne, h.oo, h.oq⟩
/-- What a cut leaves. -/
def CutRet (O : Nat → Prop) (g mb mc pb pc bb bc : Nat) (w : World) (n N : Nat) (ms ps bs fr mk tt : Nat → Nat) (qs : List Int) (tk k : Nat) : Prop :=
  (∃ kb kc qv, (mk k = fr k ∨ mk k = tt k) ∧ PtAt O g mb mc pb pc bb bc w n N ms ps bs fr (upd mk k (fr k)) tt kb kc qv qs tk) ∨
  (∃ kb kc qv o1 o2 r1 r2, fr k < mk k ∧ mk k < tt k ∧ CutS (fr k) (mk k) (tt k) o1 o2 r1 r2 ∧ PtAt O g mb mc pb pc bb bc w n (N + 1) ms ps (fun t => if o1 ≤ ps t ∧ ps t < o2 then N else bs t) (upd (upd fr k r1) N o1) (upd (upd mk k r1) N o1) (upd (upd tt k r2) N o2) kb kc qv (qs ++ [(N : Int)]) tk)

end Go.Proofs.Ytjmajdfcfcgegaa
