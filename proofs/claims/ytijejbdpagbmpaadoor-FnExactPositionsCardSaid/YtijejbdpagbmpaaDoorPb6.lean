import Derived.Test.YtijejbdpagbmpaaDoorPb5
import Derived.Test.YtijejbdpagbmpaaDoorP11
import Derived.Test.YtijejbdpagbmpaaDoorAm
namespace Go.Proofs.YtijejbdpagbmpaaDoor
open Go.RowKit

/-- A box of an automaton that is answered. -/
def auF (s : Value) (b : Bool) (f l k : Value) : Nat → Value := fun j => if j = 0 then s else if j = 1 then .bool b else if j = 2 then f else if j = 3 then l else k
def Row5 (w : World) (D : Nat) (s : Value) (b : Bool) (f l k : Value) : Prop := w.rowIs D 29 5 (auF s b f l k)
theorem Row5.new (w : World) (s : Value) (b : Bool) (f l k : Value) : Row5 (w.alloc (.cells #[s, .bool b, f, l, k] 29)) w.heap.size s b f l k := by
  refine World.rowIs_alloc w #[s, .bool b, f, l, k] 29 _ (fun i hi => ?_)
  match i, hi with
  | 0, _ => rfl
  | 1, _ => rfl
  | 2, _ => rfl
  | 3, _ => rfl
  | 4, _ => rfl
theorem Row5.put0 {w : World} {D : Nat} {s f l k : Value} {b : Bool} (h : Row5 w D s b f l k) (s' : Value) : Row5 (w.setCell ⟨D, 0, none⟩ s') D s' b f l k := by
  refine World.rowIs.congr (World.rowIs.set h 0 _) (fun j hj => ?_)
  match j, hj with
  | 0, _ => simp [auF]
  | 1, _ => simp [auF]
  | 2, _ => simp [auF]
  | 3, _ => simp [auF]
  | 4, _ => simp [auF]
theorem Row5.put1 {w : World} {D : Nat} {s f l k : Value} {b : Bool} (h : Row5 w D s b f l k) (b' : Bool) : Row5 (w.setCell ⟨D, 1, none⟩ (.bool b')) D s b' f l k := by
  refine World.rowIs.congr (World.rowIs.set h 1 _) (fun j hj => ?_)
  match j, hj with
  | 0, _ => simp [auF]
  | 1, _ => simp [auF]
  | 2, _ => simp [auF]
  | 3, _ => simp [auF]
  | 4, _ => simp [auF]
theorem Row5.put2 {w : World} {D : Nat} {s f l k : Value} {b : Bool} (h : Row5 w D s b f l k) (f' : Value) : Row5 (w.setCell ⟨D, 2, none⟩ f') D s b f' l k := by
  refine World.rowIs.congr (World.rowIs.set h 2 _) (fun j hj => ?_)
  match j, hj with
  | 0, _ => simp [auF]
  | 1, _ => simp [auF]
  | 2, _ => simp [auF]
  | 3, _ => simp [auF]
  | 4, _ => simp [auF]
theorem Row5.put3 {w : World} {D : Nat} {s f l k : Value} {b : Bool} (h : Row5 w D s b f l k) (l' : Value) : Row5 (w.setCell ⟨D, 3, none⟩ l') D s b f l' k := by
  refine World.rowIs.congr (World.rowIs.set h 3 _) (fun j hj => ?_)
  match j, hj with
  | 0, _ => simp [auF]
  | 1, _ => simp [auF]
  | 2, _ => simp [auF]
  | 3, _ => simp [auF]
  | 4, _ => simp [auF]
theorem Row5.put4 {w : World} {D : Nat} {s f l k : Value} {b : Bool} (h : Row5 w D s b f l k) (k' : Value) : Row5 (w.setCell ⟨D, 4, none⟩ k') D s b f l k' := by
  refine World.rowIs.congr (World.rowIs.set h 4 _) (fun j hj => ?_)
  match j, hj with
  | 0, _ => simp [auF]
  | 1, _ => simp [auF]
  | 2, _ => simp [auF]
  | 3, _ => simp [auF]
  | 4, _ => simp [auF]
theorem Row5.on {w w' : World} {D : Nat} {s f l k : Value} {b : Bool} (h : Row5 w D s b f l k) (e : w'.heap[D]? = w.heap[D]?) : Row5 w' D s b f l k := World.rowIs.of_block h e
theorem Row5.lt {w : World} {D : Nat} {s f l k : Value} {b : Bool} (h : Row5 w D s b f l k) : D < w.heap.size := World.rowIs.lt h
theorem Row5.facts {w : World} {D : Nat} {s f l k : Value} {b : Bool} (h : Row5 w D s b f l k) : w.cell? ⟨D, 0, none⟩ = some s ∧ w.cell? ⟨D, 1, none⟩ = some (.bool b) ∧ w.cell? ⟨D, 2, none⟩ = some f ∧ w.cell? ⟨D, 3, none⟩ = some l ∧ w.cell? ⟨D, 4, none⟩ = some k :=
  ⟨World.rowIs.cell h (i := 0) (by omega), World.rowIs.cell h (i := 1) (by omega), World.rowIs.cell h (i := 2) (by omega), World.rowIs.cell h (i := 3) (by omega), World.rowIs.cell h (i := 4) (by omega)⟩
theorem Row5.blk {w : World} {D : Nat} {s f l k : Value} {b : Bool} (h : Row5 w D s b f l k) : w.heap[D]? = some (.cells #[s, .bool b, f, l, k] 29) := by
  obtain ⟨cur, h1, h2, h3⟩ := h
  rw [h1]
  congr 2
  refine Array.ext (by rw [h2]; rfl) (fun i hi hj => ?_)
  have h4 := h3 i (by omega)
  rw [Array.getElem?_eq_getElem hi] at h4
  rw [Option.some.inj h4]
  have hi2 : i < 5 := by omega
  match i, hi2 with
  | 0, _ => rfl
  | 1, _ => rfl
  | 2, _ => rfl
  | 3, _ => rfl
  | 4, _ => rfl
theorem row5_of {w : World} {D : Nat} {s f l k : Value} {b : Bool} (h : w.heap[D]? = some (.cells #[s, .bool b, f, l, k] 29)) : Row5 w D s b f l k := by
  refine ⟨_, h, rfl, fun i hi => ?_⟩
  match i, hi with
  | 0, _ => rfl
  | 1, _ => rfl
  | 2, _ => rfl
  | 3, _ => rfl
  | 4, _ => rfl
theorem Row5.row {w : World} {D : Nat} {s0 f0 l0 k0 : Value} {b0 : Bool} (h : Row5 w D s0 b0 f0 l0 k0) (s : Value) (b : Bool) (f l k : Value) : Row5 (w.setRow D #[s, .bool b, f, l, k]) D s b f l k := row5_of (setRow_heap w D _ _ _ _ h.blk)
theorem all5 (b : Bool) (a1 a2 a3 a4 : Option Addr) (n1 n2 n3 n4 c1 c2 c3 c4 : Nat) : (#[.slice a1 n1 c1, .bool b, .slice a2 n2 c2, .slice a3 n3 c3, .slice a4 n4 c4] : Array Value).all (·.oneCell') = true := by kernel_rfl
theorem au_ret {w : World} {B : Nat} {s f l k : Value} {b : Bool} (h : Row5 w B s b f l k) {fn : Func} {p : Tmp} (hr : fn.results = #[.cell p 29]) (tmps : Array Value) (hp : tmps.getD p undef = .pointer (some ⟨B, 0, none⟩)) : (results fn tmps).run Tryd.prog w = .ok (.agg #[s, .bool b, f, l, k]) w :=
  results_cell_row hr tmps w B _ _ _ _ hp h.blk Tryd.underlying29 rfl (by kernel_rfl)

/-- The rows of links, as lists. -/
def folR (K : List Lk) (n i : Nat) : List Int := ((List.range n).filter (mkd K i)).map (fun j : Nat => (j : Int))
def folL (K : List Lk) (n : Nat) : List (List Int) := (List.range n).map (folR K n)
/-- The automaton of a pattern. -/
def AnsA (l r : Bool) (xs : List El) (S : List (List Int)) (b : Bool) (F L : List Int) (W : List (List Int)) : Prop :=
  (ValidT xs ∧ ∃ L0 a ln ss, SegX xs L0 ∧ L0.length ≤ 1000 ∧ SegO (whL l r L0) (lvs (whL l r L0)) a ln ss ∧ S = setsOf (whL l r L0) ∧ b = a.nl ∧ F = edg a false 0 ∧ L = edg a true 0 ∧ W = folL ln (lvs (whL l r L0))) ∨ (¬ ValidT xs ∧ S = [] ∧ b = false ∧ F = [] ∧ L = [] ∧ W = [])
theorem sh0 (a : It) : a.sh 0 = a := by obtain ⟨b, f, l⟩ := a; simp [It.sh]
theorem shL0 (ln : List Lk) : shL 0 ln = ln := by unfold shL; simp
theorem AnsA.one {l r : Bool} {xs : List El} {S S' : List (List Int)} {b b' : Bool} {F F' L L' : List Int} {W W' : List (List Int)} (h : AnsA l r xs S b F L W) (k : AnsA l r xs S' b' F' L' W') : S = S' ∧ b = b' ∧ F = F' ∧ L = L' ∧ W = W' := by
  rcases h with ⟨h1, L0, a, ln, ss, h2, -, h3, rfl, rfl, rfl, rfl, rfl⟩ | ⟨h1, rfl, rfl, rfl, rfl, rfl⟩ <;> rcases k with ⟨k1, M0, a', ln', ss', k2, -, k3, rfl, rfl, rfl, rfl, rfl⟩ | ⟨k1, rfl, rfl, rfl, rfl, rfl⟩
  · obtain rfl := h2.one k2
    obtain ⟨-, e1, e2, -⟩ := h3.one k3
    rw [sh0, sh0] at e1
    rw [shL0, shL0] at e2
    subst e1 e2
    exact ⟨rfl, rfl, rfl, rfl, rfl⟩
  · exact absurd h1 k1
  · exact absurd k1 h1
  · exact ⟨rfl, rfl, rfl, rfl, rfl⟩
/-- A value that shows an automaton. -/
def AutoV (w : World) (v : Value) (S : List (List Int)) (b : Bool) (F L : List Int) (W : List (List Int)) : Prop :=
  ∃ sv fv lv wv, v = .agg #[sv, .bool b, fv, lv, wv] ∧ SsAt mI 0 w.heap.size w sv S ∧ SlAt mI 0 0 w.heap.size w fv F ∧ SlAt mI 0 0 w.heap.size w lv L ∧ SsAt mI 0 w.heap.size w wv W
/-- One number more, at a plain region's append. -/
theorem app_int1 {ops : Array Oper} {rest : List Oper} {o : Oper} {a : Act} {Q : Exit → Act → World → Prop} (hgd : o.guard = none) (s y : Operand) (ho : o.op = .call { callee := .builtin .append, args := #[s, y], argTypes := #[27, 27] })
    {base : Nat} {w W : World} {v : Value} {os : List Int} {u : Int} (h : w.ownsRow base 3 1 v os.length (os.map mI)) (hs : a.eval s = v) (hbase : base ≤ w.heap.size) (hP : Pushd w W (.cells #[.int .i64 u] 3))
    (hy : a.eval y = .slice (some ⟨w.heap.size, 0, none⟩) 1 1) (hl : os.length ≤ 1048576)
    (K : ∀ v' w7, w7.ownsRow base 3 1 v' (os ++ [u]).length ((os ++ [u]).map mI) → Below base w w7 → wpList Tryd.prog ops Q rest (a.put o.dst v') w7) : wpList Tryd.prog ops Q (o :: rest) a W := by
  obtain ⟨j0, hj, hy0, hy1, hy2⟩ := info_parts Tryd.zinInt
  have hz := hP.size
  refine wpList_append_own_at W hgd s y 27 ho base 3 j0 (.int .i64 0) 1 8 Tryd.underlying27 hj hy0 hy1 hy2 rfl (by decide) v os.length (os.map mI) hs (hP.own h) ⟨w.heap.size, 0, none⟩ 1 1 [.int .i64 u] hy rfl (Pushd.news hP) (fun x hx => by rw [List.mem_singleton] at hx; subst hx; rfl) (by unfold maxLen; omega) (by omega) (by omega) ?_
  intro v' w7 r1 r2 _ _
  obtain ⟨q1, q2⟩ := grow_int h hbase hP r1 r2
  exact K v' w7 q1 q2
theorem Mx.on {w w' : World} {G n : Nat} {f : Nat → Nat → Bool} (h : Mx w G n f) (e : ∀ k, G ≤ k → k < G + 1 + n → w'.heap[k]? = w.heap[k]?) : Mx w' G n f :=
  ⟨h.top.of_block (e G (Nat.le_refl _) (by omega)), fun i hi => (h.row i hi).of_block (e _ (by omega) (by omega))⟩
theorem setsOf_next {M : List El} {k : Nat} (h : k < M.length) : setsOf (M.take (k + 1)) = setsOf (M.take k) ++ (if (M[k]?.getD dE).kind = 1 then [(M[k]?.getD dE).set] else []) := by
  have key : ∀ (A B : List El), setsOf (A ++ B) = setsOf A ++ setsOf B := by
    intro A B
    induction A with
    | nil => rfl
    | cons x r ih => simp [setsOf, ih]
  rw [take_next h, key]
  simp [setsOf]
theorem folR_next (K : List Lk) (i j : Nat) : ((List.range (j + 1)).filter (mkd K i)).map (fun j : Nat => (j : Int)) = ((List.range j).filter (mkd K i)).map (fun j : Nat => (j : Int)) ++ (if mkd K i j then [(j : Int)] else []) := by
  rw [List.range_succ, List.filter_append, List.map_append]
  congr 1
  by_cases h : mkd K i j = true
  · simp [h]
  · simp [h]
theorem folL_next (K : List Lk) (n i : Nat) (h : i < n) : (folL K n).take (i + 1) = (folL K n).take i ++ [folR K n i] := by
  unfold folL
  rw [List.take_add_one]
  simp [h]

end Go.Proofs.YtijejbdpagbmpaaDoor
