import Derived.Test.YtjjmgegbeccjoaaPk3
import Derived.Test.YtjjmgegbeccjoaaPk1
namespace Go.Proofs.Ytjjmgegbeccjoaa
open Go.RowKit



/-- Nothing of the block is frozen. -/
def Unf (w : World) (b : Nat) : Prop := ∃ c t, w.heap[b]? = some (.cells c t (0, 0))
theorem Unf.same {w w' : World} {b : Nat} (h : Unf w b) (e : w'.heap[b]? = w.heap[b]?) : Unf w' b := by
  obtain ⟨c, t, hb⟩ := h
  exact ⟨c, t, e.trans hb⟩

/-- The four cells of an element, its set the value sv. -/
def El4 (w : World) (b o : Nat) (x : El) (sv : Value) : Prop :=
  w.cell? ⟨b, o, none⟩ = some (.int .i64 x.kind) ∧ w.cell? ⟨b, o + 1, none⟩ = some sv ∧ w.cell? ⟨b, o + 2, none⟩ = some (.int .i64 x.mn) ∧ w.cell? ⟨b, o + 3, none⟩ = some (.int .i64 x.mx)
theorem El4.same {w w' : World} {b o : Nat} {x : El} {sv : Value} (h : El4 w b o x sv) (e : w'.heap[b]? = w.heap[b]?) : El4 w' b o x sv := by
  obtain ⟨h0, h1, h2, h3⟩ := h
  refine ⟨?_, ?_, ?_, ?_⟩ <;> rw [World.cell?_of_block (w := w) (by exact e)] <;> assumption
theorem El4.put {w : World} {b o o' : Nat} {x : El} {sv u : Value} (h : El4 w b o x sv) (hne : o' < o ∨ o + 3 < o') : El4 (w.setCell ⟨b, o', none⟩ u) b o x sv := by
  obtain ⟨h0, h1, h2, h3⟩ := h
  refine ⟨?_, ?_, ?_, ?_⟩ <;> rw [put_other (Or.inr (by omega))] <;> assumption

/-- v is a slice of elements, xs, that owns all its memory: the row of the elements and a row for each set, all apart. -/
def ElsW (lo n : Nat) (w : World) (v : Value) (xs : List El) : Prop :=
  ∃ a cap, v = .slice a xs.length cap ∧ (xs.length ≤ cap ∧ cap ≤ maxLen) ∧ (0 < xs.length → ∃ (b off : Nat) (sv : Nat → Value) (sb : Nat → Nat), a = some ⟨b, off, none⟩ ∧ lo ≤ b ∧ b < n ∧ Unf w b ∧
    (∀ i : Nat, i < xs.length → El4 w b (off + i * 4) (xs[i]?.getD dE) (sv i)) ∧ (∀ i : Nat, i < xs.length → lo ≤ sb i ∧ sb i < n ∧ sb i ≠ b) ∧
    (∀ i j : Nat, i < xs.length → j < xs.length → i ≠ j → sb i ≠ sb j) ∧ ∀ i : Nat, i < xs.length → SlW mI 0 (sb i) (sb i + 1) w (sv i) (xs[i]?.getD dE).set)

theorem ElsW.same {lo n : Nat} {w w' : World} {v : Value} {xs : List El} (h : ElsW lo n w v xs) (hs : SameB lo n w w') : ElsW lo n w' v xs := by
  obtain ⟨a, cap, rfl, hl, hc⟩ := h
  refine ⟨a, cap, rfl, hl, fun hp => ?_⟩
  obtain ⟨b, off, sv, sb, e, h1, h2, h3, h4, h5, h6, h7⟩ := hc hp
  exact ⟨b, off, sv, sb, e, h1, h2, h3.same (hs b h1 h2), fun i hi => (h4 i hi).same (hs b h1 h2), h5, h6, fun i hi => (h7 i hi).same (fun k k1 k2 => hs k (by have := h5 i hi; omega) (by have := h5 i hi; omega))⟩
theorem ElsW.mono {lo n lo' n' : Nat} {w : World} {v : Value} {xs : List El} (h : ElsW lo n w v xs) (k1 : lo' ≤ lo) (k2 : n ≤ n') : ElsW lo' n' w v xs := by
  obtain ⟨a, cap, rfl, hl, hc⟩ := h
  refine ⟨a, cap, rfl, hl, fun hp => ?_⟩
  obtain ⟨b, off, sv, sb, e, h1, h2, h3, h4, h5, h6, h7⟩ := hc hp
  exact ⟨b, off, sv, sb, e, by omega, by omega, h3, h4, fun i hi => by have := h5 i hi; omega, h6, h7⟩

theorem SlW.keep' {α : Type} {mk : α → Value} {d : α} {lo n m : Nat} {w w' : World} {v : Value} {xs : List α} (h : SlW mk d lo n w v xs) (hb : Below m w w') (hn : n ≤ m) : SlW mk d lo n w' v xs := h.same (SameB.of_below hb hn)

theorem SlW.pin {α : Type} {mk : α → Value} {d : α} {lo n : Nat} {w : World} {v : Value} {xs : List α} (h : SlW mk d lo n w v xs) (hlt : lo < n) : ∃ b, lo ≤ b ∧ b < n ∧ SlW mk d b (b + 1) w v xs := by
  obtain ⟨a, cap, rfl, hl, hc⟩ := h
  by_cases hp : 0 < xs.length
  · obtain ⟨b, off, rfl, h1, h2, h3, h4⟩ := hc hp
    exact ⟨b, h1, h2, _, cap, rfl, hl, fun _ => ⟨b, off, rfl, Nat.le_refl _, by omega, h3, h4⟩⟩
  · exact ⟨lo, Nat.le_refl _, hlt, a, cap, rfl, hl, fun k => absurd k hp⟩

/-- It reads as elements, wherever it lies. -/
theorem ElsW.at {lo n : Nat} {w : World} {v : Value} {xs : List El} (h : ElsW lo n w v xs) (hr : ∀ i : Nat, i < xs.length → In64 (xs[i]?.getD dE).kind ∧ In64 (xs[i]?.getD dE).mn ∧ In64 (xs[i]?.getD dE).mx ∧ ∀ j : Nat, In64 ((xs[i]?.getD dE).set[j]?.getD 0)) : ElsAt lo n w v xs := by
  obtain ⟨a, cap, rfl, hl, hc⟩ := h
  refine ⟨a, cap, rfl, hl, fun hp => ?_⟩
  obtain ⟨b, off, sv, sb, e, h1, h2, h3, h4, h5, h6, h7⟩ := hc hp
  refine ⟨b, off, e, h1, h2, fun i hi => ?_⟩
  obtain ⟨r1, r2, r3, r4⟩ := hr i hi
  obtain ⟨q0, q1, q2, q3⟩ := h4 i hi
  refine ⟨r1, r2, r3, sv i, q0, q1, q2, q3, ?_⟩
  obtain ⟨a', cap', e', hl', hc'⟩ := h7 i hi
  refine ⟨a', cap', e', hl', r4, fun hp' => ?_⟩
  obtain ⟨b', off', e2, k1, k2, -, k4⟩ := hc' hp'
  exact ⟨b', off', e2, by have := h5 i hi; omega, by have := h5 i hi; omega, k4⟩

end Go.Proofs.Ytjjmgegbeccjoaa
