import Derived.Test.YtbgjgaejfkdceaaGreatSt11
import Derived.Deep.DeepCutAuto
namespace Go.Proofs.YtbgjgaejfkdceaaGreat
open Go.RowKit

/-- A store into a box of another type. -/
theorem LL.putty {α : Type} {mk : α → Value} {d : α} {e te t : TypeId} {base B o : Nat} {w : World} {v u : Value} {ps : List (Cl α)} (h : LL mk d e te base w v ps) {c0 c1 : Value} (hB : Row2 w B t c0 c1) (h1 : t ≠ e) (h2 : t ≠ te) : LL mk d e te base (w.setCell ⟨B, o, none⟩ u) v ps := by
  obtain ⟨cb, hcb, -⟩ := hB
  have hk : ∀ k, k ≠ B → (w.setCell ⟨B, o, none⟩ u).heap[k]? = w.heap[k]? := fun k hk => Below.heap_setCell _ _ _ _ (by exact hk)
  refine ⟨⟨h.own.1, ?_⟩, fun p hp => (h.ok p hp).same (fun h0 => hk _ (fun e1 => ?_)), h.lo, h.apart⟩
  · rcases h.own.2 with h3 | ⟨g, cap, cur, e1, e2, e3, e4⟩
    · exact Or.inl h3
    · refine Or.inr ⟨g, cap, cur, e1, e2, (hk g (fun q => ?_)).trans e3, e4⟩
      rw [q, hcb] at e3
      simp at e3
      exact h2 e3.2
  · obtain ⟨a, cap, -, -, hc⟩ := h.ok p hp
    obtain ⟨off, -, ⟨c, hc2⟩, -⟩ := hc h0
    rw [e1, hcb] at hc2
    simp at hc2
    exact h1 hc2.2

/-- What sealing answers, as data. -/
def SealIs (bss oss bss' oss' : List (List Int)) (c : Int) : Prop :=
  (StN bss oss ∧ bss' = [] ∧ oss' = [] ∧ c = 4) ∨ (∃ gs, StS bss oss gs ∧ oss = [] ∧ bss' = bss ∧ oss' = [] ∧ c = 0) ∨
  (∃ gs ks pss, StS bss oss gs ∧ oss ≠ [] ∧ SegR ((nL gs : Nat) : Int) oss ks pss ∧ bss' = bss ++ [encL ((nL gs : Nat) : Int) oss ks pss] ∧ oss' = [] ∧ c = 0)
theorem SealIs.uniq {bss oss b1 o1 b2 o2 : List (List Int)} {c1 c2 : Int} (h : SealIs bss oss b1 o1 c1) (h' : SealIs bss oss b2 o2 c2) : b1 = b2 ∧ o1 = o2 ∧ c1 = c2 := by
  rcases h with ⟨h0, rfl, rfl, rfl⟩ | ⟨gs, h0, h1, rfl, rfl, rfl⟩ | ⟨gs, ks, pss, h0, h1, h2, rfl, rfl, rfl⟩
  · rcases h' with ⟨g0, rfl, rfl, rfl⟩ | ⟨gs', g0, -⟩ | ⟨gs', -, -, g0, -⟩
    · exact ⟨rfl, rfl, rfl⟩
    · first | exact (h0 _ g0).elim | exact (g0 _ h0).elim
    · first | exact (h0 _ g0).elim | exact (g0 _ h0).elim
  · rcases h' with ⟨g0, -⟩ | ⟨gs', g0, g1, rfl, rfl, rfl⟩ | ⟨gs', -, -, g0, g1, -⟩
    · first | exact (h0 _ g0).elim | exact (g0 _ h0).elim
    · exact ⟨rfl, rfl, rfl⟩
    · exact absurd h1 g1
  · rcases h' with ⟨g0, -⟩ | ⟨gs', g0, g1, -⟩ | ⟨gs', ks', pss', g0, g1, g2, rfl, rfl, rfl⟩
    · first | exact (h0 _ g0).elim | exact (g0 _ h0).elim
    · exact absurd g1 h1
    · obtain rfl := h0.one g0
      obtain ⟨rfl, rfl⟩ := h2.uniq g2
      exact ⟨rfl, rfl, rfl⟩

/-- What the model answers for a state. -/
def StWant (e : Ending) (w' : World) (P : List (List Int) → List (List Int) → Int → Prop) : Prop := ∃ v b o c, e = .returned (.tuple #[v, .int .i64 c]) ∧ P b o c ∧ StRd w' v b o

/-- The segment that was built, in a box. -/
def SpecBox (bx : Value) (w wx : World) (nl : Int) (oss : List (List Int)) : Prop :=
  ∃ (N : Nat) (ks : List Int) (pss : List (List Int)) (a1 : Option Addr) (c1 : Nat) (a2 : Option Addr) (c2 : Nat) (a3 : Option Addr) (c3 : Nat), bx = .pointer (some ⟨N, 0, none⟩) ∧ SegR nl oss ks pss ∧ Row4 wx N 56 (.int .i64 nl) (.slice a1 oss.length c1) (.slice a2 ks.length c2) (.slice a3 pss.length c3) ∧
    SegRd wx (.agg #[.int .i64 nl, .slice a1 oss.length c1, .slice a2 ks.length c2, .slice a3 pss.length c3]) nl oss ks pss ∧ w.heap.size ≤ N ∧ N < wx.heap.size ∧ Below w.heap.size w wx

theorem run_l4encode (x : Value) (w : World) : Sem.run Tryz.prog (callFunc 32 #[x]) w = .ok (.enter 32 #[x]) w := by kernel_rfl

end Go.Proofs.YtbgjgaejfkdceaaGreat
