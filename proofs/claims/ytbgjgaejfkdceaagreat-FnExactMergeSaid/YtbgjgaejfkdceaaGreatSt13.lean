import Derived.Test.YtbgjgaejfkdceaaGreatSt10
import Derived.Test.YtbgjgaejfkdceaaGreatSt12
namespace Go.Proofs.YtbgjgaejfkdceaaGreat
open Go.RowKit

/-- What the program answers for a state. -/
def StGot (e : Ending) (w w' : World) (P : List (List Int) → List (List Int) → Int → Prop) : Prop := ∃ v b o c, e = .returned (.tuple #[v, .int .i64 c]) ∧ P b o c ∧ StF w.heap.size w'.heap.size w' v b o
/-- What a change of a store leaves. -/
def ChgOk (BX : Nat) (e : Ending) (w' : World) (R : List (List Int) → List (List Int) → Int → Prop) : Prop := ∃ c ss oss, e = .returned (.int .i64 c) ∧ StoreRd BX w' ss oss ∧ (∀ s ∈ ss, EncIn s.g.b s.g.xs s.g.ks s.g.pss) ∧ ss.length ≤ 1000 ∧ R (ss.map (fun s => encG s.g)) oss c

theorem decA_enc : ∀ (bss : List (List Int)) (base : Int) (gs : List Sg), DecS base bss gs → gs.map encG = bss
  | [], _, gs, h => by
    have h : gs = [] := h
    subst h
    rfl
  | _ :: r, _, _, ⟨g, t, h1, _, h3, e⟩ => by
    rw [e, List.map_cons, decA_enc r _ t h3]
    congr 1
    exact h1.2.2
/-- The segments of a valid state. -/
theorem stO_all {bss oss : List (List Int)} {gs : List Sg} (h : StS bss oss gs) (hby : ∀ x ∈ bss, Bytes x) : gs.map encG = bss ∧ (∀ g ∈ gs, (EncIn g.b g.xs g.ks g.pss ∧ SegIn g.b g.xs g.ks g.pss) ∧ Valid g.b g.xs g.ks g.pss) ∧ gs.length ≤ nL gs ∧ nL gs + oss.length ≤ 1000 ∧ nB gs + tot oss ≤ 20000 ∧ Plain oss := by
  obtain ⟨h1, h2, h3, h4⟩ := stO_is h
  obtain ⟨k1, k2, -⟩ := decA_ok bss 0 gs h1
  have hm : ∀ g ∈ gs, ∃ bs ∈ bss, DecG bs g := fun g hg => by
    obtain ⟨i, hi, rfl⟩ := List.getElem_of_mem hg
    obtain ⟨g', e1, e2, -⟩ := k2 i hi
    rw [List.getElem?_eq_getElem hi] at e1
    cases e1
    refine ⟨_, ?_, e2⟩
    rw [List.getElem?_eq_getElem (by omega)]
    exact List.getElem_mem _
  refine ⟨decA_enc _ _ _ h1, fun g hg => ?_, ?_, h3, h4, h2⟩
  · obtain ⟨bs, hb, hd⟩ := hm g hg
    exact ⟨hd.enc (hby bs hb), hd.1, hd.2.1⟩
  · have h5 : ∀ gs : List Sg, (∀ g ∈ gs, 1 ≤ g.xs.length) → gs.length ≤ nL gs := fun gs => by
      induction gs with
      | nil => intro _; simp [nL]
      | cons g r ih => intro h; have := ih (fun x hx => h x (List.mem_cons_of_mem _ hx)); have := h g (List.mem_cons_self ..); simp only [nL, List.length_cons]; omega
    exact h5 gs (fun g hg => by
      obtain ⟨bs, -, hd⟩ := hm g hg
      exact hd.1.2.1)

end Go.Proofs.YtbgjgaejfkdceaaGreat
