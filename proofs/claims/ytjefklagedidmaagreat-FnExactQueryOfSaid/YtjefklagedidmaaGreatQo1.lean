import Derived.Test.YtjefklagedidmaaGreatP2
import Derived.Test.YtjefklagedidmaaGreatJ23
import Derived.Test.YtjefklagedidmaaGreatN8
namespace Go.Proofs.YtjefklagedidmaaGreat
open Go.RowKit

/-- The symbols of skeletons. -/
def Sy (S : List (List Int)) : Prop := ∀ x ∈ S, ∀ b ∈ x, 0 ≤ b ∧ b ≤ 256
theorem Sy.gap : Sy [[256]] := fun x hx b hb => by
  rw [List.mem_singleton] at hx
  subst hx
  rw [List.mem_singleton] at hb
  omega
theorem bytes_ge (set : List Int) : ∀ n : Nat, ∀ b ∈ bytesOf set n, 0 ≤ b
  | 0, b, h => by cases h
  | n + 1, b, h => by
    by_cases q : inPs set n
    · rw [bytes_in q] at h
      rcases List.mem_append.1 h with h | h
      · exact bytes_ge set n b h
      · rw [List.mem_singleton.1 h]; omega
    · rw [bytes_out q] at h
      exact bytes_ge set n b h
theorem Sy.leaf (xs : List Int) : Sy (leafS xs) := by
  unfold leafS
  split
  · exact Sy.gap
  · intro x hx b hb
    obtain ⟨y, hy, rfl⟩ := List.mem_map.1 hx
    rw [List.mem_singleton] at hb
    subst hb
    have := bytes_lt xs 256 b hy
    have := bytes_ge xs 256 b hy
    omega
theorem jn2_mem {a b : List Int} {z : Int} (h : z ∈ jn2 a b) : z ∈ a ∨ z ∈ b := by
  unfold jn2 at h
  split at h
  · rcases List.mem_append.1 h with h | h
    · exact Or.inl h
    · exact Or.inr (List.mem_of_mem_tail h)
  · exact List.mem_append.1 h
theorem Sy.prd {A B : List (List Int)} (ha : Sy A) (hb : Sy B) : Sy (prd A B) := fun x hx z hz => by
  obtain ⟨a, ha', b, hb', rfl⟩ := mem_prd.1 hx
  rcases jn2_mem hz with h | h
  · exact ha a ha' z h
  · exact hb b hb' z h
theorem Sy.app {A B : List (List Int)} (ha : Sy A) (hb : Sy B) : Sy (A ++ B) := fun x hx => (List.mem_append.1 hx).elim (ha x) (hb x)
theorem Sy.cut {L : List (List Int)} (h : Sy L) : Sy (cutf L) := by
  obtain ⟨D, -, h2, h3 | h3⟩ := cutf_ok L
  · rw [h3.2]; exact Sy.gap
  · rw [h3.2]; exact fun x hx => h x ((h2 x).1 hx)
theorem Sy.rep {o : List (List Int)} (h : Sy o) (mn : Int) : Sy (repK o mn) := by
  unfold repK
  split
  · exact Sy.gap
  · refine (h.app (Sy.prd (fun x hx z hz => ?_) h)).cut
    obtain ⟨a, ha, rfl⟩ := List.mem_map.1 hx
    rcases jn2_mem hz with q | q
    · exact h a ha z q
    · rw [List.mem_singleton] at q; omega
theorem Sy.push {st : List (List (List Int))} {x : El} (h : ∀ S ∈ st, Sy S) : ∀ S ∈ kPush st x, Sy S := by
  intro S hS
  unfold kPush at hS
  split at hS
  · rcases List.mem_cons.1 hS with rfl | hS
    · intro y hy b hb; rw [List.mem_singleton] at hy; subst hy; cases hb
    · exact h S hS
  · split at hS
    · rcases List.mem_cons.1 hS with rfl | hS
      · exact Sy.leaf _
      · exact h S hS
    · split at hS
      · cases hS
      · split at hS
        · rw [List.mem_singleton.1 hS]; exact (h _ (by simp)).rep _
        · exact h S hS
      · split at hS
        · rcases List.mem_cons.1 hS with rfl | hS
          · exact (h _ (by simp)).rep _
          · exact h S (List.mem_cons_of_mem _ hS)
        · split at hS
          · rcases List.mem_cons.1 hS with rfl | hS
            · exact (Sy.prd (h _ (by simp)) (h _ (by simp))).cut
            · exact h S (by simp [hS])
          · rcases List.mem_cons.1 hS with rfl | hS
            · exact (Sy.app (h _ (by simp)) (h _ (by simp))).cut
            · exact h S (by simp [hS])
theorem Sy.run : ∀ (xs : List El) (st : List (List (List Int))), (∀ S ∈ st, Sy S) → ∀ S ∈ kRun st xs, Sy S
  | [], _, h => h
  | x :: r, st, h => Sy.run r (kPush st x) (Sy.push h)
theorem AnsK.sy {xs : List El} {S : List (List Int)} (h : AnsK xs S) : Sy S := by
  rcases h with ⟨-, L, -, h, -⟩ | ⟨-, rfl⟩
  · exact Sy.run L [] (by simp) S (by rw [h []]; simp)
  · intro x hx; cases hx

/-- The clauses of skeletons, as they come. -/
def gS (S : List (List Int)) : List (List Int) := S.map (fun s => gtr s (s.length - 2))
theorem gS_len (S : List (List Int)) : (gS S).length = S.length := List.length_map _
theorem gS_get (S : List (List Int)) (n : Nat) (hn : n < S.length) : (gS S)[n]?.getD [] = gtr (S[n]?.getD []) ((S[n]?.getD []).length - 2) := by
  unfold gS; rw [List.getElem?_map, List.getElem?_eq_getElem hn]; rfl
theorem gS_step (S : List (List Int)) (n : Nat) (hn : n < S.length) : (gS S).take (n + 1) = (gS S).take n ++ [gtr (S[n]?.getD []) ((S[n]?.getD []).length - 2)] := by
  rw [List.take_add_one, ← gS_get S n hn, List.getElem?_eq_getElem (by rw [gS_len]; exact hn)]; rfl
theorem sm_gS {S : List (List Int)} (h : Sm S) : tot (gS S) ≤ 3000 := by
  have h1 : Sm (gS S) := ⟨by rw [gS_len]; exact h.1, fun x hx => by
    obtain ⟨s, hs, rfl⟩ := List.mem_map.1 hx
    have := h.2 s hs
    have := gtr_len s (s.length - 2)
    omega⟩
  exact h1.tot
/-- The answer of QueryOf to a tree. -/
def QAns (xs : List El) (rs : List (List Int)) : Prop := ∃ S, AnsK xs S ∧ NormV (gS S) rs
theorem QAns.one {xs : List El} {rs rs' : List (List Int)} (h : QAns xs rs) (k : QAns xs rs') : rs = rs' := by
  obtain ⟨S, h1, h2⟩ := h
  obtain ⟨S', k1, k2⟩ := k
  obtain rfl := h1.one k1
  exact h2.uniq k2
theorem Each.norm {xss rs : List (List Int)} {ps : List (Cl Int)} (he : Each xss ps) (h : NormV (ps.map Cl.xs) rs) : NormV xss rs := by
  obtain ⟨cs, h1, h2, h3⟩ := h.ex
  refine ⟨cs, h1, fun z => (h2 z).trans ⟨?_, ?_⟩, h3⟩
  · rintro ⟨y, hy, ho⟩
    obtain ⟨x, hx, hxy⟩ := (he.mem y).1 hy
    have : z = y := ho.uniq ⟨hxy.asc, fun _ => Iff.rfl⟩
    subst this
    exact ⟨x, hx, hxy⟩
  · rintro ⟨x, hx, ho⟩
    exact ⟨z, (he.mem z).2 ⟨x, hx, ho⟩, ho.asc, fun _ => Iff.rfl⟩
/-- Clauses that are short and hold numbers of trigrams. -/
def BdC (ps : List (Cl Int)) : Prop := ∀ p ∈ ps, p.xs.length ≤ 60 ∧ ∀ z, z ∈ p.xs → 0 ≤ z ∧ z ≤ 16777215
theorem BdC.nil : BdC [] := fun p hp => by cases hp
theorem BdC.app {ps : List (Cl Int)} {p : Cl Int} (h : BdC ps) (h1 : p.xs.length ≤ 60) (h2 : ∀ z, z ∈ p.xs → 0 ≤ z ∧ z ≤ 16777215) : BdC (ps ++ [p]) := fun q hq => by
  rcases List.mem_append.1 hq with hq | hq
  · exact h q hq
  · rw [List.mem_singleton.1 hq]; exact ⟨h1, h2⟩
theorem BdC.lim {ps : List (Cl Int)} (h : BdC ps) (hl : ps.length ≤ 50) : Lim (ps.map Cl.xs) := by
  refine ⟨by rw [List.length_map]; omega, fun k hk => ?_⟩
  rw [List.length_map] at hk
  have e : (ps.map Cl.xs)[k]?.getD [] = (ps[k]).xs := by rw [List.getElem?_map, List.getElem?_eq_getElem hk]; rfl
  rw [e]
  have h1 := h _ (List.getElem_mem hk)
  refine ⟨by have := h1.1; omega, fun j hj => ?_⟩
  rw [List.getElem?_eq_getElem hj]
  exact h1.2 _ (List.getElem_mem hj)

end Go.Proofs.YtjefklagedidmaaGreat
