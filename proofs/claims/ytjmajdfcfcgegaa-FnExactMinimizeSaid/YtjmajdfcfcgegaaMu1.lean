import Derived.Test.YtjmajdfcfcgegaaMt5
import Derived.Test.YtjmajdfcfcgegaaPk4
namespace Go.Proofs.Ytjmajdfcfcgegaa
open Go.RowKit

/-- A pair, as the machine holds it. -/
def pN (p : Nat × Nat) : Value := ii (p.1 : Int) (p.2 : Int)
theorem pN_inj {p q : Nat × Nat} (h : pN p = pN q) : p = q := by
  simp only [pN, ii, Value.agg.injEq] at h
  have h1 : (p.1 : Int) = q.1 ∧ (p.2 : Int) = q.2 := by simpa using h
  exact Prod.ext (by omega) (by omega)
theorem pN_get {o : List (Nat × Nat)} {i : Nat} {x : Nat × Nat} (h : (o.map pN)[i]? = some (pN x)) : o[i]? = some x := by
  rw [List.getElem?_map] at h
  cases e : o[i]? with
  | none => rw [e] at h; cases h
  | some y =>
    rw [e] at h
    rw [pN_inj (Option.some.inj h)]
theorem pN_mem {o : List (Nat × Nat)} {x : Nat × Nat} : pN x ∈ o.map pN ↔ x ∈ o := by
  constructor
  · intro h
    obtain ⟨i, hi⟩ := List.getElem?_of_mem h
    exact List.mem_of_getElem? (pN_get hi)
  · intro h
    exact List.mem_map.2 ⟨x, h, rfl⟩
/-- The pairs' loop. -/
structure PrAt (w4 w : World) (mp mb k : Nat) (key : Nat → Nat × Nat) (mg : Nat → Nat) (ds : List (Nat × Nat)) (ns fs : List Nat) : Prop where
  num : NumAt 47 w mp (ds.map pN)
  nr : RowN w mb k (fun c => if c < ns.length then ns[c]?.getD 0 else mg c)
  nl : NumL key ds ns fs
  fr : FrO (fun k => k = mp ∨ k = mb ∨ w4.heap.size ≤ k) w4 w
  lt : mp < w4.heap.size ∧ mb < w4.heap.size ∧ mp ≠ mb
theorem numl_le {α : Type} {key : Nat → α} {ds : List α} {ns fs : List Nat} (h : NumL key ds ns fs) : ds.length ≤ ns.length := by
  refine Nat.le_of_not_lt fun hlt => ?_
  have h1 : ((List.range ds.length).map (fun j => fs[j]?.getD 0)).Nodup := by
    rw [List.nodup_iff_pairwise_ne, List.pairwise_map]
    refine (List.nodup_range (n := ds.length)).imp_of_mem (fun {a b} ha hb hne he => hne ?_)
    have ha := List.mem_range.1 ha
    have hb := List.mem_range.1 hb
    rw [← (h.fr a ha).2, ← (h.fr b hb).2, he]
  have h2 := nodup_le ns.length _ h1 (fun x hx => by
    obtain ⟨a, ha, rfl⟩ := List.mem_map.1 hx
    exact (h.fr a (List.mem_range.1 ha)).1)
  simp at h2
  omega
/-- One class more. -/
theorem PrAt.step {w4 w w7 : World} {mp mb k c : Nat} {key : Nat → Nat × Nat} {mg : Nat → Nat} {ds : List (Nat × Nat)} {ns fs : List Nat} {i : Nat} {f : Bool} {ks' : List Value} (h : PrAt w4 w mp mb k key mg ds ns fs) (hc : ns.length = c) (hR : NumR (ds.map pN) (pN (key c)) ks' i f) (hN : NumAt 47 w7 mp ks') (hF : FrO (OneB w mp) w w7) :
    RowN w7 mb k (fun c => if c < ns.length then ns[c]?.getD 0 else mg c) ∧ ∃ ds' fs', PrAt w4 (w7.setCell ⟨mb, c, none⟩ (.int .i64 (i : Nat))) mp mb k key mg ds' (ns ++ [i]) fs' := by
  have hz := h.fr.size
  obtain ⟨l1, l2, l3⟩ := h.lt
  have hz7 := hF.size
  have q1 := h.nr.on (hF.block _ (by rintro (e | e) <;> omega))
  have q3 : FrO (fun k => k = mp ∨ k = mb ∨ w4.heap.size ≤ k) w4 w7 := h.fr.trans (hF.mono (fun k hk => by rcases hk with e | e; exact .inl e; exact .inr (.inr (by omega))))
  have ks : ∀ k, k ≠ mb → (w7.setCell ⟨mb, c, none⟩ (.int .i64 (i : Nat))).heap[k]? = w7.heap[k]? := fun k hk => Below.heap_setCell _ _ _ _ (by show k ≠ mb; exact hk)
  have q4 : RowN (w7.setCell ⟨mb, c, none⟩ (.int .i64 (i : Nat))) mb k (fun c => if c < (ns ++ [i]).length then (ns ++ [i])[c]?.getD 0 else mg c) := (q1.put c i).congr (fun j _ => by
    by_cases e : j = c
    · subst e; rw [upd_at, if_pos (by rw [List.length_append, hc]; simp), ← hc]; simp
    · rw [upd_ne _ e]
      by_cases e2 : j < ns.length
      · rw [if_pos e2, if_pos (by rw [List.length_append]; omega), List.getElem?_append_left e2]
      · rw [if_neg e2, if_neg (by rw [List.length_append, List.length_singleton]; omega)])
  have q5 := q3.trans ((obk_put (w := w7) (b := mb) c (.int .i64 (i : Nat))).fro (.inr (.inl rfl)))
  refine ⟨q1, ?_⟩
  rcases hR with ⟨h1, rfl, h2, rfl⟩ | ⟨h1, rfl, rfl, rfl⟩
  · exact ⟨ds, fs, hN.keep (ks _ l3), q4, h.nl.old (by rw [hc]; exact pN_get h2), q5, l1, l2, l3⟩
  · rw [List.length_map] at q4 q5 ks ⊢
    refine ⟨ds ++ [key c], fs ++ [c], ?_, q4, ?_, q5, l1, l2, l3⟩
    · rw [List.map_append]; exact hN.keep (ks _ l3)
    · have := h.nl.new (fun j hj e => by
        rw [hc] at e
        exact h1 (pN_mem.2 (List.mem_of_getElem? e)))
      rw [hc] at this
      exact this

end Go.Proofs.Ytjmajdfcfcgegaa
