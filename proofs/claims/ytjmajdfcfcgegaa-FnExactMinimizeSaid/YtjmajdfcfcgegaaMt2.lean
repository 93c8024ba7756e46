import Derived.Test.YtjmajdfcfcgegaaMt1
namespace Go.Proofs.Ytjmajdfcfcgegaa
open Go.RowKit

theorem own_raise {b0 base e sz n : Nat} {w : World} {v : Value} {xs : List Value} (h : w.ownsRow b0 e sz v n xs) (hb : ∀ q, v.ownBlock = some q → base ≤ q) : w.ownsRow base e sz v n xs := by
  refine ⟨h.1, ?_⟩
  rcases h.2 with hn | ⟨g, cap, cur, rfl, -, rest⟩
  · exact .inl hn
  · exact .inr ⟨g, cap, cur, rfl, hb g rfl, rest⟩
theorem map_mN (o : List Nat) : (o.map (fun x : Nat => (x : Int))).map mI = o.map mN := by simp [mN]
theorem mN_get {o : List Nat} {i x : Nat} (h : (o.map mN)[i]? = some (.int .i64 (x : Nat))) : o[i]? = some x := by
  rw [List.getElem?_map] at h
  cases e : o[i]? with
  | none => rw [e] at h; cases h
  | some y =>
    rw [e] at h
    simp only [Option.map_some, mN, mI, Option.some.injEq, Value.int.injEq, true_and] at h
    rw [show y = x by omega]
theorem mN_mem {o : List Nat} {x : Nat} : (Value.int .i64 (x : Nat)) ∈ o.map mN ↔ x ∈ o := by
  constructor
  · intro h
    obtain ⟨i, hi⟩ := List.getElem?_of_mem h
    exact List.mem_of_getElem? (mN_get hi)
  · intro h
    exact List.mem_map.2 ⟨x, h, rfl⟩
section
variable {w0 w : World} {b0 : Nat} {cl nx ac : Value} {k : Nat} {ks o : List Nat} {tk : Nat} {ys : List Nat} {zs : List Bool} {qv nv av : Value}
theorem push_rc (h : RcAt w0 w b0 cl nx ac k ks o tk ys zs qv nv av) (x : Nat) (hl : o.length ≤ 1000000) :
    Calls Try.prog 38 #[.pointer (some ⟨b0 + 6, 0, none⟩), .int .i64 (x : Nat)] w fun e w' => e = .returned (.tuple #[]) ∧ ∃ qv', RcAt w0 w' b0 cl nx ac k ks (o ++ [x]) tk ys zs qv' nv av := by
  have hz := h.sz
  have nq : qv.ownBlock ≠ some (b0 + 6) := fun e => by have := (h.oq.lt _ e).1; omega
  refine (push_any (b0 + 6) 0 qv (o.map (fun x : Nat => (x : Int))) (x : Nat) w (by omega) nq (by simpa using hl) ?_ (h.q.frozen 0) ?_).mono ?_
  · rw [h.q.cell (by omega)]; rfl
  · rw [List.length_map, map_mN]; exact own_low h.oq (Nat.zero_le _)
  rintro e w' ⟨rfl, v', w2, rfl, r1, r2, r3⟩
  refine ⟨rfl, v', h.pushQ (below1 w _) (own_raise (b0 := 0) ?_ (fun q hq => ?_)) r2 r3⟩
  · have e : (o.map (fun x : Nat => (x : Int)) ++ [(x : Int)]) = (o ++ [x]).map (fun x : Nat => (x : Int)) := by simp
    rw [e, List.length_map, map_mN] at r1
    exact r1
  · rcases r3 q hq with e | e
    · exact (h.oq.lt q e).1
    · omega
theorem of_rc (h : RcAt w0 w b0 cl nx ac k ks o tk ys zs qv nv av) (x : Nat) (hx : x ≤ 1000000) (hl : ks.length < 100000) :
    Calls Try.prog 37 #[.agg #[.map (some (b0 + 4))], .int .i64 (x : Nat)] w fun e w' => ∃ (i : Nat) (f : Bool), e = .returned (.tuple #[.int .i64 (i : Nat), .bool f]) ∧
      ((f = false ∧ ks[i]? = some x ∧ RcAt w0 w' b0 cl nx ac k ks o tk ys zs qv nv av) ∨ (f = true ∧ x ∉ ks ∧ i = ks.length ∧ RcAt w0 w' b0 cl nx ac k (ks ++ [x]) o tk ys zs qv nv av)) := by
  refine (ofI_any (b0 + 4) (x : Nat) (ks.map mN) w h.num (by omega) (by omega) (by simpa using hl)).mono ?_
  rintro e w' ⟨i, ks', f, rfl, hR, hN, hF⟩
  refine ⟨i, f, rfl, ?_⟩
  rcases hR with ⟨h1, rfl, h2, rfl⟩ | ⟨h1, rfl, rfl, rfl⟩
  · exact .inl ⟨rfl, mN_get h2, h.looked hF hN⟩
  · refine .inr ⟨rfl, fun hm => h1 (mN_mem.2 hm), by simp, h.looked hF ?_⟩
    rw [List.map_append]
    exact hN
theorem pop_rc (h : RcAt w0 w b0 cl nx ac k ks o tk ys zs qv nv av) (ht : tk ≤ o.length) (hl : o.length ≤ 1000000) :
    Calls Try.prog 39 #[.pointer (some ⟨b0 + 6, 0, none⟩)] w fun e w' => (tk = o.length ∧ e = .returned (.tuple #[.int .i64 0, .bool false]) ∧ RcAt w0 w' b0 cl nx ac k ks o tk ys zs qv nv av) ∨
      (∃ s, o[tk]? = some s ∧ e = .returned (.tuple #[.int .i64 (s : Nat), .bool true]) ∧ RcAt w0 w' b0 cl nx ac k ks o (tk + 1) ys zs qv nv av) := by
  have c0 : w.cell? ⟨b0 + 6, 0, none⟩ = some qv := by rw [h.q.cell (by omega)]; rfl
  have c1 : w.cell? ⟨b0 + 6, 0 + 1, none⟩ = some (.int .i64 (tk : Nat)) := by rw [h.q.cell (by omega)]; rfl
  obtain ⟨oa, oc, rfl⟩ := own_is h.oq
  by_cases e : tk = o.length
  · refine (pop_none (b0 + 6) 0 oa o.length oc w c0 (by rw [← e]; exact c1)).mono ?_
    rintro x w' ⟨rfl, q, rfl⟩
    exact .inl ⟨e, rfl, h.keep ⟨rfl, rfl, rfl, Nat.le_refl _, fun _ _ => rfl⟩⟩
  · have hlt : tk < o.length := by omega
    obtain ⟨qb, qc, e2, hcell⟩ := own_at h.oq (by omega)
    cases e2
    obtain ⟨y, hy⟩ : ∃ y, o[tk]? = some y := ⟨_, List.getElem?_eq_getElem hlt⟩
    refine (pop_some (b0 + 6) 0 qb 0 tk (y : Nat) o.length oc w hl hlt c0 c1 (by rw [Nat.zero_add, hcell tk hlt, List.getElem?_map, hy]; rfl) (h.q.frozen 1)).mono ?_
    rintro x w' ⟨rfl, q, rfl⟩
    exact .inr ⟨y, hy, rfl, h.popd q⟩
end

end Go.Proofs.Ytjmajdfcfcgegaa
