import Derived.Test.YthgnefdefjannaaGreatFu3
import Derived.Test.YthgnefdefjannaaGreatFc8
import Derived.Test.YthgnefdefjannaaGreatMg1
import Derived.Test.YthgnefdefjannaaGreatIg1
namespace Go.Proofs.YthgnefdefjannaaGreat
open Go.RowKit

theorem dG_nl : ∀ (n nl : Nat) (xs : List Int), ∀ g ∈ (dG n nl xs).1, ∀ l ∈ g.2, NoNl l
  | 0, nl, xs => fun g hg => by simp [dG] at hg
  | n + 1, nl, xs => by
    rw [dG]
    split
    · intro g hg; simp at hg
    · intro g hg
      rcases List.mem_cons.1 hg with rfl | hg
      · exact dLs_nl _ _
      · exact dG_nl n _ _ g hg
theorem dG_fits (n nl : Nat) (xs : List Int) (h : Cod xs) (hn : nl + 5 * n ≤ 1000) : ∀ g ∈ (dG n nl xs).1, Fits (g.1 : Int) g.2 := fun g hg => by
  obtain ⟨h1, h2, h3, h4⟩ := dG_ok n nl xs h
  obtain ⟨k1, k2, k3, k4, k5⟩ := h2 g hg
  exact ⟨by omega, by omega, by omega, plain_of (dG_nl n nl xs g hg), by omega⟩

theorem dG_five : ∀ (n nl : Nat) (xs : List Int), Cod xs → ∀ g ∈ (dG n nl xs).1, g.2.length ≤ 12
  | 0, nl, xs, h => fun g hg => by simp [dG] at hg
  | n + 1, nl, xs, h => by
    obtain ⟨h1, h2, h3, h4⟩ := dM_ok xs h
    rw [dG]
    split
    · intro g hg; simp at hg
    · intro g hg
      rcases List.mem_cons.1 hg with rfl | hg
      · show (dM xs).1.length ≤ 12
        omega
      · exact dG_five n _ _ h4.tail g hg

/-- The encoded form, by the beginning and the lines alone. -/
def EncE (E : Nat → List (List Int) → List Int) : Prop := ∀ (b : Nat) (xs : List (List Int)) (ks : List Int) (pss : List (List Int)), SegR (b : Int) xs ks pss → encL (b : Int) xs ks pss = E b xs
theorem encE_ex : ∃ E, EncE E := by
  have h : ∀ (b : Nat) (xs : List (List Int)), ∃ l : List Int, ∀ (ks : List Int) (pss : List (List Int)), SegR (b : Int) xs ks pss → encL (b : Int) xs ks pss = l := fun b xs => by
    by_cases hx : ∃ ks pss, SegR (b : Int) xs ks pss
    · obtain ⟨ks, pss, hs⟩ := hx
      refine ⟨encL (b : Int) xs ks pss, fun ks' pss' hs' => ?_⟩
      obtain ⟨rfl, rfl⟩ := hs.uniq hs'
      rfl
    · exact ⟨[], fun ks pss hs => absurd ⟨ks, pss, hs⟩ hx⟩
  exact ⟨fun b xs => Classical.choose (h b xs), fun b xs => Classical.choose_spec (h b xs)⟩
theorem EncE.is {E : Nat → List (List Int) → List Int} (hE : EncE E) {b : Nat} {xs : List (List Int)} (hf : Fits (b : Int) xs) (hb : ∀ x ∈ xs, Bytes x) : ∃ ks pss, SegR (b : Int) xs ks pss ∧ EncIn (b : Int) xs ks pss ∧ E b xs = encL (b : Int) xs ks pss := by
  obtain ⟨f0, f1, f2, f3, f4⟩ := id hf
  obtain ⟨ks, pss, hs⟩ := segR_ex (b : Int) xs (by omega)
  have hl := segR_len hs (by omega)
  exact ⟨ks, pss, hs, built_enc hf hs hb (by omega) (by omega), (hE b xs ks pss hs).symm⟩
theorem encL_four (base : Int) (xss pss : List (List Int)) (ks : List Int) : (encL base xss ks pss).length = (bodL base xss ks pss).length + 4 := by
  unfold encL
  rw [List.length_append]
  rfl
theorem EncE.ok {E : Nat → List (List Int) → List Int} (hE : EncE E) {b : Nat} {xs : List (List Int)} (hf : Fits (b : Int) xs) (hb : ∀ x ∈ xs, Bytes x) : Bytes (E b xs) ∧ 4 ≤ (E b xs).length ∧ (E b xs).length ≤ 1048576 ∧ (tot xs ≤ 240 → xs.length ≤ 12 → (E b xs).length ≤ 10004) := by
  obtain ⟨f0, f1, f2, f3, f4⟩ := id hf
  obtain ⟨ks, pss, hs, h, e⟩ := hE.is hf hb
  have h1 := lnL_len xs h.t1
  have h2 := kyL_len (b : Int) h.b ks pss 0 (Int.le_refl _) h.k h.p h.t3
  have h3 := vi_len9 (n := (b : Int)) (by omega)
  have h4 := vi_len9 (n := (xs.length : Int)) (by omega)
  have h5 := vi_len9 (n := (ks.length : Int)) (by have := h.l2; omega)
  have h6 := segR_len hs (by omega)
  have e2 := encL_four (b : Int) xs pss ks
  rw [e]
  refine ⟨encL_bytes hb, by omega, ?_, fun t1 t2 => ?_⟩
  · rw [e2]
    unfold bodL
    simp only [List.length_append, List.length_cons, List.length_nil]
    omega
  · rw [e2]
    unfold bodL
    simp only [List.length_append, List.length_cons, List.length_nil]
    omega

/-- The segments of a drawn state, encoded. -/
def dSegs (E : Nat → List (List Int) → List Int) (gs : List (Nat × List (List Int))) : List (List Int) := gs.map (fun g => E g.1 g.2)
theorem tot_le {xss : List (List Int)} {m : Nat} (h : ∀ x ∈ xss, x.length ≤ m) : tot xss ≤ xss.length * m := by
  induction xss with
  | nil => simp [Go.Proofs.YthgnefdefjannaaGreat.tot]
  | cons x r ih =>
    have h1 := h x (List.mem_cons_self ..)
    have h2 := ih (fun y hy => h y (List.mem_cons_of_mem _ hy))
    show x.length + tot r ≤ (r.length + 1) * m
    rw [Nat.succ_mul]
    omega
/-- What is drawn first: how many steps, then the steps. -/
def dS (xs : List Int) : List (Nat × List (List Int)) × List (List Int) × List Int := dG (1 + xs.headD 0 % 5).toNat 0 xs.tail
theorem dS_ok {E : Nat → List (List Int) → List Int} (hE : EncE E) (xs : List Int) (h : Cod xs) : (dS xs).1.length ≤ 5 ∧ (∀ x ∈ dSegs E (dS xs).1, Bytes x ∧ 4 ≤ x.length ∧ x.length ≤ 10004) ∧ ((dS xs).2.1.length ≤ 5 ∧ tot (dS xs).2.1 ≤ 100 ∧ ∀ l ∈ (dS xs).2.1, Cod l) ∧ Cod (dS xs).2.2 := by
  have hh := h.head
  obtain ⟨h1, h2, h3, h4⟩ := dG_ok (1 + xs.headD 0 % 5).toNat 0 xs.tail h.tail
  have hf := dG_fits (1 + xs.headD 0 % 5).toNat 0 xs.tail h.tail (by omega)
  unfold dS
  refine ⟨by omega, fun x hx => ?_, h3, h4⟩
  obtain ⟨g, hg, rfl⟩ := List.mem_map.1 hx
  obtain ⟨k1, k2, k3, k4, k5⟩ := h2 g hg
  obtain ⟨q1, q2, q3, q4⟩ := hE.ok (hf g hg) (fun l hl => bytes_of_mem (k5 l hl))
  refine ⟨q1, q2, q4 (by omega) ?_⟩
  have : g.2.length ≤ 12 := dG_five _ _ _ h.tail g hg
  exact this

/-- Lines of its own appended to lines of one's own, and where the row lies then. -/
theorem app_all2 {w : World} {ops : Array Oper} {rest : List Oper} {o : Oper} {a : Act} {Q : Exit → Act → World → Prop} (base : Nat) (hgd : o.guard = none) (s x : Operand)
    (ho : o.op = .call { callee := .builtin .append, args := #[s, x], argTypes := #[23, 23] }) (v u : Value) (ps qs : List (Cl Int)) (hs : a.eval s = v) (h : LB base w v ps) (hx : a.eval x = u) (hu : LB base w u qs) (hps : ∀ p ∈ ps, ∀ q ∈ qs, 0 < p.xs.length → 0 < q.xs.length → p.b ≠ q.b) (hbase : base ≤ w.heap.size) (hlen : ps.length + qs.length ≤ 4194304)
    (K : ∀ v' w', LB base w' v' (ps ++ qs) → w.grownBy w' v.ownBlock → OwnS w v v' → wpList Tryz.prog ops Q rest (a.put o.dst v') w') : wpList Tryz.prog ops Q (o :: rest) a w := by
  obtain ⟨i0, hi, hz0, hz1, hz2⟩ := info_parts Tryz.zinByteS
  have hlu := hu.own.1
  rcases hu.own.2 with ⟨rfl, hz⟩ | ⟨g, cap, cur, rfl, hbg, hgb, hnc, hcm, hcs, htake⟩
  · have hq : qs = [] := List.eq_nil_of_length_eq_zero hz
    subst hq
    refine wpList_append_none_c hgd s x 23 ho base 22 i0 1 Tryz.underlying23 hi v ps.length _ hs h.own 0 hx (K v w (by simpa using h) ⟨rfl, rfl, rfl, Nat.le_refl _, fun _ _ _ => rfl⟩ (Or.inl rfl))
  · refine wpList_append_own_at w hgd s x 23 ho base 22 i0 (.slice none 0 0) 1 24 Tryz.underlying23 hi hz0 hz1 hz2 rfl (by decide) v ps.length (ps.map Cl.v) hs h.own ⟨g, 0, none⟩ qs.length cap (qs.map Cl.v) hx (by simp) ?_ ?_ (by unfold maxLen; omega) (by omega) hbase ?_
    · intro j u hu2
      have hj : j < qs.length := by have := (List.getElem?_eq_some_iff.1 hu2).1; simpa using this
      have e3 : (⟨g, 0, none⟩ : Addr).add j = ⟨g, j, none⟩ := by cases j <;> simp [Addr.add]
      rw [e3, hu.own.cellAt j (by omega)]
      exact hu2
    · intro u hu2
      obtain ⟨q, hq, rfl⟩ := List.mem_map.1 hu2
      exact (hu.ok q hq).one
    · intro v' w' h1 hg _ q3
      exact K v' w' (h.appAll (by decide) hbase hu.ok hu.lo hu.apart hps h1 hg).1 hg (q3.imp id (fun e => ⟨_, Nat.le_refl _, e⟩))

end Go.Proofs.YthgnefdefjannaaGreat
