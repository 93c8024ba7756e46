import Derived.Test.YtjmajdfcfcgegaaMr6
import Derived.Test.YtjmajdfcfcgegaaPk5
namespace Go.Proofs.Ytjmajdfcfcgegaa
open Go.RowKit

/-- One row of numbers behind another. -/
theorem app_rows {w : World} {ops : Array Oper} {rest : List Oper} {o : Oper} {a : Act} {Q : Exit → Act → World → Prop} (hgd : o.guard = none) (s x : Operand)
    (ho : o.op = .call { callee := .builtin .append, args := #[s, x], argTypes := #[22, 22] }) (base lo : Nat) (v1 v2 : Value) (hs : a.eval s = v1) (hx : a.eval x = v2) (xs ys : List Nat)
    (h1 : w.ownsRow base 3 1 v1 xs.length (xs.map mN)) (h2 : w.ownsRow lo 3 1 v2 ys.length (ys.map mN)) (hb : base ≤ w.heap.size) (hl : xs.length + ys.length ≤ 1000000)
    (h : ∀ v' w', w'.ownsRow base 3 1 v' (xs ++ ys).length ((xs ++ ys).map mN) → w.grownBy w' v1.ownBlock → (v'.ownBlock = v1.ownBlock ∨ v'.ownBlock = some w.heap.size) → wpList Try.prog ops Q rest (a.put o.dst v') w') : wpList Try.prog ops Q (o :: rest) a w := by
  obtain ⟨i0, hi, hz0, hz1, hz2⟩ := info_parts Try.zinInt
  rcases Nat.eq_zero_or_pos ys.length with h0 | hp
  · obtain ⟨sa, sc, rfl⟩ := own_is h2
    have e : ys = [] := List.eq_nil_of_length_eq_zero h0
    subst e
    rcases h2.2 with ⟨e2, -⟩ | ⟨g, cap, cur, e2, -⟩
    · rw [e2] at hx
      refine wpList_append_none_c hgd s x 22 ho base 3 i0 1 Try.underlying22 hi v1 xs.length (xs.map mN) hs h1 0 hx (h v1 w (by rw [List.append_nil]; exact h1) ⟨rfl, rfl, rfl, Nat.le_refl _, fun _ _ _ => rfl⟩ (.inl rfl))
    · rw [e2] at hx
      refine wpList_append_own_at w hgd s x 22 ho base 3 i0 (.int .i64 0) 1 8 Try.underlying22 hi hz0 hz1 hz2 rfl (by decide) v1 xs.length (xs.map mN) hs h1 ⟨g, 0, none⟩ 0 cap [] hx rfl (fun j u hu => by simp at hu) (fun u hu => by cases hu) (by unfold maxLen; omega) (by omega) hb ?_
      intro v' w' r1 r2 _ r3
      exact h v' w' (by rw [List.append_nil]; simpa using r1) r2 r3
  · obtain ⟨g, cap, e2, hc⟩ := own_at h2 hp
    subst e2
    refine wpList_append_own_at w hgd s x 22 ho base 3 i0 (.int .i64 0) 1 8 Try.underlying22 hi hz0 hz1 hz2 rfl (by decide) v1 xs.length (xs.map mN) hs h1 ⟨g, 0, none⟩ ys.length cap (ys.map mN) hx (by simp) (fun j u hu => ?_) (fun u hu => ?_) (by unfold maxLen; omega) (by omega) hb ?_
    · have hj : j < ys.length := by
        have := (List.getElem?_eq_some_iff.1 hu).1
        simpa using this
      have e3 : (⟨g, 0, none⟩ : Addr).add j = ⟨g, 0 + j, none⟩ := by cases j <;> rfl
      rw [e3, Nat.zero_add, hc j hj]
      exact hu
    · obtain ⟨y, -, rfl⟩ := List.mem_map.1 hu
      rfl
    · intro v' w' r1 r2 _ r3
      refine h v' w' ?_ r2 r3
      rw [List.length_append, List.map_append]
      exact r1

/-- The search for blocks between two splits: T the states of the stretch from lo to hi. -/
structure TaS (O : Nat → Prop) (g mb mc pb pc bb bc : Nat) (A : Tb) (w : World) (N : Nat) (ms ps bs fr mk tt : Nat → Nat) (kb kc : Nat) (qv : Value) (qs : List Int) (tk : Nat) (T : Nat → Prop) (c : Nat) : Prop where
  pt : PtAt O g mb mc pb pc bb bc w A.n N ms ps bs fr mk tt kb kc qv qs tk
  pi : PInv A.n N ms ps bs fr mk tt
  um : ∀ b, b < N → mk b = fr b
  ql : qs.length + 1 = N
  tl : tk ≤ qs.length
  qn : ∀ y ∈ qs, ∃ x : Nat, y = (x : Nat) ∧ x < N
  hop : Hop A bs (fun x => ((x : Nat) : Int) ∈ qs.drop tk) T c
/-- The stretch. -/
structure Stc (n : Nat) (ps bs : Nat → Nat) (T : Nat → Prop) (lo hi : Nat) : Prop where
  le : lo < hi ∧ hi ≤ n
  mem : ∀ t, t < n → (lo ≤ ps t ∧ ps t < hi ↔ T t)
  cl : ∀ p q, p < n → q < n → bs p = bs q → (T p ↔ T q)

/-- A split by the sources of a class. -/
theorem split_ta {O : Nat → Prop} {g mb mc pb pc bb bc : Nat} {A : Tb} {w : World} {N : Nat} {ms ps bs fr mk tt : Nat → Nat} {kb kc : Nat} {qv : Value} {qs : List Int} {tk : Nat} {T : Nat → Prop} {c lo hi : Nat} (h : TaS O g mb mc pb pc bb bc A w N ms ps bs fr mk tt kb kc qv qs tk T c) (hst : Stc A.n ps bs T lo hi)
    (hw : A.Wf) (hf : A.Full) (hn : A.n ≤ 1024) (hc : c < A.k) (hO : ∀ k, w.heap.size ≤ k → O k) (sv : Value) (S : List Nat) (hS : S.Nodup) (hm : ∀ p, p ∈ S ↔ p < A.n ∧ T (A.nx p c))
    (hs : ∃ a c, sv = .slice a S.length c ∧ (0 < S.length → ∃ b o, a = some ⟨b, o, none⟩ ∧ b < w.heap.size ∧ ¬ O b ∧ ∀ i s, S[i]? = some s → w.cell? ⟨b, o + i, none⟩ = some (.int .i64 (s : Nat)))) :
    Calls Try.prog 42 #[.pointer (some ⟨g, 0, none⟩), sv] w fun e w' => e = .returned (.tuple #[]) ∧ FrO O w w' ∧ ∃ (N' : Nat) (ms' ps' bs' fr' mk' tt' : Nat → Nat) (kb' kc' : Nat) (qv' : Value) (qs' : List Int), TaS O g mb mc pb pc bb bc A w' N' ms' ps' bs' fr' mk' tt' kb' kc' qv' qs' tk T (c + 1) ∧ Stc A.n ps' bs' T lo hi := by
  refine (split_any O g mb mc pb pc bb bc w A.n N ms ps bs fr mk tt kb kc qv qs tk sv S h.pt h.pi h.um hO hn h.ql h.tl hs hS (fun s k => ((hm s).1 k).1)).mono ?_
  rintro e w' ⟨rfl, hF, N', ms', ps', bs', fr', mk', tt', kb', kc', qv', l, p1, p2, p3, p4, p5, p6, p7, p8⟩
  have p6' : Cut A.n (fun p => T (A.nx p c)) bs bs' (fun x => ((x : Nat) : Int) ∈ qs.drop tk) (fun x => ((x : Nat) : Int) ∈ (qs ++ l).drop tk) := by
    refine ⟨fun p q hp hq => ?_, p6.keep, p6.new⟩
    rw [p6.same p q hp hq, hm p, hm q]
    simp [hp, hq]
  refine ⟨rfl, hF, N', ms', ps', bs', fr', mk', tt', kb', kc', qv', qs ++ l, ⟨p1, p2, p3, p4, ?_, fun y hy => ?_, h.hop.cut hw hf hc p6'⟩, ⟨hst.le, fun t ht => ?_, fun p q hp hq e => hst.cl p q hp hq ((p6.same p q hp hq).1 e).1⟩⟩
  · rw [List.length_append]; have := h.tl; omega
  · rcases List.mem_append.1 hy with k | k
    · obtain ⟨x, e, hx⟩ := h.qn y k
      exact ⟨x, e, by omega⟩
    · exact p5 y k
  · -- the place now, within the block it had
    obtain ⟨k1, k2⟩ := p7 t ht
    have hb := h.pi.s1 t ht
    have hb1 := h.pi.b1 _ hb.1
    obtain ⟨m1, m2⟩ := h.pi.m1 (ps' t) (by omega)
    have e := h.pi.s2 (ms (ps' t)) (bs t) m1 hb.1 (by omega) (by omega)
    rw [← hst.cl _ _ m1 ht e, ← hst.mem _ m1, m2]

/-- The next block. -/
theorem pop_ta {O : Nat → Prop} {g mb mc pb pc bb bc : Nat} {A : Tb} {w : World} {N : Nat} {ms ps bs fr mk tt : Nat → Nat} {kb kc : Nat} {qv : Value} {qs : List Int} {tk : Nat} {T : Nat → Prop} (h : TaS O g mb mc pb pc bb bc A w N ms ps bs fr mk tt kb kc qv qs tk T A.k) (hn : A.n ≤ 1024) :
    Calls Try.prog 39 #[.pointer (some ⟨g, 4, none⟩)] w fun e w' => FrO O w w' ∧
      ((tk = qs.length ∧ e = .returned (.tuple #[.int .i64 0, .bool false]) ∧ TaS O g mb mc pb pc bb bc A w' N ms ps bs fr mk tt kb kc qv qs tk T A.k) ∨
       (tk < qs.length ∧ ∃ b : Nat, b < N ∧ e = .returned (.tuple #[.int .i64 (b : Nat), .bool true]) ∧ TaS O g mb mc pb pc bb bc A w' N ms ps bs fr mk tt kb kc qv qs (tk + 1) (fun q => bs q = b) 0)) := by
  obtain ⟨-, -, -, -, c4, c5, fz⟩ := h.pt.facts
  obtain ⟨oa, oc, rfl⟩ := own_is h.pt.rq
  have hq := h.ql
  have hfew := h.pi.few
  by_cases e : tk = qs.length
  · refine (pop_none g 4 oa qs.length oc w c4 (by rw [← e]; exact c5)).mono ?_
    rintro x w' ⟨rfl, q, rfl⟩
    exact ⟨fro_drewN w q, .inl ⟨e, rfl, ⟨h.pt.drewN q, h.pi, h.um, h.ql, h.tl, h.qn, h.hop⟩⟩⟩
  · have hlt : tk < qs.length := by have := h.tl; omega
    obtain ⟨qb, qc, e2, hcell⟩ := own_at h.pt.rq (by omega)
    cases e2
    obtain ⟨y, hy⟩ : ∃ y, qs[tk]? = some y := ⟨_, List.getElem?_eq_getElem hlt⟩
    obtain ⟨b, rfl, hb⟩ := h.qn y (List.mem_of_getElem? hy)
    refine (pop_some g 4 qb 0 tk (b : Nat) qs.length oc w (by omega) hlt c4 c5 (by rw [Nat.zero_add, hcell tk hlt, List.getElem?_map, hy]; rfl) (fz 5)).mono ?_
    rintro x w' ⟨rfl, q, rfl⟩
    have k1 := (h.pt.drewN q).setT (tk + 1)
    have ec : (((tk + 1 : Nat)) : Int) = (tk : Int) + 1 := by omega
    rw [ec] at k1
    have hdrop : qs.drop tk = (b : Int) :: qs.drop (tk + 1) := by
      rw [List.drop_eq_getElem_cons hlt]
      rw [List.getElem?_eq_getElem hlt] at hy
      rw [Option.some.inj hy]
    refine ⟨(fro_drewN w q).trans ((obk_put _ _).fro h.pt.oo.1), .inr ⟨hlt, b, hb, rfl, ⟨k1, h.pi, h.um, h.ql, by omega, h.qn, h.hop.pop (fun x hx => ?_)⟩⟩⟩
    rw [hdrop] at hx
    rcases List.mem_cons.1 hx with k | k
    · exact .inl (by omega)
    · exact .inr k

end Go.Proofs.Ytjmajdfcfcgegaa
