import Derived.Test.YtfdkdjngeomcdaaDoorPk8
import Derived.Test.YtfdkdjngeomcdaaDoorPb2
namespace Go.Proofs.YtfdkdjngeomcdaaDoor
open Go.RowKit

/-- Every repetition is of one or of none on, without end. -/
def Simple (L : List El) : Prop := ∀ x ∈ L, x.kind = 4 → x.mx = -1 ∧ 0 ≤ x.mn ∧ x.mn ≤ 1
theorem Simple.left {a b : List El} (h : Simple (a ++ b)) : Simple a := fun x hx => h x (List.mem_append.2 (Or.inl hx))
theorem Simple.right {a b : List El} (h : Simple (a ++ b)) : Simple b := fun x hx => h x (List.mem_append.2 (Or.inr hx))
theorem Simple.app {a b : List El} (h : Simple a) (k : Simple b) : Simple (a ++ b) := fun x hx => (List.mem_append.1 hx).elim (h x) (k x)
theorem Simple.op {k : Int} {xs : List Int} (hk : k ≠ 4) (mn mx : Int) : Simple [⟨k, xs, mn, mx⟩] := fun x hx e => by
  rw [List.mem_singleton] at hx
  subst hx
  exact absurd e hk
theorem Simple.rep (mn : Int) (h0 : 0 ≤ mn) (h1 : mn ≤ 1) : Simple [⟨4, [], mn, -1⟩] := fun x hx _ => by
  rw [List.mem_singleton] at hx
  subst hx
  exact ⟨rfl, h0, h1⟩
theorem simple_jn : ∀ {r : List (List El)} {p : List El}, Simple p → (∀ q ∈ r, Simple q) → Simple (r.foldl (fun acc q => acc ++ q ++ [catE]) p)
  | [], _, h, _ => h
  | q :: r, _, h, k => simple_jn (r := r) ((h.app (k q (List.mem_cons_self ..))).app (Simple.op (by decide) 0 0)) (fun x hx => k x (List.mem_cons_of_mem _ hx))
theorem Simple.jn {ps : List (List El)} (h : ∀ q ∈ ps, Simple q) : Simple (jn ps) := by
  cases ps with
  | nil => intro x hx; cases hx
  | cons p r => exact simple_jn (h p (List.mem_cons_self ..)) (fun q hq => h q (List.mem_cons_of_mem _ hq))
theorem Simple.repx {a : List El} (h : Simple a) (mn mx : Int) (o2 : 0 ≤ mn) : Simple (repX a mn mx) := by
  unfold repX
  split
  · exact Simple.op (by decide) 0 0
  · refine Simple.jn (fun q hq => ?_)
    unfold partsX at hq
    split at hq
    · rcases List.mem_append.1 hq with hq | hq
      · rw [(List.mem_replicate.1 hq).2]; exact h
      · rw [List.mem_singleton] at hq
        subst hq
        exact h.app (Simple.rep _ (by split <;> omega) (by split <;> omega))
    · rcases List.mem_append.1 hq with hq | hq
      · rw [(List.mem_replicate.1 hq).2]; exact h
      · rw [(List.mem_replicate.1 hq).2]
        exact (h.app (Simple.op (by decide) 0 0)).app (Simple.op (by decide) 0 0)

section
variable {n : Nat} {hs : List Int → Nat → Prop}
/-- The positions of this list read the relation of its tree. -/
def GlS (n : Nat) (hs : List Int → Nat → Prop) (_ : Value) (L : List El) : Prop := Simple L → ∃ R a ln ss, SegL n hs L R ∧ SegO L (lvs L) a ln ss ∧ Glu n (SetP hs ss) R a ln ∧ Bdd a (lvs L)
theorem SegO.len {L : List El} {a : It} {ln : List Lk} {ss : List (List Int)} (h : SegO L (lvs L) a ln ss) : ss.length = lvs L := by rw [h.sets, setsOf_len]
theorem closGl : ClosX (GlS n hs) := by
  refine ⟨?_, ?_, ?_, ?_, ?_⟩
  · exact fun _ => ⟨_, _, _, _, SegL.e, SegO.e, glu_e, by constructor <;> simp⟩
  · intro xs g hc hw _
    exact ⟨_, _, _, _, SegL.s xs, SegO.s xs, glu_s xs, by constructor <;> simp [lvs]⟩
  · intro u v L R hu hv hS
    obtain ⟨A, a, la, sa, u1, u2, u3, u4⟩ := hu hS.left.left
    obtain ⟨B, b, lb, sb, v1, v2, v3, v4⟩ := hv hS.left.right
    have e := lvs_cat L R 2 (by decide)
    have h5 : Bdd (itCat a (b.sh (lvs L))) (lvs L + lvs R) := (u4.mono (Nat.le_add_right _ _)).cat (v4.sh (lvs L))
    have h2 := u2.cat v2
    rw [← e] at h2 h5
    exact ⟨_, _, _, _, u1.cat v1, h2, glu_cat u3 v3 u4 u2.lkb u2.len, h5⟩
  · intro u v L R hu hv hS
    obtain ⟨A, a, la, sa, u1, u2, u3, u4⟩ := hu hS.left.left
    obtain ⟨B, b, lb, sb, v1, v2, v3, v4⟩ := hv hS.left.right
    have e := lvs_cat L R 3 (by decide)
    have h5 : Bdd (itAlt a (b.sh (lvs L))) (lvs L + lvs R) := (u4.mono (Nat.le_add_right _ _)).alt (v4.sh (lvs L))
    have h2 := u2.alt v2
    rw [← e] at h2 h5
    exact ⟨_, _, _, _, u1.alt v1, h2, glu_alt u3 v3 u4 u2.lkb u2.len, h5⟩
  · intro u L mn mx hu o2 o3 o4 hS
    obtain ⟨A, a, la, sa, u1, u2, u3, u4⟩ := hu hS.left
    have e : lvs (L ++ [⟨4, [], mn, mx⟩]) = lvs L := by rw [lvs_app]; simp [lvs]
    obtain ⟨e1, e2, e3⟩ := hS.right ⟨4, [], mn, mx⟩ (List.mem_singleton.2 rfl) rfl
    simp only at e1 e2 e3
    subst e1
    have h2 := u2.rep mn (-1)
    have h5 : Bdd (itRep a mn) (lvs L) := u4
    rw [← e] at h2 h5
    exact ⟨_, _, _, _, u1.rep mn (-1), h2, glu_rep u3 u1.2 mn e2 e3, h5⟩
theorem ClosX.and {P Q : Value → List El → Prop} (hp : ClosX P) (hq : ClosX Q) : ClosX (fun u L => P u L ∧ Q u L) :=
  ⟨⟨hp.e, hq.e⟩, fun hc hw => ⟨hp.s hc hw, hq.s hc hw⟩, fun a b => ⟨hp.cat a.1 b.1, hq.cat a.2 b.2⟩, fun a b => ⟨hp.alt a.1 b.1, hq.alt a.2 b.2⟩, fun a o2 o3 o4 => ⟨hp.rep a.1 o2 o3 o4, hq.rep a.2 o2 o3 o4⟩⟩

/-- A tree and what it is written out as have one relation. -/
def ExL (n : Nat) (hs : List Int → Nat → Prop) (u : Value) (t : List El × Int) : Prop := SzV u t.2 ∧ ∃ R L, SegL n hs t.1 R ∧ SegX t.1 L ∧ SegL n hs L R ∧ Simple L
theorem closEx : Clos (ExL n hs) := by
  refine ⟨fun h => h.1, ?_, ?_, ?_, ?_, ?_⟩
  · exact ⟨SzV.e, _, _, SegL.e, SegX.leaf (Or.inl rfl), SegL.e, Simple.op (by decide) 0 0⟩
  · intro xs g hc hw
    exact ⟨SzV.s _ _ _ _, _, _, SegL.s xs, SegX.leaf (Or.inr rfl), SegL.s xs, Simple.op (by decide) 0 0⟩
  · rintro u v l r ⟨hu, A, L, a1, a2, a3, a4⟩ ⟨hv, B, R, b1, b2, b3, b4⟩
    exact ⟨SzV.cat hu hv, _, _, a1.cat b1, SegX.bin a2 b2 (Or.inl rfl), a3.cat b3, (a4.app b4).app (Simple.op (by decide) 0 0)⟩
  · rintro u v l r ⟨hu, A, L, a1, a2, a3, a4⟩ ⟨hv, B, R, b1, b2, b3, b4⟩
    exact ⟨SzV.alt hu hv, _, _, a1.alt b1, SegX.bin a2 b2 (Or.inr rfl), a3.alt b3, (a4.app b4).app (Simple.op (by decide) 0 0)⟩
  · rintro u o mn mx ⟨hu, A, L, a1, a2, a3, a4⟩ o2 o3 o4
    exact ⟨SzV.rep hu o2 o3 o4, _, _, a1.rep mn mx, SegX.rep a2 rfl, a3.repx mn mx o2 o4, a4.repx mn mx o2⟩
theorem exL_valid {xs L : List El} (h : ValidT xs) (hx : SegX xs L) : ∃ R, SegL n hs xs R ∧ SegL n hs L R ∧ Simple L := by
  obtain ⟨u, c, -, R, L', h1, h2, h3, h4⟩ := valid_g (closEx (n := n) (hs := hs)) h
  obtain rfl := SegX.one h2 hx
  exact ⟨R, h1, h3, h4⟩
/-- Any bytes at all. -/
theorem all_rel (hall : ∀ i, i < n → hs [0, 255] i) : SegL n hs allE (fun i j => i ≤ j ∧ j ≤ n) := by
  have h := (SegL.s (n := n) (hs := hs) [0, 255]).rep 0 (-1)
  have e : rRep n (rOne n (hs [0, 255])) 0 (-1) = fun i j => i ≤ j ∧ j ≤ n := rl_ext fun i j => by
    constructor
    · intro h2; exact h.2 i j h2
    · rintro ⟨h1, h2⟩
      obtain ⟨d, rfl⟩ : ∃ d, j = i + d := ⟨j - i, by omega⟩
      refine ⟨d, by omega, Or.inl rfl, ?_⟩
      clear h1
      induction d with
      | zero => exact ⟨rfl, h2⟩
      | succ d ih => exact ⟨i + d, ih (by omega), rfl, by omega, hall _ (by omega)⟩
  rw [e] at h
  exact h
theorem simple_all : Simple allE := (Simple.op (by decide) 0 0).app (Simple.rep 0 (by decide) (by decide))
theorem Simple.wh {L : List El} (h : Simple L) (l r : Bool) : Simple (whL l r L) := by
  have hc : Simple [⟨2, [], 0, 0⟩] := Simple.op (by decide) 0 0
  unfold whL
  cases l <;> cases r
  · exact (((simple_all.app h).app hc).app simple_all).app hc
  · exact (simple_all.app h).app hc
  · exact (h.app simple_all).app hc
  · exact h
/-- The whole tree reads the whole line just if the tree reads a piece that its anchors allow. -/
theorem whole_rel {L : List El} {R : Rl} (h : SegL n hs L R) (hall : ∀ i, i < n → hs [0, 255] i) (l r : Bool) : ∃ W, SegL n hs (whL l r L) W ∧ (W 0 n ↔ ∃ i j, (i = 0 ∨ l = false) ∧ R i j ∧ (j = n ∨ r = false)) := by
  have ha := all_rel (n := n) (hs := hs) hall
  unfold whL
  cases l <;> cases r
  · refine ⟨_, (ha.cat h).cat ha, ?_⟩
    constructor
    · rintro ⟨j, ⟨i, -, h1⟩, -⟩; exact ⟨i, j, Or.inr rfl, h1, Or.inr rfl⟩
    · rintro ⟨i, j, -, h1, -⟩
      have := h.2 _ _ h1
      exact ⟨j, ⟨i, ⟨by omega, by omega⟩, h1⟩, by omega, by omega⟩
  · refine ⟨_, ha.cat h, ?_⟩
    constructor
    · rintro ⟨i, -, h1⟩; exact ⟨i, n, Or.inr rfl, h1, Or.inl rfl⟩
    · rintro ⟨i, j, -, h1, h2⟩
      have := h.2 _ _ h1
      obtain rfl : j = n := h2.resolve_right (by decide)
      exact ⟨i, ⟨by omega, by omega⟩, h1⟩
  · refine ⟨_, h.cat ha, ?_⟩
    constructor
    · rintro ⟨j, h1, -⟩; exact ⟨0, j, Or.inl rfl, h1, Or.inr rfl⟩
    · rintro ⟨i, j, h2, h1, -⟩
      have := h.2 _ _ h1
      obtain rfl : i = 0 := h2.resolve_right (by decide)
      exact ⟨j, h1, by omega, by omega⟩
  · refine ⟨_, h, ?_⟩
    constructor
    · intro h1; exact ⟨0, n, Or.inl rfl, h1, Or.inl rfl⟩
    · rintro ⟨i, j, h2, h1, h3⟩
      obtain rfl : i = 0 := h2.resolve_right (by decide)
      obtain rfl : j = n := h3.resolve_right (by decide)
      exact h1
end

end Go.Proofs.YtfdkdjngeomcdaaDoor
