import Derived.Test.YtinhliecfjlocaaGreatPk21
import Derived.Test.YtinhliecfjlocaaGreatY6
import Derived.Test.YtinhliecfjlocaaGreatY7
namespace Go.Proofs.YtinhliecfjlocaaGreat
open Go.RowKit
structure ClosX (Q : Value → List El → Prop) : Prop where
  e : Q eV [⟨0, [], 0, 0⟩]
  s : ∀ {xs : List Int} {g : Nat → Nat}, Canon xs → WordsOf xs g → Q (sV g) [⟨1, xs, 0, 0⟩]
  cat : ∀ {u v : Value} {L R : List El}, Q u L → Q v R → Q (cV u v) (L ++ R ++ [⟨2, [], 0, 0⟩])
  alt : ∀ {u v : Value} {L R : List El}, Q u L → Q v R → Q (aV u v) (L ++ R ++ [⟨3, [], 0, 0⟩])
  rep : ∀ {u : Value} {L : List El} {mn mx : Int}, Q u L → 0 ≤ mn → mn ≤ 250 → (mx = -1 ∨ (mn ≤ mx ∧ mx ≤ 250)) → Q (rV u mn mx) (L ++ [⟨4, [], mn, mx⟩])
def QsL (Q : Value → List El → Prop) : List Value → List (List El) → Prop
  | [], [] => True
  | u :: us, L :: Ls => Q u L ∧ QsL Q us Ls
  | _, _ => False
theorem QsL.app {Q : Value → List El → Prop} : ∀ {a b : List Value} {A B : List (List El)}, QsL Q a A → QsL Q b B → QsL Q (a ++ b) (A ++ B)
  | [], _, [], _, _, k => k
  | _ :: _, _, _ :: _, _, h, k => ⟨h.1, QsL.app h.2 k⟩
  | [], _, _ :: _, _, h, _ => h.elim
  | _ :: _, _, [], _, h, _ => h.elim
theorem QsL.rep {Q : Value → List El → Prop} {u : Value} {L : List El} (h : Q u L) : ∀ n : Nat, QsL Q (List.replicate n u) (List.replicate n L)
  | 0 => trivial
  | n + 1 => ⟨h, QsL.rep h n⟩
theorem qs_fold {Q : Value → List El → Prop} (hQ : ClosX Q) : ∀ {vs : List Value} {Ls : List (List El)}, QsL Q vs Ls → ∀ {p : Value} {P : List El}, Q p P → Q (vs.foldl cV p) (Ls.foldl (fun acc q => acc ++ q ++ [catE]) P)
  | [], [], _, _, _, h => h
  | _ :: _, _ :: _, k, _, _, h => qs_fold hQ k.2 (hQ.cat h k.1)
  | [], _ :: _, k, _, _, _ => k.elim
  | _ :: _, [], k, _, _, _ => k.elim
theorem qs_join {Q : Value → List El → Prop} (hQ : ClosX Q) {vs : List Value} {Ls : List (List El)} (h : QsL Q vs Ls) (hn : vs ≠ []) : Q (jV vs) (jn Ls) := by
  match vs, Ls, h with
  | p :: r, P :: R, h => exact qs_fold hQ h.2 h.1
  | [], [], _ => exact absurd rfl hn
theorem qs_parts {Q : Value → List El → Prop} (hQ : ClosX Q) {U : Value} {L : List El} (h : Q U L) (mn mx : Int) (o2 : 0 ≤ mn) : QsL Q (partsV U mn mx) (partsX L mn mx) := by
  unfold partsV partsX
  by_cases e : mx = -1
  · rw [if_pos e, if_pos e]
    exact (QsL.rep h _).app ⟨hQ.rep h (by split <;> omega) (by split <;> omega) (Or.inl rfl), trivial⟩
  · rw [if_neg e, if_neg e]
    exact (QsL.rep h _).app (QsL.rep (hQ.alt h hQ.e) _)
def GR (Q : Value → List El → Prop) (u : Value) (t : List El × Int) : Prop :=
  SzV u t.2 ∧ SegM t.1 t.2 ∧ (t.2 ≤ 500 → 1 ≤ t.2 ∧ ∃ U L, ExpV u U ∧ Q U L ∧ (L.length : Int) ≤ 2 * t.2 - 1 ∧ SegX t.1 L)
theorem closR {Q : Value → List El → Prop} (hQ : ClosX Q) : Clos (GR Q) := by
  refine ⟨fun h => h.1, ?_, ?_, ?_, ?_, ?_⟩
  · exact ⟨SzV.e, SegM.leaf (Or.inl rfl), fun _ => ⟨by omega, eV, _, ExpV.e, hQ.e, by simp, SegX.leaf (Or.inl rfl)⟩⟩
  · intro xs g hc hw
    exact ⟨SzV.s _ _ _ _, SegM.leaf (Or.inr rfl), fun _ => ⟨by omega, sV g, _, ExpV.s g, hQ.s hc hw, by simp, SegX.leaf (Or.inr rfl)⟩⟩
  · rintro u v l r ⟨hu1, hu2, hu3⟩ ⟨hv1, hv2, hv3⟩
    refine ⟨SzV.cat hu1 hv1, SegM.bin hu2 hv2 (Or.inl rfl), fun hle => ?_⟩
    obtain ⟨e1, e2⟩ := cap_small hle
    have b1 := hu1.2
    have b2 := hv1.2
    obtain ⟨p1, U, L, a1, a2, a5, a6⟩ := hu3 (by omega)
    obtain ⟨p2, V, R, c1, c2, c5, c6⟩ := hv3 (by omega)
    simp only at hle e1 ⊢
    exact ⟨by omega, cV U V, _, ExpV.cat hu1.iface hv1.iface a1 c1, hQ.cat a2 c2, by rw [List.length_append, List.length_append]; simp; omega, SegX.bin a6 c6 (Or.inl rfl)⟩
  · rintro u v l r ⟨hu1, hu2, hu3⟩ ⟨hv1, hv2, hv3⟩
    refine ⟨SzV.alt hu1 hv1, SegM.bin hu2 hv2 (Or.inr rfl), fun hle => ?_⟩
    obtain ⟨e1, e2⟩ := cap_small hle
    have b1 := hu1.2
    have b2 := hv1.2
    obtain ⟨p1, U, L, a1, a2, a5, a6⟩ := hu3 (by omega)
    obtain ⟨p2, V, R, c1, c2, c5, c6⟩ := hv3 (by omega)
    simp only at hle e1 ⊢
    exact ⟨by omega, aV U V, _, ExpV.alt hu1.iface hv1.iface a1 c1, hQ.alt a2 c2, by rw [List.length_append, List.length_append]; simp; omega, SegX.bin a6 c6 (Or.inr rfl)⟩
  · rintro u o mn mx ⟨hu1, hu2, hu3⟩ o2 o3 o4
    refine ⟨SzV.rep hu1 o2 o3 o4, SegM.rep hu2 rfl o2 (o4.imp id (fun q => q)), fun hle => ?_⟩
    obtain ⟨e1, e2⟩ := cap_small hle
    have b1 := hu1.2
    have hge := rep_ge o.2 mn mx b1.1 o2 o4
    obtain ⟨p1, U, L, a1, a2, a5, a6⟩ := hu3 (by omega)
    obtain ⟨T, x, rfl⟩ := hu1.iface
    obtain ⟨T', x', rfl⟩ := a1.1
    simp only at hle e1 ⊢
    rw [e1]
    have a7 : SegX (o.1 ++ [⟨4, [], mn, mx⟩]) (repX L mn mx) := SegX.rep a6 rfl
    unfold repX at a7
    rcases o4 with rfl | ⟨o4, o5⟩
    · exact ⟨by omega, jV (partsV (.iface T' x') mn (-1)), jn (partsX L mn (-1)), ExpV.rep0 ⟨_, _, rfl⟩ (jV_iface (partsV_ne _ _ _ (Or.inl rfl)) (parts_iface ⟨_, _, rfl⟩ _ _)) (fun w => expandRep_star T x T' x' mn w a1 o2 o3), qs_join hQ (qs_parts hQ a2 mn (-1) o2) (partsV_ne _ _ _ (Or.inl rfl)), parts_len L o.2 mn (-1) a5 o2 (Or.inl rfl), by rwa [if_neg (by omega)] at a7⟩
    · by_cases h0 : mx = 0
      · subst h0
        exact ⟨by omega, eV, [⟨0, [], 0, 0⟩], ExpV.rep0 ⟨_, _, rfl⟩ ⟨_, _, rfl⟩ (fun w => expandRep_zero T x mn w), hQ.e, by simp; omega, by rwa [if_pos rfl] at a7⟩
      · obtain ⟨m, rfl⟩ := Int.eq_ofNat_of_zero_le o2
        obtain ⟨M, rfl⟩ := Int.eq_ofNat_of_zero_le (show 0 ≤ mx by omega)
        have hs : (Int.ofNat M = -1) ∨ (0 < (M : Int) ∧ (m : Int) ≤ (M : Int) ∧ 0 ≤ (m : Int)) := Or.inr ⟨by omega, by omega, by omega⟩
        refine ⟨by omega, jV (partsV (.iface T' x') m M), jn (partsX L m M), ExpV.rep0 ⟨_, _, rfl⟩ (jV_iface (partsV_ne _ _ _ hs) (parts_iface ⟨_, _, rfl⟩ _ _)) (fun w => ?_), qs_join hQ (qs_parts hQ a2 m M o2) (partsV_ne _ _ _ hs), parts_len L o.2 m M a5 o2 (Or.inr ⟨by omega, by omega⟩), by rwa [if_neg (by omega)] at a7⟩
        by_cases he : m = M
        · exact expandRep_count0 T x T' x' m M w a1 he (by omega) (by omega)
        · exact expandRep_count1 T x T' x' m M w a1 (by omega) (by omega) (by omega)
theorem valid_r {Q : Value → List El → Prop} (hQ : ClosX Q) {xs : List El} (h : ValidT xs) : ∃ L, L.length ≤ 1000 ∧ SegX xs L ∧ (∃ U, Q U L) ∧ ∀ u c, GR Q u (xs, c) → c ≤ 500 → ∃ U, ExpV u U ∧ Q U L := by
  obtain ⟨u, c', hu⟩ := valid_g (closR hQ) h
  obtain ⟨h1, ok, sh, c, hc1, hc2⟩ := h
  have hr := hu.2.1.run []
  simp only at hr
  rw [hc1] at hr
  simp only [List.cons.injEq, and_true] at hr
  obtain ⟨-, -, h5⟩ := hu
  obtain ⟨-, U, L, a1, a2, a5, a6⟩ := h5 (by simp only; omega)
  simp only at a5
  refine ⟨L, by omega, a6, ⟨U, a2⟩, fun u' c' hu' hc' => ?_⟩
  obtain ⟨-, U', L', b1, b2, -, b6⟩ := hu'.2.2 hc'
  rw [SegX.one a6 b6]
  exact ⟨U', b1, b2⟩
end Go.Proofs.YtinhliecfjlocaaGreat
