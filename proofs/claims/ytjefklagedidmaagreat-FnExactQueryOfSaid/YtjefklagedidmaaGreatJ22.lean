import Derived.Test.YtjefklagedidmaaGreatP15
import Derived.Test.YtjefklagedidmaaGreatP14
import Derived.Test.YtjefklagedidmaaGreatVW
import Derived.Test.YtjefklagedidmaaGreatY6
import Derived.Test.YtjefklagedidmaaGreatY7
import Derived.Test.YtjefklagedidmaaGreatY8
namespace Go.Proofs.YtjefklagedidmaaGreat
open Go.RowKit

/-- A list put into a row that ascends. -/
def insL (x : List Int) : List (List Int) → List (List Int)
  | [] => [x]
  | d :: D => if lexc d x < 0 then d :: insL x D else if lexc d x = 0 then d :: D else x :: d :: D
theorem insL_ok (x : List Int) : ∀ D : List (List Int), LAsc D → LAsc (insL x D) ∧ ∀ z, z ∈ insL x D ↔ z ∈ D ∨ z = x
  | [], _ => ⟨List.pairwise_singleton _ _, by simp [insL]⟩
  | d :: D, h => by
    obtain ⟨h1, h2⟩ := List.pairwise_cons.1 h
    obtain ⟨k1, k2⟩ := insL_ok x D h2
    rw [insL]
    by_cases g : lexc d x < 0
    · rw [if_pos g]
      refine ⟨List.pairwise_cons.2 ⟨fun z hz => ?_, k1⟩, fun z => by simp only [List.mem_cons, k2, or_assoc]⟩
      rcases (k2 z).1 hz with m | rfl
      · exact h1 z m
      · exact g
    · rw [if_neg g]
      by_cases e : lexc d x = 0
      · rw [if_pos e]
        obtain rfl := lexc_zero.1 e
        exact ⟨h, fun z => ⟨Or.inl, fun m => m.elim id (fun e => by rw [e]; exact List.mem_cons_self)⟩⟩
      · rw [if_neg e]
        have g2 : lexc x d < 0 := by
          rcases lexc_tri d x with q | q | q
          · exact absurd q g
          · exact absurd (lexc_zero.2 q) e
          · exact q
        refine ⟨List.pairwise_cons.2 ⟨fun z hz => ?_, h⟩, fun z => by simp only [List.mem_cons]; constructor <;> (rintro (h | h | h) <;> simp [h])⟩
        rcases List.mem_cons.1 hz with rfl | m
        · exact g2
        · exact lexc_trans g2 (h1 z m)
def lscF : List (List Int) → List (List Int)
  | [] => []
  | x :: L => insL x (lscF L)
theorem lscF_ok : ∀ L : List (List Int), LAsc (lscF L) ∧ ∀ z, z ∈ lscF L ↔ z ∈ L
  | [] => ⟨List.Pairwise.nil, fun z => Iff.rfl⟩
  | x :: L => by
    obtain ⟨h1, h2⟩ := lscF_ok L
    obtain ⟨k1, k2⟩ := insL_ok x (lscF L) h1
    exact ⟨k1, fun z => by rw [lscF, k2, h2, List.mem_cons, or_comm]⟩
/-- The set of a subtree behind its candidates. -/
def cutf (L : List (List Int)) : List (List Int) := if 50 < (lscF L).length ∨ (lscF L).any (fun x => decide (60 < x.length)) = true then [[256]] else lscF L
theorem cutf_ok (L : List (List Int)) : CutR L (cutf L) := by
  obtain ⟨h1, h2⟩ := lscF_ok L
  have h3 : (50 < (lscF L).length ∨ (lscF L).any (fun x => decide (60 < x.length)) = true) ↔ Ovr (lscF L) := by
    unfold Ovr
    rw [List.any_eq_true]
    simp only [decide_eq_true_eq]
  unfold cutf
  by_cases g : 50 < (lscF L).length ∨ (lscF L).any (fun x => decide (60 < x.length)) = true
  · rw [if_pos g]; exact ⟨_, h1, h2, Or.inl ⟨h3.1 g, rfl⟩⟩
  · rw [if_neg g]; exact ⟨_, h1, h2, Or.inr ⟨fun q => g (h3.2 q), rfl⟩⟩
def repK (o : List (List Int)) (mn : Int) : List (List Int) := if mn = 0 then [[256]] else cutf (o ++ prd (o.map (fun a => jn2 a [256])) o)
/-- The sets of skeletons on the stack, top first, behind one element more. -/
def kPush (st : List (List (List Int))) (x : El) : List (List (List Int)) :=
  if x.kind = 0 then [[]] :: st else if x.kind = 1 then leafS x.set :: st else
  match st with
  | [] => []
  | [o] => if x.kind = 4 then [repK o x.mn] else [o]
  | r :: l :: b => if x.kind = 4 then repK r x.mn :: l :: b else if x.kind = 2 then cutf (prd l r) :: b else cutf (l ++ r) :: b
def kRun (st : List (List (List Int))) : List El → List (List (List Int))
  | [] => st
  | x :: r => kRun (kPush st x) r
theorem kRun_append (st : List (List (List Int))) (a b : List El) : kRun st (a ++ b) = kRun (kRun st a) b := by
  induction a generalizing st with
  | nil => rfl
  | cons x r ih => simp [kRun, ih]
def SegK (seg : List El) (S : List (List Int)) : Prop := ∀ st, kRun st seg = S :: st
theorem SegK.one {a : List El} {S S' : List (List Int)} (h : SegK a S) (k : SegK a S') : S = S' := by
  have := (h []).symm.trans (k [])
  simpa using this
theorem SegK.e : SegK [⟨0, [], 0, 0⟩] [[]] := fun st => by simp [kRun, kPush]
theorem SegK.s (xs : List Int) : SegK [⟨1, xs, 0, 0⟩] (leafS xs) := fun st => by simp [kRun, kPush]
theorem SegK.cat {a b : List El} {A B : List (List Int)} (ha : SegK a A) (hb : SegK b B) : SegK (a ++ b ++ [⟨2, [], 0, 0⟩]) (cutf (prd A B)) := fun st => by
  rw [kRun_append, kRun_append, ha, hb]
  simp [kRun, kPush]
theorem SegK.alt {a b : List El} {A B : List (List Int)} (ha : SegK a A) (hb : SegK b B) : SegK (a ++ b ++ [⟨3, [], 0, 0⟩]) (cutf (A ++ B)) := fun st => by
  rw [kRun_append, kRun_append, ha, hb]
  simp [kRun, kPush]
theorem SegK.rep {a : List El} {A : List (List Int)} (ha : SegK a A) (mn mx : Int) : SegK (a ++ [⟨4, [], mn, mx⟩]) (repK A mn) := fun st => by
  rw [kRun_append, ha]
  cases st with
  | nil => simp [kRun, kPush]
  | cons q st => simp [kRun, kPush]

/-- The program finds at a node what the model finds at its list. -/
def KS (U : Value) (L : List El) : Prop := ∃ S c, SkV U S ∧ SkS L S ∧ Sm S ∧ LAsc S ∧ SegM L c ∧ SegK L S
theorem KS.e : KS eV [⟨0, [], 0, 0⟩] := ⟨[[]], 1, SkV.e, sk_e _ rfl, ⟨by simp, by simp⟩, List.pairwise_singleton _ _, SegM.leaf (Or.inl rfl), SegK.e⟩
theorem KS.s {g : Nat → Nat} {xs : List Int} (hg : WordsOf xs g) (hc : Canon xs) : KS (sV g) [⟨1, xs, 0, 0⟩] := ⟨leafS xs, 1, SkV.s hg, sk_set xs (by have := canon_len hc; omega), (leaf_cut xs).small, (leaf_cut xs).lasc, SegM.leaf (Or.inr rfl), SegK.s xs⟩
theorem KS.cat {u v : Value} {L R : List El} (hu : KS u L) (hv : KS v R) : KS (cV u v) (L ++ R ++ [⟨2, [], 0, 0⟩]) := by
  obtain ⟨S1, c1, a1, a2, a3, a4, a5, a6⟩ := hu
  obtain ⟨S2, c2, b1, b2, b3, b4, b5, b6⟩ := hv
  have h := cutf_ok (prd S1 S2)
  exact ⟨_, _, SkV.cat a1 b1 a3 b3 h, sk_cat L R S1 S2 _ c1 c2 a5 b5 a2 b2 a3 b3 h, h.small, h.lasc, SegM.bin a5 b5 (Or.inl rfl), a6.cat b6⟩
theorem KS.alt {u v : Value} {L R : List El} (hu : KS u L) (hv : KS v R) : KS (aV u v) (L ++ R ++ [⟨3, [], 0, 0⟩]) := by
  obtain ⟨S1, c1, a1, a2, a3, a4, a5, a6⟩ := hu
  obtain ⟨S2, c2, b1, b2, b3, b4, b5, b6⟩ := hv
  have h := cutf_ok (S1 ++ S2)
  exact ⟨_, _, SkV.alt a1 b1 a3 b3 h, sk_alt L R S1 S2 _ c1 c2 a5 b5 a2 b2 a3 b3 h, h.small, h.lasc, SegM.bin a5 b5 (Or.inr rfl), a6.alt b6⟩
theorem KS.rep {u : Value} {L : List El} (hu : KS u L) (mn mx : Int) (o2 : 0 ≤ mn) (o4 : mx = -1 ∨ (mn ≤ mx ∧ mx ≤ 250)) : KS (rV u mn mx) (L ++ [⟨4, [], mn, mx⟩]) := by
  obtain ⟨S1, c1, a1, a2, a3, a4, a5, a6⟩ := hu
  have h6 := a6.rep mn mx
  by_cases h0 : mn = 0
  · subst h0
    rw [show repK S1 0 = [[256]] from if_pos rfl] at h6
    exact ⟨_, _, SkV.rep0 a1.1 mx, sk_rep0 L mx, cut_gap.small, cut_gap.lasc, SegM.rep a5 rfl o2 o4, h6⟩
  · have h := cutf_ok (S1 ++ prd (S1.map (fun a => jn2 a [256])) S1)
    rw [show repK S1 mn = cutf (S1 ++ prd (S1.map (fun a => jn2 a [256])) S1) from if_neg h0] at h6
    exact ⟨_, _, SkV.rep a1 a3 mn mx h0 h, sk_rep L mn mx S1 _ h0 a2 a3 h, h.small, h.lasc, SegM.rep a5 rfl o2 o4, h6⟩

def KsL : List Value → List (List El) → Prop
  | [], [] => True
  | u :: us, L :: Ls => KS u L ∧ KsL us Ls
  | _, _ => False
theorem KsL.app : ∀ {a b : List Value} {A B : List (List El)}, KsL a A → KsL b B → KsL (a ++ b) (A ++ B)
  | [], _, [], _, _, k => k
  | _ :: _, _, _ :: _, _, h, k => ⟨h.1, KsL.app h.2 k⟩
  | [], _, _ :: _, _, h, _ => h.elim
  | _ :: _, _, [], _, h, _ => h.elim
theorem KsL.rep {u : Value} {L : List El} (h : KS u L) : ∀ n : Nat, KsL (List.replicate n u) (List.replicate n L)
  | 0 => trivial
  | n + 1 => ⟨h, KsL.rep h n⟩
theorem ks_fold : ∀ {vs : List Value} {Ls : List (List El)}, KsL vs Ls → ∀ {p : Value} {P : List El}, KS p P → KS (vs.foldl cV p) (Ls.foldl (fun acc q => acc ++ q ++ [catE]) P)
  | [], [], _, _, _, h => h
  | _ :: _, _ :: _, k, _, _, h => ks_fold k.2 (h.cat k.1)
  | [], _ :: _, k, _, _, _ => k.elim
  | _ :: _, [], k, _, _, _ => k.elim
theorem ks_join {vs : List Value} {Ls : List (List El)} (h : KsL vs Ls) (hn : vs ≠ []) : KS (jV vs) (jn Ls) := by
  match vs, Ls, h with
  | p :: r, P :: R, h => exact ks_fold h.2 h.1
  | [], [], _ => exact absurd rfl hn

theorem ks_parts {U : Value} {L : List El} (h : KS U L) (mn mx : Int) (o2 : 0 ≤ mn) : KsL (partsV U mn mx) (partsX L mn mx) := by
  unfold partsV partsX
  by_cases e : mx = -1
  · rw [if_pos e, if_pos e]
    exact (KsL.rep h _).app ⟨h.rep _ _ (by split <;> omega) (Or.inl rfl), trivial⟩
  · rw [if_neg e, if_neg e]
    exact (KsL.rep h _).app (KsL.rep (h.alt KS.e) _)

/-- What is known of a node: its size, and that the program and the model find the same skeletons. -/
def GK (u : Value) (t : List El × Int) : Prop :=
  SzV u t.2 ∧ SegM t.1 t.2 ∧ (t.2 ≤ 500 → 1 ≤ t.2 ∧ ∃ U L, ExpV u U ∧ KS U L ∧ XpS t.1 L ∧ Nice L ∧ (L.length : Int) ≤ 2 * t.2 - 1 ∧ SegX t.1 L)

theorem closK : Clos GK := by
  refine ⟨fun h => h.1, ?_, ?_, ?_, ?_, ?_⟩
  · exact ⟨SzV.e, SegM.leaf (Or.inl rfl), fun _ => ⟨by omega, eV, _, ExpV.e, KS.e, xpS_leaf _ (Or.inl rfl) (by simp), Nice.op _ _ _ (by simp [In64]) (by simp [In64]) (by simp [In64]), by simp, SegX.leaf (Or.inl rfl)⟩⟩
  · intro xs g hc hw
    exact ⟨SzV.s _ _ _ _, SegM.leaf (Or.inr rfl), fun _ => ⟨by omega, sV g, _, ExpV.s g, KS.s hw hc, xpS_leaf _ (Or.inr rfl) (by have := canon_len hc; show xs.length ≤ 1048576; omega), nice_set hc, by simp, SegX.leaf (Or.inr rfl)⟩⟩
  · rintro u v l r ⟨hu1, hu2, hu3⟩ ⟨hv1, hv2, hv3⟩
    refine ⟨SzV.cat hu1 hv1, SegM.bin hu2 hv2 (Or.inl rfl), fun hle => ?_⟩
    obtain ⟨e1, e2⟩ := cap_small hle
    have b1 := hu1.2
    have b2 := hv1.2
    obtain ⟨p1, U, L, a1, a2, a3, a4, a5, a6⟩ := hu3 (by omega)
    obtain ⟨p2, V, R, c1, c2, c3, c4, c5, c6⟩ := hv3 (by omega)
    simp only at hle e1 ⊢
    exact ⟨by omega, cV U V, _, ExpV.cat hu1.iface hv1.iface a1 c1, a2.cat c2, xpS_bin 2 (Or.inl rfl) _ _ L R _ _ hu2 hv2 a3 c3 a4 c4 (by omega) (by omega), (a4.app c4).app (Nice.op _ _ _ (by simp [In64]) (by simp [In64]) (by simp [In64])), by rw [List.length_append, List.length_append]; simp; omega, SegX.bin a6 c6 (Or.inl rfl)⟩
  · rintro u v l r ⟨hu1, hu2, hu3⟩ ⟨hv1, hv2, hv3⟩
    refine ⟨SzV.alt hu1 hv1, SegM.bin hu2 hv2 (Or.inr rfl), fun hle => ?_⟩
    obtain ⟨e1, e2⟩ := cap_small hle
    have b1 := hu1.2
    have b2 := hv1.2
    obtain ⟨p1, U, L, a1, a2, a3, a4, a5, a6⟩ := hu3 (by omega)
    obtain ⟨p2, V, R, c1, c2, c3, c4, c5, c6⟩ := hv3 (by omega)
    simp only at hle e1 ⊢
    exact ⟨by omega, aV U V, _, ExpV.alt hu1.iface hv1.iface a1 c1, a2.alt c2, xpS_bin 3 (Or.inr rfl) _ _ L R _ _ hu2 hv2 a3 c3 a4 c4 (by omega) (by omega), (a4.app c4).app (Nice.op _ _ _ (by simp [In64]) (by simp [In64]) (by simp [In64])), by rw [List.length_append, List.length_append]; simp; omega, SegX.bin a6 c6 (Or.inr rfl)⟩
  · rintro u o mn mx ⟨hu1, hu2, hu3⟩ o2 o3 o4
    refine ⟨SzV.rep hu1 o2 o3 o4, SegM.rep hu2 rfl o2 (o4.imp id (fun q => q)), fun hle => ?_⟩
    obtain ⟨e1, e2⟩ := cap_small hle
    have b1 := hu1.2
    have hge := rep_ge o.2 mn mx b1.1 o2 o4
    obtain ⟨p1, U, L, a1, a2, a3, a4, a5, a6⟩ := hu3 (by omega)
    obtain ⟨T, x, rfl⟩ := hu1.iface
    obtain ⟨T', x', rfl⟩ := a1.1
    simp only at hle e1 ⊢
    rw [e1]
    have a7 : SegX (o.1 ++ [⟨4, [], mn, mx⟩]) (repX L mn mx) := SegX.rep a6 rfl
    unfold repX at a7
    rcases o4 with rfl | ⟨o4, o5⟩
    · exact ⟨by omega, jV (partsV (.iface T' x') mn (-1)), jn (partsX L mn (-1)), ExpV.rep0 ⟨_, _, rfl⟩ (jV_iface (partsV_ne _ _ _ (Or.inl rfl)) (parts_iface ⟨_, _, rfl⟩ _ _)) (fun w => expandRep_star T x T' x' mn w a1 o2 o3), ks_join (ks_parts a2 mn (-1) o2) (partsV_ne _ _ _ (Or.inl rfl)), xpS_star mn _ L _ hu2 a3 o2 o3 a4 (by omega), parts_nice a4 _ _ o2 o3, parts_len L o.2 mn (-1) a5 o2 (Or.inl rfl), by rwa [if_neg (by omega)] at a7⟩
    · by_cases h0 : mx = 0
      · subst h0
        exact ⟨by omega, eV, [⟨0, [], 0, 0⟩], ExpV.rep0 ⟨_, _, rfl⟩ ⟨_, _, rfl⟩ (fun w => expandRep_zero T x mn w), KS.e, xpS_zero mn _ L _ hu2 a3, Nice.op _ _ _ (by simp [In64]) (by simp [In64]) (by simp [In64]), by simp; omega, by rwa [if_pos rfl] at a7⟩
      · obtain ⟨m, rfl⟩ := Int.eq_ofNat_of_zero_le o2
        obtain ⟨M, rfl⟩ := Int.eq_ofNat_of_zero_le (show 0 ≤ mx by omega)
        have hs : (Int.ofNat M = -1) ∨ (0 < (M : Int) ∧ (m : Int) ≤ (M : Int) ∧ 0 ≤ (m : Int)) := Or.inr ⟨by omega, by omega, by omega⟩
        refine ⟨by omega, jV (partsV (.iface T' x') m M), jn (partsX L m M), ExpV.rep0 ⟨_, _, rfl⟩ (jV_iface (partsV_ne _ _ _ hs) (parts_iface ⟨_, _, rfl⟩ _ _)) (fun w => ?_), ks_join (ks_parts a2 m M o2) (partsV_ne _ _ _ hs), xpS_count m M _ L _ hu2 a3 (by omega) (by omega) (by omega) a4 (by omega), parts_nice a4 _ _ o2 o3, parts_len L o.2 m M a5 o2 (Or.inr ⟨by omega, by omega⟩), by rwa [if_neg (by omega)] at a7⟩
        by_cases he : m = M
        · exact expandRep_count0 T x T' x' m M w a1 he (by omega) (by omega)
        · exact expandRep_count1 T x T' x' m M w a1 (by omega) (by omega) (by omega)

theorem PushR.gk {st st' : List (List El × Int)} {x : El} (h : PushR st x st') (ok : ElOk x) (hs : ∀ s ∈ st, ∃ u, GK u s) : ∀ s ∈ st', ∃ u, GK u s := by
  intro s hm
  obtain ⟨k, xs, mn, mx⟩ := x
  rcases h with ⟨hk, rfl⟩ | ⟨hk, b, l, r, rfl, rfl⟩ | ⟨hk, b, o, rfl, rfl⟩
  · simp only [List.mem_append, List.mem_singleton] at hm; rcases hm with hm | rfl
    · exact hs s hm
    · rcases ok with ⟨q1, q2, q3, q4⟩ | ⟨q1, q2, q3, q4⟩ | ⟨q1, q2, q3, q4, q5⟩ <;> simp only at hk q1 q2 q3 q4
      · subst q1 q3 q4
        obtain ⟨g, hg⟩ := words_ex q2
        exact ⟨_, closK.s q2 hg⟩
      · subst q3 q4
        obtain rfl := List.eq_nil_of_length_eq_zero q2
        obtain rfl : k = 0 := by omega
        exact ⟨_, closK.e⟩
      · omega
  · simp only [List.mem_append, List.mem_singleton] at hm; rcases hm with hm | rfl
    · exact hs s (by simp [hm])
    · obtain ⟨u, hu⟩ := hs l (by simp)
      obtain ⟨v, hv⟩ := hs r (by simp)
      rcases ok with ⟨q1, q2, q3, q4⟩ | ⟨q1, q2, q3, q4⟩ | ⟨q1, q2, q3, q4, q5⟩ <;> simp only at hk q1 q2 q3 q4
      · omega
      · subst q3 q4
        obtain rfl := List.eq_nil_of_length_eq_zero q2
        rcases hk with rfl | rfl
        · exact ⟨_, closK.cat hu hv⟩
        · exact ⟨_, closK.alt hu hv⟩
      · omega
  · simp only [List.mem_append, List.mem_singleton] at hm; rcases hm with hm | rfl
    · exact hs s (by simp [hm])
    · obtain ⟨u, hu⟩ := hs o (by simp)
      rcases ok with ⟨q1, q2, q3, q4⟩ | ⟨q1, q2, q3, q4⟩ | ⟨q1, q2, q3, q4, q5⟩ <;> simp only at hk q1 q2 q3 q4
      · omega
      · omega
      · subst hk
        obtain rfl := List.eq_nil_of_length_eq_zero q2
        exact ⟨_, closK.rep hu q3 q4 q5⟩

/-- What a valid tree is written out as, by the model. -/
theorem valid_k {xs : List El} (h : ValidT xs) : ∃ L, XpS xs L ∧ Nice L ∧ L.length ≤ 1000 ∧ SegX xs L ∧ (∃ U, KS U L) ∧ ∀ u c, GK u (xs, c) → c ≤ 500 → ∃ U, ExpV u U ∧ KS U L := by
  obtain ⟨h1, ok, sh, c, hc1, hc2⟩ := h
  have key : ∀ k : Nat, k ≤ xs.length → ∃ st, flats st = xs.take k ∧ (∀ s ∈ st, SegM s.1 s.2) ∧ ∀ s ∈ st, ∃ u, GK u s := by
    intro k
    induction k with
    | zero => intro _; exact ⟨[], by simp [flats], by simp, by simp⟩
    | succ k ih =>
      intro hk
      obtain ⟨st, hst, hok, hgx⟩ := ih (by omega)
      have hx := ok k (by omega)
      have h1 : wsum (xs.take (k + 1)) + wsum (xs.drop (k + 1)) = 1 := by rw [← wsum_append, List.take_append_drop]; exact sh.1
      have h2 := sh.2 (k + 1) (by omega) hk
      have h3 := wsum_flats (fun s hs => (hok s hs).ws)
      rw [hst] at h3
      rw [take_next (by omega), wsum_append, h3] at h1
      simp only [wsum] at h1
      obtain ⟨st', hp⟩ := PushR.ex (st := st) hx (by omega)
      exact ⟨st', by rw [hp.flats, hst, take_next (by omega)], hp.seg hx hok, hp.gk hx hgx⟩
  obtain ⟨st, hst, hok, hgx⟩ := key xs.length (Nat.le_refl _)
  rw [List.take_length] at hst
  have h3 := wsum_flats (fun s hs => (hok s hs).ws)
  rw [hst, sh.1] at h3
  obtain ⟨t, rfl⟩ := List.length_eq_one_iff.1 (show st.length = 1 by omega)
  have ha := hok t (by simp)
  obtain ⟨u, hu⟩ := hgx t (by simp)
  rw [flats_one] at hst
  have hr := ha.run []
  rw [hst, hc1] at hr
  simp only [List.cons.injEq, and_true] at hr
  obtain ⟨-, -, h5⟩ := hu
  obtain ⟨-, U, L, a1, a2, a3, a4, a5, a6⟩ := h5 (by omega)
  rw [hst] at a3 a6
  refine ⟨L, a3, a4, by omega, a6, ⟨U, a2⟩, fun u' c' hu' hc' => ?_⟩
  obtain ⟨-, U', L', b1, b2, -, -, -, b6⟩ := hu'.2.2 hc'
  rw [SegX.one a6 b6]
  exact ⟨U', b1, b2⟩

end Go.Proofs.YtjefklagedidmaaGreat
