import Derived.Test.YtgedhbnmejlmeaaV1
import Derived.Test.YtgedhbnmejlmeaaY6
import Derived.Test.YtgedhbnmejlmeaaY7
import Derived.Test.YtgedhbnmejlmeaaY8
namespace Go.Proofs.Ytgedhbnmejlmeaa
open Go.RowKit

/-- The lists that are written out, on the stack, top first, behind one element more. -/
def xPush (st : List (List El)) (x : El) : List (List El) :=
  if x.kind = 0 ∨ x.kind = 1 then [x] :: st else
  match st with
  | [] => []
  | [o] => if x.kind = 4 then [repX o x.mn x.mx] else [o]
  | r :: l :: b => if x.kind = 4 then repX r x.mn x.mx :: l :: b else (l ++ r ++ [x]) :: b
def xRun (st : List (List El)) : List El → List (List El)
  | [] => st
  | x :: r => xRun (xPush st x) r
theorem xRun_append (st : List (List El)) (a b : List El) : xRun st (a ++ b) = xRun (xRun st a) b := by
  induction a generalizing st with
  | nil => rfl
  | cons x r ih => simp [xRun, ih]
def SegX (seg L : List El) : Prop := ∀ st, xRun st seg = L :: st
theorem SegX.leaf {x : El} (h : x.kind = 0 ∨ x.kind = 1) : SegX [x] [x] := fun st => by simp only [xRun, xPush]; rw [if_pos h]
theorem SegX.bin {a b A B : List El} {x : El} (ha : SegX a A) (hb : SegX b B) (h : x.kind = 2 ∨ x.kind = 3) : SegX (a ++ b ++ [x]) (A ++ B ++ [x]) := fun st => by
  rw [xRun_append, xRun_append, ha, hb]
  simp only [xRun, xPush]
  rw [if_neg (by omega), if_neg (by omega)]
theorem SegX.rep {a A : List El} {x : El} (ha : SegX a A) (h : x.kind = 4) : SegX (a ++ [x]) (repX A x.mn x.mx) := fun st => by
  rw [xRun_append, ha]
  cases st with
  | nil => simp only [xRun, xPush]; rw [if_neg (by omega), if_pos h]
  | cons q st => simp only [xRun, xPush]; rw [if_neg (by omega), if_pos h]
theorem SegX.one {a A B : List El} (h : SegX a A) (k : SegX a B) : A = B := by
  have := (h []).symm.trans (k [])
  simpa using this

/-- What is known of a node: its size, and that the program writes it out as the model does its list. -/
def GX (u : Value) (t : List El × Int) : Prop :=
  SzV u t.2 ∧ SegM t.1 t.2 ∧ (t.2 ≤ 500 → 1 ≤ t.2 ∧ ∃ U L, ExpV u U ∧ OpsAs U L ∧ XpS t.1 L ∧ Nice L ∧ (L.length : Int) ≤ 2 * t.2 - 1 ∧ SegX t.1 L)

theorem cap_small {n : Int} (h : cap n ≤ 500) : cap n = n ∧ n ≤ 500 := by
  unfold cap at h ⊢
  by_cases e : 500 < n
  · rw [if_pos e] at h; omega
  · rw [if_neg e]; exact ⟨rfl, by omega⟩

theorem canon_len {xs : List Int} (h : Canon xs) : xs.length ≤ 300 := by
  by_cases q : xs.length ≤ 258
  · omega
  · have h1 := canon_ge h 129 (by omega)
    have h2 := (h.2.1 (2 * 129) (by omega)).2
    omega

theorem nice_set {xs : List Int} (h : Canon xs) : Nice [⟨1, xs, 0, 0⟩] := by
  refine ⟨fun i => ?_, fun i => ?_⟩
  · cases i with
    | zero =>
      refine ⟨by simp [In64], by simp [In64], by simp [In64], fun j => ?_⟩
      by_cases hj : j < xs.length
      · have := h.2.1 j hj
        show In64 (xs[j]?.getD 0)
        unfold In64
        omega
      · show In64 (xs[j]?.getD 0)
        rw [List.getElem?_eq_none (by omega)]
        simp [In64]
    | succ i => simp [dE, In64]
  · cases i with
    | zero => have := canon_len h; show xs.length ≤ 1048576; omega
    | succ i => simp [dE]

theorem parts_nice {X : List El} (h : Nice X) (mn mx : Int) (o2 : 0 ≤ mn) (o3 : mn ≤ 250) : Nice (jn (partsX X mn mx)) := by
  refine jn_nice _ (fun p hp => ?_)
  unfold partsX at hp
  by_cases e : mx = -1
  · rw [if_pos e] at hp
    rcases List.mem_append.1 hp with hp | hp
    · rw [(List.mem_replicate.1 hp).2]; exact h
    · rw [List.mem_singleton.1 hp]
      exact h.app (Nice.op _ _ _ (by simp [In64]) (by unfold In64; split <;> omega) (by simp [In64]))
  · rw [if_neg e] at hp
    rcases List.mem_append.1 hp with hp | hp
    · rw [(List.mem_replicate.1 hp).2]; exact h
    · rw [(List.mem_replicate.1 hp).2]; exact optE_nice h

theorem jV_iface {vs : List Value} (h : vs ≠ []) (hi : ∀ u ∈ vs, ∃ T x, u = .iface T x) : ∃ T x, jV vs = .iface T x := by
  match vs with
  | p :: r => exact foldV r p (hi p (by simp))
  | [] => exact absurd rfl h
theorem parts_iface {U : Value} (h : ∃ T x, U = .iface T x) (mn mx : Int) : ∀ u ∈ partsV U mn mx, ∃ T x, u = .iface T x := by
  intro u hu
  unfold partsV at hu
  by_cases e : mx = -1
  · rw [if_pos e] at hu
    rcases List.mem_append.1 hu with hu | hu
    · rw [(List.mem_replicate.1 hu).2]; exact h
    · rw [List.mem_singleton.1 hu]; exact ⟨_, _, rfl⟩
  · rw [if_neg e] at hu
    rcases List.mem_append.1 hu with hu | hu
    · rw [(List.mem_replicate.1 hu).2]; exact h
    · rw [(List.mem_replicate.1 hu).2]; exact ⟨_, _, rfl⟩

theorem closX : Clos GX := by
  refine ⟨fun h => h.1, ?_, ?_, ?_, ?_, ?_⟩
  · exact ⟨SzV.e, SegM.leaf (Or.inl rfl), fun _ => ⟨by omega, eV, _, ExpV.e, OpsAs.e, xpS_leaf _ (Or.inl rfl) (by simp), Nice.op _ _ _ (by simp [In64]) (by simp [In64]) (by simp [In64]), by simp, SegX.leaf (Or.inl rfl)⟩⟩
  · intro xs g hc hw
    exact ⟨SzV.s _ _ _ _, SegM.leaf (Or.inr rfl), fun _ => ⟨by omega, sV g, _, ExpV.s g, OpsAs.s hw hc, xpS_leaf _ (Or.inr rfl) (by have := canon_len hc; show xs.length ≤ 1048576; omega), nice_set hc, by simp, SegX.leaf (Or.inr rfl)⟩⟩
  · rintro u v l r ⟨hu1, hu2, hu3⟩ ⟨hv1, hv2, hv3⟩
    refine ⟨SzV.cat hu1 hv1, SegM.bin hu2 hv2 (Or.inl rfl), fun hle => ?_⟩
    obtain ⟨e1, e2⟩ := cap_small hle
    have b1 := hu1.2
    have b2 := hv1.2
    obtain ⟨p1, U, L, a1, a2, a3, a4, a5, a6⟩ := hu3 (by omega)
    obtain ⟨p2, V, R, c1, c2, c3, c4, c5, c6⟩ := hv3 (by omega)
    simp only at hle e1 ⊢
    exact ⟨by omega, cV U V, _, ExpV.cat hu1.iface hv1.iface a1 c1, a2.cat c2, xpS_bin 2 (Or.inl rfl) _ _ L R _ _ hu2 hv2 a3 c3 a4 c4 (by omega) (by omega), (a4.app c4).app (Nice.op _ _ _ (by simp [In64]) (by simp [In64]) (by simp [In64])), by rw [List.length_append, List.length_append]; simp; omega, SegX.bin a6 c6 (Or.inl rfl)⟩
  · rintro u v l r ⟨hu1, hu2, hu3⟩ ⟨hv1, hv2, hv3⟩
    refine ⟨SzV.alt hu1 hv1, SegM.bin hu2 hv2 (Or.inr rfl), fun hle => ?_⟩
    obtain ⟨e1, e2⟩ := cap_small hle
    have b1 := hu1.2
    have b2 := hv1.2
    obtain ⟨p1, U, L, a1, a2, a3, a4, a5, a6⟩ := hu3 (by omega)
    obtain ⟨p2, V, R, c1, c2, c3, c4, c5, c6⟩ := hv3 (by omega)
    simp only at hle e1 ⊢
    exact ⟨by omega, aV U V, _, ExpV.alt hu1.iface hv1.iface a1 c1, a2.alt c2, xpS_bin 3 (Or.inr rfl) _ _ L R _ _ hu2 hv2 a3 c3 a4 c4 (by omega) (by omega), (a4.app c4).app (Nice.op _ _ _ (by simp [In64]) (by simp [In64]) (by simp [In64])), by rw [List.length_append, List.length_append]; simp; omega, SegX.bin a6 c6 (Or.inr rfl)⟩
  · rintro u o mn mx ⟨hu1, hu2, hu3⟩ o2 o3 o4
    refine ⟨SzV.rep hu1 o2 o3 o4, SegM.rep hu2 rfl o2 (o4.imp id (fun q => q)), fun hle => ?_⟩
    obtain ⟨e1, e2⟩ := cap_small hle
    have b1 := hu1.2
    have hge := rep_ge o.2 mn mx b1.1 o2 o4
    obtain ⟨p1, U, L, a1, a2, a3, a4, a5, a6⟩ := hu3 (by omega)
    obtain ⟨T, x, rfl⟩ := hu1.iface
    obtain ⟨T', x', rfl⟩ := a1.1
    simp only at hle e1 ⊢
    rw [e1]
    have a7 : SegX (o.1 ++ [⟨4, [], mn, mx⟩]) (repX L mn mx) := SegX.rep a6 rfl
    unfold repX at a7
    rcases o4 with rfl | ⟨o4, o5⟩
    · exact ⟨by omega, jV (partsV (.iface T' x') mn (-1)), jn (partsX L mn (-1)), ExpV.rep0 ⟨_, _, rfl⟩ (jV_iface (partsV_ne _ _ _ (Or.inl rfl)) (parts_iface ⟨_, _, rfl⟩ _ _)) (fun w => expandRep_star T x T' x' mn w a1 o2 o3), ops_join (ops_parts a2 mn (-1)) (partsV_ne _ _ _ (Or.inl rfl)), xpS_star mn _ L _ hu2 a3 o2 o3 a4 (by omega), parts_nice a4 _ _ o2 o3, parts_len L o.2 mn (-1) a5 o2 (Or.inl rfl), by rwa [if_neg (by omega)] at a7⟩
    · by_cases h0 : mx = 0
      · subst h0
        exact ⟨by omega, eV, [⟨0, [], 0, 0⟩], ExpV.rep0 ⟨_, _, rfl⟩ ⟨_, _, rfl⟩ (fun w => expandRep_zero T x mn w), OpsAs.e, xpS_zero mn _ L _ hu2 a3, Nice.op _ _ _ (by simp [In64]) (by simp [In64]) (by simp [In64]), by simp; omega, by rwa [if_pos rfl] at a7⟩
      · obtain ⟨m, rfl⟩ := Int.eq_ofNat_of_zero_le o2
        obtain ⟨M, rfl⟩ := Int.eq_ofNat_of_zero_le (show 0 ≤ mx by omega)
        have hs : (Int.ofNat M = -1) ∨ (0 < (M : Int) ∧ (m : Int) ≤ (M : Int) ∧ 0 ≤ (m : Int)) := Or.inr ⟨by omega, by omega, by omega⟩
        refine ⟨by omega, jV (partsV (.iface T' x') m M), jn (partsX L m M), ExpV.rep0 ⟨_, _, rfl⟩ (jV_iface (partsV_ne _ _ _ hs) (parts_iface ⟨_, _, rfl⟩ _ _)) (fun w => ?_), ops_join (ops_parts a2 m M) (partsV_ne _ _ _ hs), xpS_count m M _ L _ hu2 a3 (by omega) (by omega) (by omega) a4 (by omega), parts_nice a4 _ _ o2 o3, parts_len L o.2 m M a5 o2 (Or.inr ⟨by omega, by omega⟩), by rwa [if_neg (by omega)] at a7⟩
        by_cases he : m = M
        · exact expandRep_count0 T x T' x' m M w a1 he (by omega) (by omega)
        · exact expandRep_count1 T x T' x' m M w a1 (by omega) (by omega) (by omega)

end Go.Proofs.Ytgedhbnmejlmeaa
