import Derived.Test.YtjefklagedidmaaGreatP4
import Derived.Test.YtjefklagedidmaaGreatP1
import Derived.Deep.RegionWith
import Derived.Deep.RegionHeld3
namespace Go.Proofs.YtjefklagedidmaaGreat
open Go.RowKit

/-- Two skeletons joined: Gaps that meet are one. -/
def jn2 (a b : List Int) : List Int := if a.getLast? = some 256 ∧ b.head? = some 256 then a ++ b.tail else a ++ b
theorem jn2_yes {a b : List Int} (h : a.getLast? = some 256 ∧ b.head? = some 256) : jn2 a b = a ++ b.tail := if_pos h
theorem jn2_no {a b : List Int} (h : ¬ (a.getLast? = some 256 ∧ b.head? = some 256)) : jn2 a b = a ++ b := if_neg h
/-- Every one of the first joined with every one of the second. -/
def prd (A B : List (List Int)) : List (List Int) := A.flatMap (fun a => B.map (jn2 a))
theorem mem_prd {A B : List (List Int)} {z : List Int} : z ∈ prd A B ↔ ∃ a, a ∈ A ∧ ∃ b, b ∈ B ∧ jn2 a b = z := by
  unfold prd
  simp only [List.mem_flatMap, List.mem_map]

theorem last_at {a : List Int} (h : 0 < a.length) : a.getLast? = some (a[a.length - 1]?.getD 0) := by
  rw [List.getLast?_eq_getElem?, List.getElem?_eq_getElem (by omega)]
  rfl
theorem head_at {a : List Int} (h : 0 < a.length) : a.head? = some (a[0]?.getD 0) := by
  cases a with
  | nil => simp at h
  | cons x a => rfl
/-- What is joined of b when the first k are through. -/
def jpt (a b : List Int) (k : Nat) : List Int := jn2 a (b.take k)
theorem jpt_zero (a b : List Int) : jpt a b 0 = a := by unfold jpt jn2; simp
theorem jpt_all (a b : List Int) : jpt a b b.length = jn2 a b := by unfold jpt; rw [List.take_length]
theorem jpt_skip {a b : List Int} (hb : 0 < b.length) (h1 : a.getLast? = some 256) (h2 : b.head? = some 256) : jpt a b 1 = a := by
  unfold jpt jn2
  cases b with
  | nil => simp at hb
  | cons x b =>
    have : x = 256 := by simpa using h2
    subst this
    simp [h1]
theorem jpt_next {a b : List Int} {k : Nat} (hk : k < b.length) (h : ¬ (k = 0 ∧ a.getLast? = some 256 ∧ b.head? = some 256)) : jpt a b (k + 1) = jpt a b k ++ [b[k]?.getD 0] := by
  unfold jpt
  have e : b.take (k + 1) = b.take k ++ [b[k]?.getD 0] := by rw [List.take_add_one, List.getElem?_eq_getElem hk]; rfl
  cases b with
  | nil => simp at hk
  | cons x b =>
    by_cases k0 : k = 0
    · subst k0
      unfold jn2
      simp only [Nat.zero_add, List.take_succ_cons, List.take_zero, List.head?_cons, List.head?_nil, List.append_nil]
      rw [if_neg (fun g => h ⟨rfl, g.1, g.2⟩), if_neg (fun g => by simp at g)]
      rfl
    · obtain ⟨m, rfl⟩ : ∃ m, k = m + 1 := ⟨k - 1, by omega⟩
      rw [e]
      by_cases g : a.getLast? = some 256 ∧ some x = some 256
      · rw [jn2_yes (by simpa using g), jn2_yes (by simpa using g)]; simp
      · rw [jn2_no (by simpa using g), jn2_no (by simpa using g)]; simp
theorem jpt_len (a b : List Int) (k : Nat) : (jpt a b k).length ≤ a.length + k := by
  unfold jpt jn2
  split <;> simp <;> omega

theorem lexc_tri (a b : List Int) : lexc a b < 0 ∨ a = b ∨ lexc b a < 0 := by
  have hs := lexc_swap a b
  by_cases e : lexc a b = 0
  · exact Or.inr (Or.inl (lexc_zero.1 e))
  · rcases Int.lt_or_gt_of_ne e with h | h
    · exact Or.inl h
    · exact Or.inr (Or.inr (by omega))
theorem LAsc.nodup {D : List (List Int)} (h : LAsc D) : D.Nodup := List.Pairwise.imp (fun {a b} h e => by subst e; rw [lexc_zero.2 rfl] at h; omega) h
theorem lasc_put : ∀ (D : List (List Int)) (x : List Int), LAsc D → ∃ D', LAsc D' ∧ ∀ z, z ∈ D' ↔ z ∈ D ∨ z = x
  | [], x, _ => ⟨[x], List.pairwise_singleton _ _, by simp⟩
  | d :: D, x, h => by
    obtain ⟨h1, h2⟩ := List.pairwise_cons.1 h
    rcases lexc_tri d x with g | g | g
    · obtain ⟨D', k1, k2⟩ := lasc_put D x h2
      refine ⟨d :: D', List.pairwise_cons.2 ⟨fun z hz => ?_, k1⟩, fun z => by simp only [List.mem_cons, k2, or_assoc]⟩
      rcases (k2 z).1 hz with m | rfl
      · exact h1 z m
      · exact g
    · subst g
      exact ⟨d :: D, h, fun z => ⟨Or.inl, fun m => m.elim id (fun e => by rw [e]; exact List.mem_cons_self)⟩⟩
    · refine ⟨x :: d :: D, List.pairwise_cons.2 ⟨fun z hz => ?_, h⟩, fun z => by simp only [List.mem_cons]; constructor <;> (rintro (h | h | h) <;> simp [h])⟩
      rcases List.mem_cons.1 hz with rfl | m
      · exact g
      · exact lexc_trans g (h1 z m)
theorem lasc_of : ∀ L : List (List Int), ∃ D, LAsc D ∧ ∀ z, z ∈ D ↔ z ∈ L
  | [] => ⟨[], List.Pairwise.nil, by simp⟩
  | x :: L => by
    obtain ⟨D, h1, h2⟩ := lasc_of L
    obtain ⟨D', k1, k2⟩ := lasc_put D x h1
    exact ⟨D', k1, fun z => by rw [k2, h2, List.mem_cons, or_comm]⟩

/-- Too many, or one too long. -/
def Ovr (D : List (List Int)) : Prop := 50 < D.length ∨ ∃ x, x ∈ D ∧ 60 < x.length
theorem Ovr.mono {D E : List (List Int)} (h : Ovr D) (hD : D.Nodup) (hs : ∀ z, z ∈ D → z ∈ E) : Ovr E := by
  rcases h with h | ⟨x, h1, h2⟩
  · exact Or.inl (Nat.lt_of_lt_of_le h (hD.length_le_of_subset hs))
  · exact Or.inr ⟨x, hs x h1, h2⟩

/-- S is the set of a subtree whose candidates are L. -/
def CutR (L S : List (List Int)) : Prop := ∃ D, LAsc D ∧ (∀ z, z ∈ D ↔ z ∈ L) ∧ ((Ovr D ∧ S = [[256]]) ∨ (¬ Ovr D ∧ S = D))
theorem CutR.uniq {L S S' : List (List Int)} (h : CutR L S) (k : CutR L S') : S = S' := by
  obtain ⟨D, h1, h2, h3⟩ := h
  obtain ⟨E, k1, k2, k3⟩ := k
  obtain rfl := lasc_uniq h1 k1 (fun z => (h2 z).trans (k2 z).symm)
  rcases h3 with ⟨h3, rfl⟩ | ⟨h3, rfl⟩ <;> rcases k3 with ⟨k3, rfl⟩ | ⟨k3, rfl⟩
  · rfl
  · exact absurd h3 k3
  · exact absurd k3 h3
  · rfl
theorem CutR.same {L L' S : List (List Int)} (h : CutR L S) (hm : ∀ z, z ∈ L ↔ z ∈ L') : CutR L' S := by
  obtain ⟨D, h1, h2, h3⟩ := h
  exact ⟨D, h1, fun z => (h2 z).trans (hm z), h3⟩
theorem CutR.lasc {L S : List (List Int)} (h : CutR L S) : LAsc S := by
  obtain ⟨D, h1, h2, ⟨h3, rfl⟩ | ⟨h3, rfl⟩⟩ := h
  · exact List.pairwise_singleton _ _
  · exact h1
theorem CutR.small {L S : List (List Int)} (h : CutR L S) : S.length ≤ 50 ∧ ∀ x, x ∈ S → x.length ≤ 60 := by
  obtain ⟨D, h1, h2, ⟨h3, rfl⟩ | ⟨h3, rfl⟩⟩ := h
  · exact ⟨by decide, by simp⟩
  · exact ⟨Nat.le_of_not_lt (fun h => h3 (Or.inl h)), fun x hx => Nat.le_of_not_lt (fun h => h3 (Or.inr ⟨x, hx, h⟩))⟩

/-- The program's set behind the candidates L; c: whether a limit has closed it. -/
def AddS (L S : List (List Int)) (c : Bool) : Prop := ∃ D, LAsc D ∧ (∀ z, z ∈ D ↔ z ∈ L) ∧ ((c = true ∧ Ovr D ∧ S = [[256]]) ∨ (c = false ∧ ¬ Ovr D ∧ S = D))
theorem AddS.nil : AddS [] [] false := ⟨[], List.Pairwise.nil, by simp, Or.inr ⟨rfl, fun h => by rcases h with h | ⟨x, h, -⟩ <;> simp at h, rfl⟩⟩
theorem AddS.cut {L S : List (List Int)} {c : Bool} (h : AddS L S c) : CutR L S := by
  obtain ⟨D, h1, h2, h3⟩ := h
  exact ⟨D, h1, h2, h3.imp (fun h => h.2) (fun h => h.2)⟩
theorem AddS.same {L L' S : List (List Int)} {c : Bool} (h : AddS L S c) (hm : ∀ z, z ∈ L ↔ z ∈ L') : AddS L' S c := by
  obtain ⟨D, h1, h2, h3⟩ := h
  exact ⟨D, h1, fun z => (h2 z).trans (hm z), h3⟩
theorem AddS.more {L S : List (List Int)} (h : AddS L S true) (M : List (List Int)) : AddS (L ++ M) S true := by
  obtain ⟨D, h1, h2, h3⟩ := h
  rcases h3 with ⟨-, h4, rfl⟩ | ⟨h, -⟩
  · obtain ⟨E, k1, k2⟩ := lasc_of (L ++ M)
    exact ⟨E, k1, k2, Or.inl ⟨rfl, h4.mono h1.nodup (fun z hz => (k2 z).2 (List.mem_append_left _ ((h2 z).1 hz))), rfl⟩⟩
  · cases h
theorem AddS.known {L S : List (List Int)} {x : List Int} (h : AddS L S false) (hx : x ∈ S) : AddS (L ++ [x]) S false := by
  obtain ⟨D, h1, h2, h3⟩ := h
  rcases h3 with ⟨h, -⟩ | ⟨-, h4, rfl⟩
  · cases h
  · exact ⟨S, h1, fun z => by
      rw [List.mem_append, List.mem_singleton, ← h2]
      exact ⟨Or.inl, fun h => h.elim id (fun e => by rw [e]; exact hx)⟩, Or.inr ⟨rfl, h4, rfl⟩⟩
theorem AddS.over {L S : List (List Int)} {x : List Int} (h : AddS L S false) (hx : x ∉ S) (ho : 60 < x.length ∨ S.length = 50) : AddS (L ++ [x]) [[256]] true := by
  obtain ⟨D, h1, h2, h3⟩ := h
  rcases h3 with ⟨h, -⟩ | ⟨-, h4, rfl⟩
  · cases h
  · obtain ⟨E, k1, k2⟩ := lasc_of (L ++ [x])
    refine ⟨E, k1, k2, Or.inl ⟨rfl, ?_, rfl⟩⟩
    rcases ho with ho | ho
    · exact Or.inr ⟨x, (k2 x).2 (by simp), ho⟩
    · refine Or.inl ?_
      have hn : (x :: S).Nodup := List.nodup_cons.2 ⟨hx, h1.nodup⟩
      have := hn.length_le_of_subset (l₂ := E) (fun z hz => (k2 z).2 (by
        rcases List.mem_cons.1 hz with rfl | hz
        · simp
        · exact List.mem_append_left _ ((h2 z).1 hz)))
      simp at this
      omega
theorem AddS.ins {L S S' : List (List Int)} {x : List Int} (h : AddS L S false) (hl : x.length ≤ 60) (hn : S.length < 50) (hS : LAsc S') (hlen : S'.length = S.length + 1) (hm : ∀ z, z ∈ S' ↔ z ∈ S ∨ z = x) : AddS (L ++ [x]) S' false := by
  obtain ⟨D, h1, h2, h3⟩ := h
  rcases h3 with ⟨h, -⟩ | ⟨-, h4, rfl⟩
  · cases h
  · refine ⟨S', hS, fun z => by rw [hm, List.mem_append, List.mem_singleton, h2], Or.inr ⟨rfl, fun h => ?_, rfl⟩⟩
    rcases h with h | ⟨y, hy, hy2⟩
    · omega
    · rcases (hm y).1 hy with hy | rfl
      · exact h4 (Or.inr ⟨y, hy, hy2⟩)
      · omega

/-- The model's list behind the candidates L. -/
structure OutS (L out : List (List Int)) : Prop where
  nodup : out.Nodup
  sub : ∀ z, z ∈ out → z ∈ L
  len : out.length ≤ 51
  all : out.length ≤ 50 → ∀ z, z ∈ L → z ∈ out
theorem OutS.nil : OutS [] [] := ⟨List.Pairwise.nil, by simp, by simp, by simp⟩
theorem OutS.full {L out : List (List Int)} (h : OutS L out) (hf : 50 < out.length) (x : List Int) : OutS (L ++ [x]) out := ⟨h.nodup, fun z hz => List.mem_append_left _ (h.sub z hz), h.len, fun h => by omega⟩
theorem OutS.known {L out : List (List Int)} {x : List Int} (h : OutS L out) (hx : x ∈ out) : OutS (L ++ [x]) out := ⟨h.nodup, fun z hz => List.mem_append_left _ (h.sub z hz), h.len, fun h5 z hz => by
  rcases List.mem_append.1 hz with hz | hz
  · exact h.all h5 z hz
  · rw [List.mem_singleton.1 hz]; exact hx⟩
theorem OutS.new {L out : List (List Int)} {x : List Int} (h : OutS L out) (hl : out.length ≤ 50) (hx : x ∉ out) : OutS (L ++ [x]) (out ++ [x]) := ⟨List.nodup_append.2 ⟨h.nodup, List.pairwise_singleton _ _, fun a ha b hb e => by rw [List.mem_singleton.1 hb] at e; rw [e] at ha; exact hx ha⟩, fun z hz => by
  rcases List.mem_append.1 hz with hz | hz
  · exact List.mem_append_left _ (h.sub z hz)
  · exact List.mem_append_right _ hz, by simp; omega, fun _ z hz => by
  rcases List.mem_append.1 hz with hz | hz
  · exact List.mem_append_left _ (h.all hl z hz)
  · exact List.mem_append_right _ hz⟩
theorem OutS.gap {L out : List (List Int)} (h : OutS L out) (ho : Ovr out) : CutR L [[256]] := by
  obtain ⟨D, h1, h2⟩ := lasc_of L
  exact ⟨D, h1, h2, Or.inl ⟨ho.mono h.nodup (fun z hz => (h2 z).2 (h.sub z hz)), rfl⟩⟩
theorem OutS.fit {L out : List (List Int)} (h : OutS L out) (ho : ¬ Ovr out) : ∃ S, CutR L S ∧ out.Perm S := by
  obtain ⟨D, h1, h2⟩ := lasc_of L
  have hl : out.length ≤ 50 := Nat.le_of_not_lt (fun h => ho (Or.inl h))
  have hp : out.Perm D := (List.perm_ext_iff_of_nodup h.nodup h1.nodup).2 (fun z => ⟨fun hz => (h2 z).2 (h.sub z hz), fun hz => h.all hl z ((h2 z).1 hz)⟩)
  refine ⟨D, ⟨D, h1, h2, Or.inr ⟨fun h5 => ho ?_, rfl⟩⟩, hp⟩
  exact h5.mono h1.nodup (fun z hz => hp.mem_iff.2 hz)

end Go.Proofs.YtjefklagedidmaaGreat

namespace Go.Proofs.YtjefklagedidmaaGreat
open Go.RowKit

theorem lasc_get {xss : List (List Int)} (h : LAsc xss) {i j : Nat} (hij : i < j) (hj : j < xss.length) : lexc (xss[i]?.getD []) (xss[j]?.getD []) < 0 := by
  rw [List.getElem?_eq_getElem (by omega), List.getElem?_eq_getElem hj]
  exact List.pairwise_iff_getElem.1 h i j (by omega) hj hij
/-- Where x stands, or would stand, in an ascending list. -/
structure Place (xss : List (List Int)) (x : List Int) (k : Nat) : Prop where
  le : k ≤ xss.length
  lo : ∀ t : Nat, t < k → lexc (xss[t]?.getD []) x < 0
  hi : ∀ t : Nat, k ≤ t → t < xss.length → 0 ≤ lexc (xss[t]?.getD []) x
theorem Place.mem {xss : List (List Int)} {x : List Int} {k : Nat} (h : Place xss x k) (ha : LAsc xss) : x ∈ xss ↔ k < xss.length ∧ lexc (xss[k]?.getD []) x = 0 := by
  constructor
  · intro hx
    obtain ⟨t, ht, e⟩ := List.mem_iff_getElem.1 hx
    have hz : lexc (xss[t]?.getD []) x = 0 := by rw [List.getElem?_eq_getElem ht]; exact lexc_zero.2 e
    have hkt : k ≤ t := Nat.le_of_not_lt (fun h2 => by have := h.lo t h2; omega)
    by_cases e2 : k = t
    · subst e2
      exact ⟨ht, hz⟩
    · exfalso
      have h1 := lasc_get ha (i := k) (j := t) (by omega) ht
      have h2 := h.hi k (Nat.le_refl _) (by omega)
      rw [lexc_zero.1 hz] at h1
      omega
  · rintro ⟨h1, h2⟩
    rw [← lexc_zero.1 h2, List.getElem?_eq_getElem h1]
    exact List.getElem_mem h1

/-- What BinarySearchFunc answers. -/
def BsR (e : Ending) (xss : List (List Int)) (x : List Int) : Prop := ∃ (k : Nat) (b : Bool), e = .returned (.tuple #[.int .i64 k, .bool b]) ∧ Place xss x k ∧ (b = true ↔ x ∈ xss)

set_option maxHeartbeats 4000000 in
set_option maxRecDepth 100000 in
theorem bsf_any (u tv : Value) (xss : List (List Int)) (x : List Int) (w : World) (hu : SsAt mI 0 w.heap.size w u xss) (hx : SlAt mI 0 0 w.heap.size w tv x) (ha : LAsc xss) (hl : xss.length ≤ 1000) :
    Calls Tryz.prog 90 #[u, tv, .func (.func 42) #[] #[]] w fun e w' => BsR e xss x ∧ w' = w := by
  have HU := hide hu
  have HX := hide hx
  have HA := hide ha
  obtain ⟨a, cap, rfl, hcl, -⟩ := hu
  obtain ⟨ta, tc, rfl, -⟩ := hx
  unfold maxLen at hcl
  clear ha
  go_enter Tryz.func90, Tryz.ntmps90
  go_wp2_with fail
  go_loopw [9, 10] (fun iv jv wr => (∃ i j : Nat, iv = .int .i64 (i : Nat) ∧ jv = .int .i64 (j : Nat) ∧ i ≤ j ∧ j ≤ xss.length ∧ (∀ t : Nat, t < i → lexc (xss[t]?.getD []) x < 0) ∧ (∀ t : Nat, j ≤ t → t < xss.length → 0 ≤ lexc (xss[t]?.getD []) x)) ∧ wr = w) (fun iv jv _ => (intOf jv).toNat - (intOf iv).toNat)
  case atStart => exact ⟨⟨0, xss.length, rfl, rfl, Nat.zero_le _, Nat.le_refl _, fun t ht => absurd ht (Nat.not_lt_zero _), fun t h1 h2 => by omega⟩, rfl⟩
  case round =>
    obtain ⟨⟨i, j, rfl, rfl, hij, hjn, hlo, hhi⟩, rfl⟩ := hrel
    have HLO := hide hlo
    have HHI := hide hhi
    clear hlo hhi
    by_cases hlt : i < j
    · have hlt' : (i : Int) < (j : Int) := by omega
      obtain ⟨h, hh⟩ : ∃ h : Nat, ((i : Int) + (j : Int)) / 2 = (h : Int) := ⟨(i + j) / 2, by omega⟩
      have hih : i ≤ h := by omega
      have hhj : h < j := by omega
      have hhn : (h : Int) < (xss.length : Int) := by omega
      obtain ⟨_, _, e1, -, hc⟩ := unhide HU
      cases e1
      obtain ⟨b, off, rfl, -, hcell⟩ := hc (by omega)
      obtain ⟨s, hxc, hs, -⟩ := hcell h (by omega)
      have Hs := hide hs
      obtain ⟨sa, sc, rfl, -, -⟩ := hs
      have HLE : Hid (∀ t : Nat, t ≤ h → h < xss.length → lexc (xss[h]?.getD []) x < 0 → lexc (xss[t]?.getD []) x < 0) := fun t t1 t2 t3 => by
        by_cases e : t = h
        · rw [e]; exact t3
        · exact lexc_trans (lasc_get (unhide HA) (i := t) (j := h) (by omega) t2) t3
      have HGE : Hid (∀ t : Nat, h ≤ t → t < xss.length → 0 ≤ lexc (xss[h]?.getD []) x → 0 ≤ lexc (xss[t]?.getD []) x) := fun t t1 t2 t3 => by
        by_cases e : t = h
        · rw [e]; exact t3
        · refine Int.not_lt.1 (fun t4 => ?_)
          have := lexc_trans (lasc_get (unhide HA) (i := h) (j := t) (by omega) t2) t4
          omega
      have HH := hide hh
      clear hcell hc
      generalize xss[h]?.getD [] = z at *
      go_wp2_with fail
      refine (compare_any _ _ z x wr (unhide Hs) (unhide HX)).mono ?_
      rintro e w1 ⟨rfl, rfl⟩
      by_cases hc : lexc z x < 0
      · have HC := hide hc
        go_wp2
        go_roundw
        case rel => exact ⟨⟨h + 1, j, by go_num, rfl, by omega, hjn, fun t ht => unhide HLE t (by omega) (by omega) (unhide HC), unhide HHI⟩, trivial⟩
        case measure => simp [intOf]; omega
      · have hc2 : 0 ≤ lexc z x := Int.not_lt.1 hc
        have HC := hide hc2
        go_wp2
        go_roundw
        case rel => exact ⟨⟨i, h, rfl, rfl, hih, by omega, unhide HLO, fun t t1 t2 => unhide HGE t t1 t2 (unhide HC)⟩, trivial⟩
        case measure => simp [intOf]; omega
    · obtain rfl : i = j := by omega
      have hlt' : ¬ (i : Int) < (i : Int) := by omega
      have hP : Place xss x i := ⟨hjn, unhide HLO, unhide HHI⟩
      have hmem := hP.mem (unhide HA)
      have HP := hide hP
      clear hP HLO HHI
      by_cases hin : i < xss.length
      · have hin' : (i : Int) < (xss.length : Int) := by omega
        obtain ⟨_, _, e1, -, hc⟩ := unhide HU
        cases e1
        obtain ⟨b, off, rfl, -, hcell⟩ := hc (by omega)
        obtain ⟨s, hxc, hs, -⟩ := hcell i hin
        have Hs := hide hs
        obtain ⟨sa, sc, rfl, -, -⟩ := hs
        clear hcell hc
        have HM := hide hmem
        clear hmem
        generalize hz : xss[i]?.getD [] = z at *
        have HZ := hide hz
        clear hz
        go_wp2_with fail
        refine (compare_any _ _ z x wr (unhide Hs) (unhide HX)).mono ?_
        rintro e w1 ⟨rfl, rfl⟩
        by_cases hc : lexc z x = 0
        · have HC := hide hc
          have hcb : (lexc z x == 0) = true := by simp [hc]
          go_wp2
          go_ret2
          exact ⟨⟨i, true, rfl, unhide HP, ⟨fun _ => (unhide HM).2 ⟨hin, unhide HC⟩, fun _ => rfl⟩⟩, rfl⟩
        · have HC := hide hc
          have hcb : (lexc z x == 0) = false := by simp [hc]
          go_wp2
          go_ret2
          exact ⟨⟨i, false, rfl, unhide HP, ⟨(fun h => by cases h), fun h => absurd ((unhide HM).1 h).2 (unhide HC)⟩⟩, rfl⟩
      · have hin' : ¬ (i : Int) < (xss.length : Int) := by omega
        have HM := hide hmem
        clear hmem
        go_wp2
        go_ret2
        exact ⟨⟨i, false, rfl, unhide HP, ⟨(fun h => by cases h), fun h => absurd ((unhide HM).1 h).1 hin⟩⟩, rfl⟩

end Go.Proofs.YtjefklagedidmaaGreat

namespace Go.Proofs.YtjefklagedidmaaGreat
open Go.RowKit

/-- What is left behind a list of n values: -1 where it does not reach. -/
def szR (left n : Int) : Int := if left < n then -1 else left - n

theorem szR_neg {left n : Int} (h : left < n) : szR left n = -1 := by unfold szR; rw [if_pos h]
theorem szR_pos {left n : Int} (h : n ≤ left) : szR left n = left - n := by unfold szR; rw [if_neg (by omega)]

/-- How many values a list of elements holds: the elements and the numbers of their sets. -/
def bulk : List El → Nat
  | [] => 0
  | x :: r => x.set.length + bulk r

set_option maxHeartbeats 400000 in
theorem szIntS_any (a : Option Addr) (len cap : Nat) (left : Int) (w : World) (hlen : len ≤ maxLen) (h0 : 0 ≤ left) (h1 : left ≤ 1048576) :
    Calls Tryz.prog 50 #[.slice a len cap, .int .i64 left] w fun e w' => e = .returned (.int .i64 (szR left len)) ∧ w' = w := by
  unfold maxLen at hlen
  by_cases hlt : left < (len : Int)
  · go_enter Tryz.func50, Tryz.ntmps50
    go_wp2
    go_ret
    exact ⟨ret_int (szR_neg hlt).symm, rfl⟩
  · have hlt' : (len : Int) ≤ left := by omega
    go_enter Tryz.func50, Tryz.ntmps50
    go_wp2
    go_ret
    exact ⟨ret_int (szR_pos hlt').symm, rfl⟩

set_option maxHeartbeats 400000 in
theorem szOp_any (a : Option Addr) (len cap : Nat) (k mn mx left : Int) (w : World) (hlen : len ≤ maxLen) (h0 : 0 ≤ left) (h1 : left ≤ 1048576) :
    Calls Tryz.prog 26 #[.agg #[.int .i64 k, .slice a len cap, .int .i64 mn, .int .i64 mx], .int .i64 left] w fun e w' => e = .returned (.int .i64 (szR left len)) ∧ Below w.heap.size w w' := by
  by_cases hlt : left < (len : Int)
  · have e := szR_neg hlt
    go_enter Tryz.func26, Tryz.ntmps26
    go_wp2_with (go_at_call 50; refine (szIntS_any _ _ _ _ _ hlen h0 h1).mono ?_; rintro e w' ⟨rfl, rfl⟩)
    go_ret
    exact ⟨ret_int e.symm, (Below.refl _ _).alloc (Nat.le_refl _) _⟩
  · have hlt' : (len : Int) ≤ left := by omega
    have e := szR_pos hlt'
    go_enter Tryz.func26, Tryz.ntmps26
    go_wp2_with (go_at_call 50; refine (szIntS_any _ _ _ _ _ hlen h0 h1).mono ?_; rintro e w' ⟨rfl, rfl⟩)
    go_ret
    exact ⟨ret_int e.symm, (Below.refl _ _).alloc (Nat.le_refl _) _⟩


theorem bulk_take_succ (xs : List El) (k : Nat) (h : k < xs.length) : bulk (xs.take (k + 1)) = bulk (xs.take k) + (xs[k]?.getD dE).set.length := by
  induction xs generalizing k with
  | nil => simp at h
  | cons x r ih =>
    cases k with
    | zero => simp [bulk]
    | succ k => simp only [List.take_succ_cons, bulk, List.getElem?_cons_succ]; rw [ih k (by simpa using h)]; omega

set_option maxHeartbeats 1000000 in
theorem szOpS_any (v : Value) (xs : List El) (left : Int) (w : World) (hv : ElsAt 0 w.heap.size w v xs) (h0 : 0 ≤ left) (h1 : left ≤ 1048576) :
    Calls Tryz.prog 13 #[v, .int .i64 left] w fun e w' => (∃ r : Int, e = .returned (.int .i64 r) ∧ (r = -1 ∨ (0 ≤ r ∧ r = left - xs.length - bulk xs))) ∧ Below w.heap.size w w' := by
  obtain ⟨a, cap, rfl, hlen, hc⟩ := hv
  unfold maxLen at hlen
  by_cases hlt : left < (xs.length : Int)
  · go_enter Tryz.func13, Tryz.ntmps13
    go_wp2
    go_ret
    exact ⟨⟨-1, rfl, Or.inl rfl⟩, Below.refl _ _⟩
  · have hlt' : (xs.length : Int) ≤ left := by omega
    go_enter Tryz.func13, Tryz.ntmps13
    go_wp2
    go_loopw [1, 5] (fun l i w' => ∃ k : Nat, k ≤ xs.length ∧ i = .int .i64 k ∧ l = .int .i64 (left - xs.length - bulk (xs.take k)) ∧ 0 ≤ left - xs.length - bulk (xs.take k) ∧ Below w.heap.size w w') (fun _ i _ => xs.length - (intOf i).toNat)
    case atStart => exact ⟨0, Nat.zero_le _, rfl, by simp [bulk], by simp [bulk]; omega, Below.refl _ _⟩
    case round =>
      obtain ⟨k, hk, rfl, rfl, hge, hb⟩ := hrel
      by_cases hlt2 : k < xs.length
      · obtain ⟨b, off, rfl, -, hbn, hel⟩ := hc (by omega)
        obtain ⟨i1, i2, i3, v, c0, c1, c2, c3, a', cap', rfl, hl', hr', hc'⟩ := (hel k hlt2).same (Same.of_below hb (Nat.le_refl _)) (Nat.zero_le _) hbn
        have hlt3 : (k : Int) < (xs.length : Int) := by omega
        have hsz := hb.size
        have HB := bulk_take_succ xs k hlt2
        generalize xs[k]?.getD dE = x at *
        generalize hL : left - (xs.length : Int) - (bulk (List.take k xs) : Int) = L at *
        have HL := hide hL
        have HB' := hide HB
        clear HB hL
        have hL1 : L ≤ 1048576 := by have := unhide HL; omega
        by_cases hx : L < (x.set.length : Int)
        · have hz := szR_neg hx
          go_wp2_with (go_at_call 26; refine (szOp_any _ _ _ _ _ _ _ _ hl' hge hL1).mono ?_; rintro e w1 ⟨rfl, hb1⟩)
          go_ret
          exact ⟨⟨-1, rfl, Or.inl rfl⟩, hb.trans (hb1.mono hsz)⟩
        · have hx' : (x.set.length : Int) ≤ L := by omega
          have hz := szR_pos hx'
          go_wp2_with (go_at_call 26; refine (szOp_any _ _ _ _ _ _ _ _ hl' hge hL1).mono ?_; rintro e w1 ⟨rfl, hb1⟩)
          go_roundw
          case rel => exact ⟨k + 1, by omega, by go_num, by have h1 := unhide HL; have h2 := unhide HB'; rw [h2]; congr 1; omega, by have h1 := unhide HL; have h2 := unhide HB'; rw [h2]; omega, hb.trans (hb1.mono hsz)⟩
          case measure => simp [intOf]; omega
      · have hlt3 : ¬ (k : Int) < (xs.length : Int) := by omega
        have hkk : k = xs.length := by omega
        subst hkk
        go_wp2
        go_ret
        exact ⟨⟨_, rfl, Or.inr ⟨by simpa using hge, by simp⟩⟩, hb⟩

end Go.Proofs.YtjefklagedidmaaGreat

namespace Go.Proofs.YtjefklagedidmaaGreat
open Go.RowKit

theorem Tryz.zinIntS : (Tryz.prog.info? 41).map (fun i => (i.zero, i.size, i.bytes)) = some (some (.slice none 0 0), 1, 24) := by kernel_rfl

set_option maxHeartbeats 1000000 in
theorem eqIntSS_w (u v : Value) (xss : List (List Int)) (w : World) (hu : SsAt mI 0 w.heap.size w u xss) (hv : SsAt mI 0 w.heap.size w v xss) :
    Calls Tryz.prog 21 #[u, v] w fun e w' => e = .returned (.bool true) ∧ Below w.heap.size w w' := by
  obtain ⟨a, cap, rfl, hl, hc⟩ := hu
  obtain ⟨a2, cap2, rfl, -, hc2⟩ := hv
  unfold maxLen at hl
  go_enter Tryz.func21, Tryz.ntmps21
  go_wp2
  go_loopw [5] (fun i wr => ∃ k : Nat, k ≤ xss.length ∧ i = .int .i64 k ∧ Below w.heap.size w wr) (fun i _ => xss.length - (intOf i).toNat)
  case atStart => exact ⟨0, Nat.zero_le _, rfl, Below.refl _ _⟩
  case round =>
    obtain ⟨k, hk, rfl, hb⟩ := hrel
    by_cases hlt : k < xss.length
    · obtain ⟨b, off, rfl, hbn, hcell⟩ := hc (by omega)
      obtain ⟨b2, off2, rfl, hbn2, hcell2⟩ := hc2 (by omega)
      obtain ⟨s, hx0, hs, -⟩ := hcell k hlt
      obtain ⟨s2, hx20, hs2, -⟩ := hcell2 k hlt
      have hx : wr.cell? ⟨b, off + k, none⟩ = some s := by rw [hb.cell (p := ⟨b, off + k, none⟩) hbn]; exact hx0
      have hx2 : wr.cell? ⟨b2, off2 + k, none⟩ = some s2 := by rw [hb.cell (p := ⟨b2, off2 + k, none⟩) hbn2]; exact hx20
      have hlt' : (k : Int) < (xss.length : Int) := by omega
      have Hs := hide (hs.below hb (Nat.le_refl _))
      have Hs2 := hide (hs2.below hb (Nat.le_refl _))
      obtain ⟨p, q, rfl, -, -⟩ := id hs
      obtain ⟨p2, q2, rfl, -, -⟩ := id hs2
      clear hcell hcell2 hc hc2 hs hs2 hx0 hx20
      generalize xss[k]?.getD [] = x at *
      go_wp2
      go_region_with (go_at_call 46; refine (eqIntS_w _ _ x _ (by exact unhide Hs) (by exact unhide Hs2)).mono ?_; rintro e w1 ⟨rfl, n, rfl⟩)
      all_goals
        go_wp2
        go_roundw
        case rel => exact ⟨k + 1, by omega, by go_num, below_drewN (by exact hb) _⟩
        case measure => simp [intOf]; omega
    · obtain rfl : k = xss.length := by omega
      clear hc hc2
      go_wp2
      go_ret
      exact ⟨rfl, hb⟩

set_option maxHeartbeats 1000000 in
set_option maxRecDepth 100000 in
theorem markIntSS_w (v : Value) (xss : List (List Int)) (k : Int) (S : Nat → Prop) (w : World) (hv : SsF mI 0 S w v xss) (k0 : 0 ≤ k) (k1 : k ≤ 4194304) (hlen : tot xss ≤ 4194304) :
    Calls Tryz.prog 24 #[v, .int .i64 k] w fun e w' => e = .returned (.int .i64 (k + tot xss)) ∧ SsF mI 0 S w' v (marksL cnts k xss) ∧ ChgF S w w' := by
  obtain ⟨a, cap, rfl, hl, hc⟩ := hv
  by_cases hp : 0 < xss.length
  · obtain ⟨b, off, sv, T, rfl, h1, h2, h3, h4, h5, h6⟩ := hc hp
    have Hst0 : Hid (MkS mI 0 S w w (marksL cnts k xss) xss b off sv T 0) := ⟨h2, h3, fun i hi => by unfold mixL; rw [if_neg (by omega)]; exact h4 i hi, ChgF.refl _ _⟩
    have H5 := hide h5
    have H6 := hide h6
    clear hc h2 h3 h4 h5 h6
    unfold maxLen at hl
    go_enter Tryz.func24, Tryz.ntmps24
    go_wp2
    go_loopw [1, 5] (fun q i wr => ∃ m : Nat, m ≤ xss.length ∧ i = .int .i64 m ∧ q = .int .i64 (k + tot (xss.take m)) ∧ MkS mI 0 S w wr (marksL cnts k xss) xss b off sv T m) (fun _ i _ => xss.length - (intOf i).toNat)
    case atStart => exact ⟨0, Nat.zero_le _, rfl, by simp [tot], unhide Hst0⟩
    case round =>
      obtain ⟨m, hm, rfl, rfl, hmk⟩ := hrel
      have Hmk := hide hmk
      have ht := tot_take xss m
      by_cases hlt : m < xss.length
      · obtain ⟨-, hq3, hq4, -⟩ := hmk
        have hc3 := hq3 m hlt
        have hc4 := (hq4 m hlt).1
        unfold mixL at hc4
        rw [if_neg (by omega)] at hc4
        have hlt' : (m : Int) < (xss.length : Int) := by omega
        have hse := tot_get xss m
        have Hstep := hide (tot_step xss m hlt)
        have Hget := hide (marksL_get cnts k xss m hlt)
        obtain ⟨sa, sc, hsv⟩ := hc4.val
        rw [hsv] at hc3
        obtain ⟨lo, n, hw, hT⟩ := hc4
        rw [hsv] at hw
        have Hw := hide hw
        have HT := hide hT
        have Hsv := hide hsv
        clear hq3 hq4 hsv hw hT
        generalize hK : k + (tot (xss.take m) : Int) = K at *
        have HK := hide hK
        have hK1 : 0 ≤ K := by omega
        have hK2 : K ≤ 8388608 := by omega
        clear hK
        generalize hX : xss[m]?.getD [] = x at *
        have HX := hide hX
        clear hX
        go_wp2_with fail
        refine (markIntS_any _ x K lo n _ (unhide Hw) (by omega) (by omega) (by omega)).mono ?_
        rintro e w1 ⟨rfl, hs1, hc1⟩
        have hst := hide (mkS_step (unhide Hmk) hlt (unhide H5) (unhide H6) (hc1.foot (unhide HT)) (by rw [unhide Hget, unhide Hsv]; exact ⟨lo, n, hs1, unhide HT⟩))
        clear hs1 hc1
        go_wp2
        exact ⟨⟨m + 1, by omega, by go_num, by rw [unhide Hstep, ← unhide HK]; congr 1; omega, unhide hst⟩, by simp [intOf]; omega⟩
      · obtain rfl : m = xss.length := by omega
        clear hmk
        go_wp2
        go_ret
        obtain ⟨q2, q3, q4, q8⟩ := unhide Hmk
        refine ⟨ret_int (by rw [List.take_length]), ⟨_, cap, by rw [marksL_len], by rw [marksL_len]; unfold maxLen; exact hl, fun _ => ⟨b, off, sv, T, rfl, h1, q2, fun i hi => q3 i (by rwa [marksL_len] at hi), fun i hi => ?_, fun i hi => unhide H5 i (by rwa [marksL_len] at hi), fun i j hi hj hne => unhide H6 i j (by rwa [marksL_len] at hi) (by rwa [marksL_len] at hj) hne⟩⟩, q8⟩
        rw [marksL_len] at hi
        have := q4 i hi
        unfold mixL at this
        rwa [if_pos hi] at this
  · obtain rfl : xss = [] := List.eq_nil_of_length_eq_zero (by omega)
    clear hc
    go_enter Tryz.func24, Tryz.ntmps24
    go_wp2
    go_loop [1, 5] (fun q i => q = .int .i64 k ∧ i = .int .i64 0) (fun _ _ => 0)
    case atStart => exact ⟨rfl, rfl⟩
    case round =>
      obtain ⟨rfl, rfl⟩ := hrel
      go_wp2
      go_ret
      exact ⟨ret_int (by simp [tot]), ⟨a, cap, rfl, hl, fun h => absurd h (by simp [marksL])⟩, ChgF.refl _ _⟩

set_option maxHeartbeats 1000000 in
set_option maxRecDepth 100000 in
theorem heldIntSS_w (v : Value) (xss : List (List Int)) (k : Int) (w : World) (hv : SsAt mI 0 w.heap.size w v (marksL cnts k xss)) (k0 : 0 ≤ k) (k1 : k ≤ 4194304) (hlen : tot xss ≤ 4194304) :
    Calls Tryz.prog 25 #[v, .int .i64 k] w fun e w' => e = .returned (.int .i64 (k + tot xss)) ∧ w' = w := by
  obtain ⟨a, cap, rfl, hl, hc⟩ := hv
  rw [marksL_len] at hc hl ⊢
  have Hc := hide hc
  clear hc
  unfold maxLen at hl
  go_enter Tryz.func25, Tryz.ntmps25
  go_wp2
  go_loop [1, 5] (fun q i => ∃ m : Nat, m ≤ xss.length ∧ i = .int .i64 m ∧ q = .int .i64 (k + tot (xss.take m))) (fun _ i => xss.length - (intOf i).toNat)
  case atStart => exact ⟨0, Nat.zero_le _, rfl, by simp [tot]⟩
  case round =>
    obtain ⟨m, hm, rfl, rfl⟩ := hrel
    have ht := tot_take xss m
    by_cases hlt : m < xss.length
    · obtain ⟨b, off, rfl, hbn, hcell⟩ := unhide Hc (by omega)
      obtain ⟨s, hx, hs, -⟩ := hcell m hlt
      rw [marksL_get cnts k xss m hlt] at hs
      have hlt' : (m : Int) < (xss.length : Int) := by omega
      have hse := tot_get xss m
      have Hstep := hide (tot_step xss m hlt)
      generalize hK : k + (tot (xss.take m) : Int) = K at *
      have HK := hide hK
      have hK1 : 0 ≤ K := by omega
      have hK2 : K ≤ 8388608 := by omega
      have Hs := hide hs
      obtain ⟨sa, sc, rfl, -, -⟩ := id hs
      rw [cnts_len] at hx Hs
      clear hcell hK hs
      generalize xss[m]?.getD [] = x at *
      go_wp2_with fail
      refine (heldIntS_any _ x.length K _ _ _ (unhide Hs) (by omega) (by omega) (by omega)).mono ?_
      rintro e w1 ⟨rfl, rfl⟩
      go_wp2
      go_round
      case rel => exact ⟨m + 1, by omega, by go_num, by rw [unhide Hstep, ← unhide HK]; congr 1; omega⟩
      case measure => simp [intOf]; omega
    · obtain rfl : m = xss.length := by omega
      go_wp2
      go_ret
      exact ⟨ret_int (by simp), rfl⟩

end Go.Proofs.YtjefklagedidmaaGreat

namespace Go.Proofs.YtjefklagedidmaaGreat
open Go.RowKit

/-- What has come: in order, each once, and the same lists. -/
structure OL (xss : List (List Int)) (ps : List (Cl Int)) : Prop where
  asc : LAsc (ps.map Cl.xs)
  mem : ∀ z, z ∈ ps.map Cl.xs ↔ z ∈ xss

theorem l3less_yes (u v : Value) (xs ys : List Int) (w : World) (hu : SlAt mI 0 0 w.heap.size w u xs) (hv : SlAt mI 0 0 w.heap.size w v ys) (h : lexc xs ys < 0) :
    Calls Tryz.prog 52 #[u, v] w fun e w' => e = .returned (.bool true) ∧ ∃ q, w' = w.drewN q :=
  (l3less_any u v xs ys w hu hv).mono (fun _ _ ⟨h1, h2⟩ => ⟨by
    rcases h1.cases with ⟨h3, -⟩ | ⟨-, h4⟩
    · exact h3
    · exact absurd h h4, h2⟩)
theorem l3less_no (u v : Value) (xs ys : List Int) (w : World) (hu : SlAt mI 0 0 w.heap.size w u xs) (hv : SlAt mI 0 0 w.heap.size w v ys) (h : 0 ≤ lexc xs ys) :
    Calls Tryz.prog 52 #[u, v] w fun e w' => e = .returned (.bool false) ∧ ∃ q, w' = w.drewN q :=
  (l3less_any u v xs ys w hu hv).mono (fun _ _ ⟨h1, h2⟩ => ⟨by
    rcases h1.cases with ⟨-, h4⟩ | ⟨h3, -⟩
    · omega
    · exact h3, h2⟩)
theorem l1same_yes (u v : Value) (xs ys : List Int) (w : World) (hu : SlAt mI 0 0 w.heap.size w u xs) (hv : SlAt mI 0 0 w.heap.size w v ys) (h : xs = ys) :
    Calls Tryz.prog 53 #[u, v] w fun e w' => e = .returned (.bool true) ∧ ∃ q, w' = w.drewN q :=
  (l1same_any u v xs ys w hu hv).mono (fun _ _ ⟨h1, h2⟩ => ⟨by
    rcases h1.cases with ⟨h3, -⟩ | ⟨-, h4⟩
    · exact h3
    · exact absurd h h4, h2⟩)
theorem l1same_no (u v : Value) (xs ys : List Int) (w : World) (hu : SlAt mI 0 0 w.heap.size w u xs) (hv : SlAt mI 0 0 w.heap.size w v ys) (h : ¬ xs = ys) :
    Calls Tryz.prog 53 #[u, v] w fun e w' => e = .returned (.bool false) ∧ ∃ q, w' = w.drewN q :=
  (l1same_any u v xs ys w hu hv).mono (fun _ _ ⟨h1, h2⟩ => ⟨by
    rcases h1.cases with ⟨-, h4⟩ | ⟨h3, -⟩
    · exact absurd h4 h
    · exact h3, h2⟩)

theorem dC_ok (w : World) : dC.ok mI 0 3 w := ⟨none, 0, rfl, ⟨Nat.le_refl _, Nat.zero_le _⟩, fun h => absurd h (by simp [dC])⟩

/-- A list put in at its place. -/
theorem ins_done {base g cap at' : Nat} {w3 wr2 w5 : World} {ps : List (Cl Int)} {cv : Value} {x : List Int} (h3 : LL mI 0 3 41 base w3 (.slice (some ⟨g, 0, none⟩) (ps.length + 1) cap) (ps ++ [dC])) (hbase : base ≤ w3.heap.size)
    (hown2 : wr2.ownsRow base 41 1 (.slice (some ⟨g, 0, none⟩) (ps.length + 1) cap) (ps.length + 1) ((hole ps dC at').map Cl.v)) (hch : ChgF (fun k => k = g) w3 wr2) (hb5 : Below wr2.heap.size wr2 w5)
    (hc : w5.ownsRow wr2.heap.size 3 1 cv x.length (x.map mI)) (hat : at' ≤ ps.length) :
    ∃ c : Cl Int, c.xs = x ∧ LL mI 0 3 41 base (w5.setCell ⟨g, at', none⟩ cv) (.slice (some ⟨g, 0, none⟩) (ps.length + 1) cap) (ps.take at' ++ c :: ps.drop at') ∧ Below base w3 (w5.setCell ⟨g, at', none⟩ cv) := by
  obtain ⟨b, hok, hlo⟩ := own_cl hc
  have hgl : g < w3.heap.size := (h3.own.lt g rfl).2
  have hbg : base ≤ g := (h3.own.lt g rfl).1
  have hz2 := hch.size
  have hz5 := hb5.size
  have hold : ∀ p ∈ ps, p.ok mI 0 3 (w5.setCell ⟨g, at', none⟩ cv) := fun p hp => by
    have hp' : p ∈ ps ++ [dC] := List.mem_append_left _ hp
    have hk := h3.ok p hp'
    refine hk.same (fun hp0 => ?_)
    have hne : p.b ≠ g := fun e => h3.not_row (by decide) hk rfl hp0 (by rw [e]; rfl)
    have hlt := hk.lt hp0
    rw [Below.heap_setCell _ _ _ _ (by exact hne), hb5.block p.b (by omega), hch.block p.b hne]
  have hnew : Cl.ok mI 0 3 (w5.setCell ⟨g, at', none⟩ cv) ⟨cv, x, b⟩ := hok.same (fun hp0 => by
    have := hlo hp0
    exact Below.heap_setCell _ _ _ _ (by show b ≠ g; omega))
  refine ⟨⟨cv, x, b⟩, rfl, ⟨?_, fun p hp => ?_, fun p hp hp0 => ?_, ?_⟩, ?_⟩
  · have h1 := own_set (u := cv) (k := at') (own_keep hown2 hb5 (Nat.le_refl _)) (by omega)
    have e : (ps.take at' ++ (⟨cv, x, b⟩ : Cl Int) :: ps.drop at').length = ps.length + 1 := by simp; omega
    rw [e]
    rw [show (List.map Cl.v (hole ps dC at')).set at' cv = ((hole ps dC at').set at' (⟨cv, x, b⟩ : Cl Int)).map Cl.v by rw [List.map_set], hole_fill ps dC _ hat] at h1
    exact h1
  · rcases List.mem_append.1 hp with hp | hp
    · exact hold p (List.mem_of_mem_take hp)
    · rcases List.mem_cons.1 hp with e | hp
      · rw [e]; exact hnew
      · exact hold p (List.mem_of_mem_drop hp)
  · have hl : ∀ q ∈ ps, 0 < q.xs.length → base ≤ q.b := fun q hq => h3.lo q (List.mem_append_left _ hq)
    rcases List.mem_append.1 hp with hp | hp
    · exact hl p (List.mem_of_mem_take hp) hp0
    · rcases List.mem_cons.1 hp with e | hp
      · rw [e] at hp0 ⊢
        have := hlo hp0
        show base ≤ b
        omega
      · exact hl p (List.mem_of_mem_drop hp) hp0
  · have ha : ApartC ps := (List.pairwise_append.1 h3.apart).1
    have hfar : ∀ q ∈ ps, 0 < q.xs.length → 0 < x.length → q.b ≠ b := fun q hq hq0 hx0 e => by
      have h1 := (h3.ok q (List.mem_append_left _ hq)).lt hq0
      have h2 := hlo hx0
      omega
    have ha' : ApartC (ps.take at' ++ ps.drop at') := by rw [List.take_append_drop]; exact ha
    obtain ⟨p1, p2, p3⟩ := List.pairwise_append.1 ha'
    refine List.pairwise_append.2 ⟨p1, List.pairwise_cons.2 ⟨fun q hq h1 h2 e => hfar q (List.mem_of_mem_drop hq) h2 h1 e.symm, p2⟩, fun q hq r hr => ?_⟩
    rcases List.mem_cons.1 hr with e | hr
    · subst e
      exact fun h1 h2 => hfar q (List.mem_of_mem_take hq) h1 h2
    · exact p3 q hq r hr
  · exact bput ((hch.below (lo := base) (fun k hk => by omega)).trans (hb5.mono (by omega))) hbg _

set_option maxHeartbeats 8000000 in
set_option maxRecDepth 100000 in
theorem orderLists_any (v : Value) (xss : List (List Int)) (w : World) (hv : SsAt mI 0 w.heap.size w v xss) (hl : xss.length ≤ 1048576) (ht : tot xss ≤ 1048576) :
    Calls Tryz.prog 28 #[v] w fun e w' => ∃ v' ps, e = .returned v' ∧ OL xss ps ∧ ps.length ≤ xss.length ∧ LL mI 0 3 41 w.heap.size w' v' ps ∧ Below w.heap.size w w' := by
  obtain ⟨i0, hi, hz0, hz1, hz2⟩ := info_parts Tryz.zinIntS
  have Hv := hide hv
  obtain ⟨a, cap, rfl, hml, -⟩ := hv
  unfold maxLen at hml
  go_enter Tryz.func28, Tryz.ntmps28
  go_wp2_with fail
  go_loopw [3, 4] (fun ov iv wr => ∃ (n : Nat) (ps : List (Cl Int)), n ≤ xss.length ∧ iv = .int .i64 n ∧ OL (xss.take n) ps ∧ ps.length ≤ n ∧ LL mI 0 3 41 w.heap.size wr ov ps ∧ Below w.heap.size w wr) (fun _ iv _ => xss.length - (intOf iv).toNat)
  case atStart => exact ⟨0, [], Nat.zero_le _, rfl, ⟨List.Pairwise.nil, fun z => by simp⟩, Nat.le_refl _, LL.nil, Below.refl _ _⟩
  case round =>
    obtain ⟨n, ps, hn, rfl, hol, hpl, hll, hb⟩ := hrel
    have hszr := hb.size
    have Hol := hide hol
    have Hll := hide hll
    obtain ⟨oa, oc, rfl⟩ := own_is hll.own
    clear hol
    by_cases hlt : n < xss.length
    · have hlt' : (n : Int) < (xss.length : Int) := by omega
      obtain ⟨_, _, e, -, hc⟩ := (unhide Hv).below hb (Nat.le_refl _)
      cases e
      obtain ⟨b, off, rfl, hbn, hcell⟩ := hc (by omega)
      obtain ⟨sv, hx, hsx, hcx⟩ := hcell n hlt
      obtain ⟨_, _, e, -, hc0⟩ := unhide Hv
      cases e
      obtain ⟨b', off', e, hbn0, hcell0⟩ := hc0 (by omega)
      cases e
      obtain ⟨sv', hx0, hsx0, -⟩ := hcell0 n hlt
      obtain rfl : sv = sv' := by
        rw [hb.cell (p := ⟨b, off + n, none⟩) hbn0, hx0] at hx
        exact (Option.some.inj hx).symm
      have HX := hide hsx0
      have HX0 := hide hx0
      obtain ⟨sa, sc, rfl, -⟩ := id hsx0
      have hxl := tot_get xss n
      have Hmem : Hid (∀ z, z ∈ xss.take (n + 1) ↔ z ∈ xss.take n ∨ z = xss[n]?.getD []) := fun z => by
        rw [List.take_add_one, List.mem_append]
        simp [hlt]
      clear hcell hc hcell0 hc0 hsx hsx0 hcx hx0
      generalize xss[n]?.getD [] = x at *
      -- the place
      go_wp2_with fail
      go_loopw [5] (fun av wr2 => ∃ at' : Nat, at' ≤ ps.length ∧ av = .int .i64 at' ∧ (∀ j : Nat, j < at' → lexc (ps[j]?.getD dC).xs x < 0) ∧ ∃ q, wr2 = wr.drewN q) (fun av _ => ps.length - (intOf av).toNat)
      case atStart => exact ⟨0, Nat.zero_le _, rfl, fun j hj => absurd hj (Nat.not_lt_zero _), 0, rfl⟩
      case round =>
        obtain ⟨at', hat, rfl, hlow, q, rfl⟩ := hrel
        have Hlow := hide hlow
        clear hlow
        obtain ⟨V, hV⟩ : ∃ V, wr.drewN q = V := ⟨_, rfl⟩
        have HV := hide hV
        have hBV : Below w.heap.size w V := by rw [← hV]; exact below_drewN hb q
        have HllV : Hid (LL mI 0 3 41 w.heap.size V (.slice oa ps.length oc) ps) := by rw [← hV]; exact ⟨hll.own, hll.ok, hll.lo, hll.apart⟩
        have hzV : V.heap.size = wr.heap.size := by rw [← hV]; rfl
        replace hx : V.cell? ⟨b, off + n, none⟩ = some (.slice sa x.length sc) := by rw [← hV]; exact hx
        rw [hV]
        clear hV hll
        have SX := hide ((unhide HX).below hBV (Nat.le_refl _))
        by_cases hal : at' < ps.length
        · have hal' : (at' : Int) < (ps.length : Int) := by omega
          obtain ⟨g, oc', e, hcl⟩ := own_at_s (unhide HllV).own (by omega)
          cases e
          have hy : V.cell? ⟨g, at', none⟩ = some (ps[at']?.getD dC).v := by
            rw [hcl _ hal, List.getElem?_map, List.getElem?_eq_getElem hal]
            rfl
          have hm1 : ps[at']?.getD dC ∈ ps := by rw [List.getElem?_eq_getElem hal]; exact List.getElem_mem _
          have SP := hide ((unhide HllV).ok _ hm1).at
          have Hnext : Hid (lexc (ps[at']?.getD dC).xs x < 0 → ∀ j : Nat, j < at' + 1 → lexc (ps[j]?.getD dC).xs x < 0) := fun h j hj => by
            by_cases e : j = at'
            · subst e; exact h
            · exact unhide Hlow j (by omega)
          have Hin : Hid ((ps[at']?.getD dC).xs = x → x ∈ ps.map Cl.xs) := fun h => by rw [← h]; exact List.mem_map_of_mem hm1
          have Hhi : Hid (¬ lexc (ps[at']?.getD dC).xs x < 0 → ¬ (ps[at']?.getD dC).xs = x → at' < (ps.map Cl.xs).length → lexc x ((ps.map Cl.xs)[at']?.getD []) < 0) := fun h1 h2 _ => by
            have e : (ps.map Cl.xs)[at']?.getD [] = (ps[at']?.getD dC).xs := by simp [hal]
            rw [e]
            have h3 := lexc_swap (ps[at']?.getD dC).xs x
            have h4 : lexc (ps[at']?.getD dC).xs x ≠ 0 := fun h => h2 (lexc_zero.1 h)
            omega
          clear hcl hm1
          generalize ps[at']?.getD dC = p at *
          obtain ⟨pa, pc, e1⟩ : ∃ a c, p.v = .slice a p.xs.length c := by obtain ⟨a, c, e, -⟩ := unhide SP; exact ⟨a, c, e⟩
          rw [e1] at hy SP
          clear e1
          by_cases hless : lexc p.xs x < 0
          · have hn := hide (unhide Hnext hless)
            have HL := hide hless
            clear hless Hnext Hin Hhi
            go_wp2_with fail
            go_quiet ((go_at_call 52; refine Calls.quiet_of (l3less_yes _ _ _ _ _ (by exact unhide SP) (by exact unhide SX) (unhide HL))))
            go_wp2
            go_roundw
            case rel => exact ⟨at' + 1, by omega, by go_num, unhide hn, q + nq, by rw [← unhide HV, drew2]⟩
            case measure => simp [intOf]; omega
          · have HL : Hid (0 ≤ lexc p.xs x) := by show 0 ≤ lexc p.xs x; omega
            go_wp2_with fail
            go_quiet ((go_at_call 52; refine Calls.quiet_of (l3less_no _ _ _ _ _ (by exact unhide SP) (by exact unhide SX) (unhide HL))))
            have hBV1 : Below w.heap.size w (V.drewN nq) := below_drewN hBV nq
            have HllV1 : Hid (LL mI 0 3 41 w.heap.size (V.drewN nq) (.slice (some ⟨g, 0, none⟩) ps.length oc) ps) := ⟨(unhide HllV).own, (unhide HllV).ok, (unhide HllV).lo, (unhide HllV).apart⟩
            have hzV1 : (V.drewN nq).heap.size = wr.heap.size := hzV
            have hx1 : (V.drewN nq).cell? ⟨b, off + n, none⟩ = some (.slice sa x.length sc) := hx
            have hy1 : (V.drewN nq).cell? ⟨g, at', none⟩ = some (.slice pa p.xs.length pc) := hy
            have SP1 : Hid (SlAt mI 0 0 (V.drewN nq).heap.size (V.drewN nq) (.slice pa p.xs.length pc) p.xs) := SP
            have SX1 : Hid (SlAt mI 0 0 (V.drewN nq).heap.size (V.drewN nq) (.slice sa x.length sc) x) := SX
            clear hBV HllV hzV hx hy SP SX HV
            generalize V.drewN nq = V at *
            by_cases hsame : p.xs = x
            · have hi' := hide (unhide Hin hsame)
              have HS := hide hsame
              clear hsame Hin Hhi Hnext HL hless
              go_wp2_with fail
              go_quiet ((go_at_call 53; refine Calls.quiet_of (l1same_yes _ _ _ _ _ (by exact unhide SP1) (by exact unhide SX1) (unhide HS))))
              go_wp2
              go_roundw
              case rel => exact ⟨n + 1, ps, by omega, by go_num, ⟨(unhide Hol).asc, fun z => by rw [unhide Hmem z, ← (unhide Hol).mem z]; exact ⟨Or.inl, fun h => h.elim id (fun e => by rw [e]; exact unhide hi')⟩⟩, by omega, ⟨(unhide HllV1).own, (unhide HllV1).ok, (unhide HllV1).lo, (unhide HllV1).apart⟩, below_drewN hBV1 _⟩
              case measure => simp [intOf]; omega
            · have HS := hide hsame
              have hhigh := hide (unhide Hhi hless hsame)
              clear hsame Hin Hhi Hnext HL hless
              go_wp2_with fail
              go_quiet ((go_at_call 53; refine Calls.quiet_of (l1same_no _ _ _ _ _ (by exact unhide SP1) (by exact unhide SX1) (unhide HS))))
              have hBU : Below w.heap.size w (V.drewN nq) := below_drewN hBV1 nq
              have HllU : Hid (LL mI 0 3 41 w.heap.size (V.drewN nq) (.slice (some ⟨g, 0, none⟩) ps.length oc) ps) := ⟨(unhide HllV1).own, (unhide HllV1).ok, (unhide HllV1).lo, (unhide HllV1).apart⟩
              have hxU : (V.drewN nq).cell? ⟨b, off + n, none⟩ = some (.slice sa x.length sc) := hx1
              clear hBV1 HllV1 hzV1 hx1 hy1 SP1 SX1
              generalize V.drewN nq = U at *
              have hszU := hBU.size
              have hatI : (at' : Int) ≤ (ps.length : Int) := by omega
              go_wp2_with (at_builtin; refine wpList_append_own _ rfl _ _ 26 rfl w.heap.size 41 i0 (.slice none 0 0) 1 24 Tryz.underlying26 hi hz0 hz1 hz2 rfl (by decide) _ _ _ rfl (World.ownsRow.alloc (w := U) (unhide HllU).own _) ⟨U.heap.size, 0, none⟩ 1 1 [.slice none 0 0] rfl rfl ?_ ?_ ?_ ?_ ?_ ?_)
              · exact cell_1 (by simp)
              · intro u hu; simp at hu; subst hu; rfl
              · unfold maxLen; omega
              · omega
              · rw [sz_alloc]; omega
              intro v3 w3 h5 hg5 _
              obtain ⟨g3, cap3, rfl⟩ := ownsRow_succ h5
              have h3 := hide ((unhide HllU).app (p := dC) (by decide) hszU (dC_ok U) (by simp [dC]) (by intro q _ _ h; simp [dC] at h) (pushd_alloc U _) h5 hg5)
              have hz3 := (unhide h3).2.size
              clear h5 hg5 hxU
              go_wp2_with fail
              go_loopw [6] (fun jv wr2 => ∃ j : Nat, at' ≤ j ∧ j ≤ ps.length ∧ jv = .int .i64 j ∧ wr2.ownsRow w.heap.size 41 1 (.slice (some ⟨g3, 0, none⟩) (ps.length + 1) cap3) (ps.length + 1) ((hole ps dC j).map Cl.v) ∧ ChgF (fun k => k = g3) w3 wr2) (fun jv _ => (intOf jv).toNat)
              case atStart => exact ⟨ps.length, hat, Nat.le_refl _, by go_num, by have := (unhide h3).1.own; rw [List.length_append] at this; rw [hole_start]; exact this, ChgF.refl _ _⟩
              case round =>
                obtain ⟨j, hj1, hj2, rfl, hown2, hch⟩ := hrel
                have Hown2 := hide hown2
                have Hch := hide hch
                obtain ⟨_, _, e, hcl⟩ := own_at_s hown2 (by omega)
                cases e
                have hfz : ∀ i, wr.frozen? ⟨g3, i, none⟩ = false := fun i => by
                  rcases hown2.2 with ⟨e0, _⟩ | ⟨g', cap', cur, e0, hb, hg, -⟩
                  · cases e0
                  · cases e0
                    exact frz ⟨cur, _, hg⟩
                by_cases hj3 : at' < j
                · obtain ⟨j, rfl⟩ : ∃ i, j = i + 1 := ⟨j - 1, by omega⟩
                  have hjp : j < ps.length := by omega
                  have q1 : (at' : Int) < (j : Int) + 1 := by omega
                  have q2 : (0 : Int) ≤ (j : Int) + 1 := by omega
                  have q3 : (j : Int) + 1 < (ps.length : Int) + 1 := by omega
                  have q4 : (j : Int) < (ps.length : Int) + 1 := by omega
                  have q5 : IntKind.i64.wrap (j : Int) = (j : Int) := k64i (by omega) (by omega)
                  have hy : wr.cell? ⟨g3, j, none⟩ = some (ps[j]).v := by
                    rw [hcl _ (by omega), List.getElem?_map, hole_before ps dC hjp]
                    rfl
                  obtain ⟨old, hold⟩ : ∃ old, wr.cell? ⟨g3, j + 1, none⟩ = some old := ⟨_, by rw [hcl _ (by omega), List.getElem?_map, List.getElem?_eq_getElem (by rw [hole_len ps dC hj2]; omega)]; rfl⟩
                  have hf1 := hfz (j + 1)
                  have Hstep := hide (hole_step ps dC hjp)
                  obtain ⟨ja, jc, e1⟩ : ∃ a c, (ps[j]).v = .slice a (ps[j]).xs.length c := by
                    obtain ⟨a, c, e, -⟩ := (unhide HllU).ok _ (List.getElem_mem hjp)
                    exact ⟨a, c, e⟩
                  have E1 := hide e1
                  rw [e1] at hy
                  clear e1 hcl hfz hown2 hch
                  generalize ps[j] = pj at *
                  go_wp2
                  go_roundw
                  case rel => exact ⟨j, by omega, by omega, by go_num, by rw [← unhide Hstep, List.map_set, unhide E1]; exact own_set (unhide Hown2) (by omega), (unhide Hch).put rfl _⟩
                  case measure => simp [intOf]
                · have hje : at' = j := by omega
                  subst hje
                  have hjl : at' < ps.length + 1 := by omega
                  have hjI : (at' : Int) < (ps.length : Int) + 1 := by omega
                  have hW2 : Below w.heap.size w wr := hBU.trans (((unhide h3).2).trans (hch.below (fun k hk => by have := ((unhide h3).1.own.lt g3 rfl).1; omega)))
                  have hxW : wr.cell? ⟨b, off + n, none⟩ = some (.slice sa x.length sc) := by rw [hW2.cell (p := ⟨b, off + n, none⟩) hbn0]; exact unhide HX0
                  have SXW := hide ((unhide HX).below hW2 (Nat.le_refl _))
                  have hxlen : x.length ≤ 1048576 := by omega
                  clear hcl hfz hown2 hch
                  go_wp2_with (at_builtin; refine app_ints_own rfl _ _ rfl rfl _ rfl x (by exact unhide SXW) hxlen ?_; intro cv w5 hb5 hc5 ho5; have Hc5 := hide hc5; obtain ⟨ca, cc, rfl⟩ := own_is hc5; obtain ⟨⟨old, hold⟩, hfz5⟩ := row_at (own_keep (unhide Hown2) hb5 (Nat.le_refl _)) hjl)
                  have hdone := hide (ins_done (unhide h3).1 (by omega) (unhide Hown2) (unhide Hch) hb5 (unhide Hc5) hj2)
                  go_roundw
                  case rel =>
                    obtain ⟨c, hcx, hLL, hBB⟩ := unhide hdone
                    have hol := unhide Hol
                    refine ⟨n + 1, ps.take (at') ++ c :: ps.drop (at'), by omega, by go_num, ⟨?_, fun z => ?_⟩, by simp; omega, ?_, ?_⟩
                    · rw [List.map_append, List.map_cons, List.map_take, List.map_drop, hcx]
                      exact lasc_ins hol.asc (by rw [List.length_map]; exact hj2) (fun i hi => by
                        have := unhide Hlow i hi
                        have e : (ps.map Cl.xs)[i]?.getD [] = (ps[i]?.getD dC).xs := by simp [show i < ps.length by omega]
                        rw [e]
                        exact this) (unhide hhigh)
                    · rw [unhide Hmem z, ← hol.mem z]
                      rw [List.map_append, List.map_cons, hcx, List.mem_append, List.mem_cons]
                      have e : z ∈ ps.map Cl.xs ↔ z ∈ (ps.take (at')).map Cl.xs ∨ z ∈ (ps.drop (at')).map Cl.xs := by rw [← List.mem_append, ← List.map_append, List.take_append_drop]
                      rw [e]
                      constructor
                      · rintro (h | h | h)
                        · exact Or.inl (Or.inl h)
                        · exact Or.inr h
                        · exact Or.inl (Or.inr h)
                      · rintro ((h | h) | h)
                        · exact Or.inl h
                        · exact Or.inr (Or.inr h)
                        · exact Or.inr (Or.inl h)
                    · exact hLL
                    · exact hBU.trans (((unhide h3).2).trans hBB)
                  case measure => simp [intOf]; omega
        · obtain rfl : at' = ps.length := by omega
          have hhigh : Hid (ps.length < (ps.map Cl.xs).length → lexc x ((ps.map Cl.xs)[ps.length]?.getD []) < 0) := fun h => absurd h (by simp)
          have hdf : decide (ps.length < ps.length) = false := decide_eq_false (Nat.lt_irrefl _)
          go_wp2_with fail
          go_quiet (fail)
          have hBV1 : Below w.heap.size w (V.drewN nq) := below_drewN hBV nq
          have HllV1 : Hid (LL mI 0 3 41 w.heap.size (V.drewN nq) (.slice oa ps.length oc) ps) := ⟨(unhide HllV).own, (unhide HllV).ok, (unhide HllV).lo, (unhide HllV).apart⟩
          have hx1 : (V.drewN nq).cell? ⟨b, off + n, none⟩ = some (.slice sa x.length sc) := hx
          clear hBV HllV hzV hx HV SX
          generalize V.drewN nq = V at *
          go_wp2_with fail
          go_quiet (fail)
          have hBU : Below w.heap.size w (V.drewN nq) := below_drewN hBV1 nq
          have HllU : Hid (LL mI 0 3 41 w.heap.size (V.drewN nq) (.slice oa ps.length oc) ps) := ⟨(unhide HllV1).own, (unhide HllV1).ok, (unhide HllV1).lo, (unhide HllV1).apart⟩
          have hxU : (V.drewN nq).cell? ⟨b, off + n, none⟩ = some (.slice sa x.length sc) := hx1
          clear hBV1 HllV1 hx1
          generalize V.drewN nq = U at *
          have hszU := hBU.size
          have hatI : (ps.length : Int) ≤ (ps.length : Int) := by omega
          go_wp2_with (at_builtin; refine wpList_append_own _ rfl _ _ 26 rfl w.heap.size 41 i0 (.slice none 0 0) 1 24 Tryz.underlying26 hi hz0 hz1 hz2 rfl (by decide) _ _ _ rfl (World.ownsRow.alloc (w := U) (unhide HllU).own _) ⟨U.heap.size, 0, none⟩ 1 1 [.slice none 0 0] rfl rfl ?_ ?_ ?_ ?_ ?_ ?_)
          · exact cell_1 (by simp)
          · intro u hu; simp at hu; subst hu; rfl
          · unfold maxLen; omega
          · omega
          · rw [sz_alloc]; omega
          intro v3 w3 h5 hg5 _
          obtain ⟨g3, cap3, rfl⟩ := ownsRow_succ h5
          have h3 := hide ((unhide HllU).app (p := dC) (by decide) hszU (dC_ok U) (by simp [dC]) (by intro q _ _ h; simp [dC] at h) (pushd_alloc U _) h5 hg5)
          have hz3 := (unhide h3).2.size
          clear h5 hg5 hxU
          go_wp2_with fail
          go_loopw [6] (fun jv wr2 => ∃ j : Nat, ps.length ≤ j ∧ j ≤ ps.length ∧ jv = .int .i64 j ∧ wr2.ownsRow w.heap.size 41 1 (.slice (some ⟨g3, 0, none⟩) (ps.length + 1) cap3) (ps.length + 1) ((hole ps dC j).map Cl.v) ∧ ChgF (fun k => k = g3) w3 wr2) (fun jv _ => (intOf jv).toNat)
          case atStart => exact ⟨ps.length, hat, Nat.le_refl _, by go_num, by have := (unhide h3).1.own; rw [List.length_append] at this; rw [hole_start]; exact this, ChgF.refl _ _⟩
          case round =>
            obtain ⟨j, hj1, hj2, rfl, hown2, hch⟩ := hrel
            have Hown2 := hide hown2
            have Hch := hide hch
            obtain ⟨_, _, e, hcl⟩ := own_at_s hown2 (by omega)
            cases e
            have hfz : ∀ i, wr.frozen? ⟨g3, i, none⟩ = false := fun i => by
              rcases hown2.2 with ⟨e0, _⟩ | ⟨g', cap', cur, e0, hb, hg, -⟩
              · cases e0
              · cases e0
                exact frz ⟨cur, _, hg⟩
            by_cases hj3 : ps.length < j
            · exact absurd hj3 (by omega)
            · have hje : ps.length = j := by omega
              subst hje
              have hjl : ps.length < ps.length + 1 := by omega
              have hjI : (ps.length : Int) < (ps.length : Int) + 1 := by omega
              have hW2 : Below w.heap.size w wr := hBU.trans (((unhide h3).2).trans (hch.below (fun k hk => by have := ((unhide h3).1.own.lt g3 rfl).1; omega)))
              have hxW : wr.cell? ⟨b, off + n, none⟩ = some (.slice sa x.length sc) := by rw [hW2.cell (p := ⟨b, off + n, none⟩) hbn0]; exact unhide HX0
              have SXW := hide ((unhide HX).below hW2 (Nat.le_refl _))
              have hxlen : x.length ≤ 1048576 := by omega
              clear hcl hfz hown2 hch
              go_wp2_with (at_builtin; refine app_ints_own rfl _ _ rfl rfl _ rfl x (by exact unhide SXW) hxlen ?_; intro cv w5 hb5 hc5 ho5; have Hc5 := hide hc5; obtain ⟨ca, cc, rfl⟩ := own_is hc5; obtain ⟨⟨old, hold⟩, hfz5⟩ := row_at (own_keep (unhide Hown2) hb5 (Nat.le_refl _)) hjl)
              have hdone := hide (ins_done (unhide h3).1 (by omega) (unhide Hown2) (unhide Hch) hb5 (unhide Hc5) hj2)
              go_roundw
              case rel =>
                obtain ⟨c, hcx, hLL, hBB⟩ := unhide hdone
                have hol := unhide Hol
                refine ⟨n + 1, ps.take (ps.length) ++ c :: ps.drop (ps.length), by omega, by go_num, ⟨?_, fun z => ?_⟩, by simp; omega, ?_, ?_⟩
                · rw [List.map_append, List.map_cons, List.map_take, List.map_drop, hcx]
                  exact lasc_ins hol.asc (by rw [List.length_map]; exact hj2) (fun i hi => by
                    have := unhide Hlow i hi
                    have e : (ps.map Cl.xs)[i]?.getD [] = (ps[i]?.getD dC).xs := by simp [show i < ps.length by omega]
                    rw [e]
                    exact this) (unhide hhigh)
                · rw [unhide Hmem z, ← hol.mem z]
                  rw [List.map_append, List.map_cons, hcx, List.mem_append, List.mem_cons]
                  have e : z ∈ ps.map Cl.xs ↔ z ∈ (ps.take (ps.length)).map Cl.xs ∨ z ∈ (ps.drop (ps.length)).map Cl.xs := by rw [← List.mem_append, ← List.map_append, List.take_append_drop]
                  rw [e]
                  constructor
                  · rintro (h | h | h)
                    · exact Or.inl (Or.inl h)
                    · exact Or.inr h
                    · exact Or.inl (Or.inr h)
                  · rintro ((h | h) | h)
                    · exact Or.inl h
                    · exact Or.inr (Or.inr h)
                    · exact Or.inr (Or.inl h)
                · exact hLL
                · exact hBU.trans (((unhide h3).2).trans hBB)
              case measure => simp [intOf]; omega
    · obtain rfl : n = xss.length := by omega
      go_wp2
      go_ret
      exact ⟨_, ps, rfl, ⟨(unhide Hol).asc, fun z => by rw [(unhide Hol).mem z, List.take_length]⟩, hpl, unhide Hll, hb⟩

end Go.Proofs.YtjefklagedidmaaGreat
