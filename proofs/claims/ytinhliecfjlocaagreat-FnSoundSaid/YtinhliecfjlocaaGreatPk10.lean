import Derived.Test.YtinhliecfjlocaaGreatPk9
import Derived.Deep.RegionHeld3
import Derived.Test.YtinhliecfjlocaaGreatPk4
import Derived.Test.YtinhliecfjlocaaGreatPk2
import Derived.Deep.RegionWith
namespace Go.Proofs.YtinhliecfjlocaaGreat
open Go.RowKit
def jn2 (a b : List Int) : List Int := if a.getLast? = some 256 ∧ b.head? = some 256 then a ++ b.tail else a ++ b
theorem jn2_yes {a b : List Int} (h : a.getLast? = some 256 ∧ b.head? = some 256) : jn2 a b = a ++ b.tail := if_pos h
theorem jn2_no {a b : List Int} (h : ¬ (a.getLast? = some 256 ∧ b.head? = some 256)) : jn2 a b = a ++ b := if_neg h
def prd (A B : List (List Int)) : List (List Int) := A.flatMap (fun a => B.map (jn2 a))
theorem mem_prd {A B : List (List Int)} {z : List Int} : z ∈ prd A B ↔ ∃ a, a ∈ A ∧ ∃ b, b ∈ B ∧ jn2 a b = z := by
  unfold prd
  simp only [List.mem_flatMap, List.mem_map]
theorem last_at {a : List Int} (h : 0 < a.length) : a.getLast? = some (a[a.length - 1]?.getD 0) := by
  rw [List.getLast?_eq_getElem?, List.getElem?_eq_getElem (by omega)]
  rfl
theorem head_at {a : List Int} (h : 0 < a.length) : a.head? = some (a[0]?.getD 0) := by
  cases a with
  | nil => simp at h
  | cons x a => rfl
def jpt (a b : List Int) (k : Nat) : List Int := jn2 a (b.take k)
theorem jpt_all (a b : List Int) : jpt a b b.length = jn2 a b := by unfold jpt; rw [List.take_length]
theorem jpt_len (a b : List Int) (k : Nat) : (jpt a b k).length ≤ a.length + k := by
  unfold jpt jn2
  split <;> simp <;> omega
theorem lexc_tri (a b : List Int) : lexc a b < 0 ∨ a = b ∨ lexc b a < 0 := by
  have hs := lexc_swap a b
  by_cases e : lexc a b = 0
  · exact Or.inr (Or.inl (lexc_zero.1 e))
  · rcases Int.lt_or_gt_of_ne e with h | h
    · exact Or.inl h
    · exact Or.inr (Or.inr (by omega))
theorem LAsc.nodup {D : List (List Int)} (h : LAsc D) : D.Nodup := List.Pairwise.imp (fun {a b} h e => by subst e; rw [lexc_zero.2 rfl] at h; omega) h
theorem lasc_put : ∀ (D : List (List Int)) (x : List Int), LAsc D → ∃ D', LAsc D' ∧ ∀ z, z ∈ D' ↔ z ∈ D ∨ z = x
  | [], x, _ => ⟨[x], List.pairwise_singleton _ _, by simp⟩
  | d :: D, x, h => by
    obtain ⟨h1, h2⟩ := List.pairwise_cons.1 h
    rcases lexc_tri d x with g | g | g
    · obtain ⟨D', k1, k2⟩ := lasc_put D x h2
      refine ⟨d :: D', List.pairwise_cons.2 ⟨fun z hz => ?_, k1⟩, fun z => by simp only [List.mem_cons, k2, or_assoc]⟩
      rcases (k2 z).1 hz with m | rfl
      · exact h1 z m
      · exact g
    · subst g
      exact ⟨d :: D, h, fun z => ⟨Or.inl, fun m => m.elim id (fun e => by rw [e]; exact List.mem_cons_self)⟩⟩
    · refine ⟨x :: d :: D, List.pairwise_cons.2 ⟨fun z hz => ?_, h⟩, fun z => by simp only [List.mem_cons]; constructor <;> (rintro (h | h | h) <;> simp [h])⟩
      rcases List.mem_cons.1 hz with rfl | m
      · exact g
      · exact lexc_trans g (h1 z m)
theorem lasc_of : ∀ L : List (List Int), ∃ D, LAsc D ∧ ∀ z, z ∈ D ↔ z ∈ L
  | [] => ⟨[], List.Pairwise.nil, by simp⟩
  | x :: L => by
    obtain ⟨D, h1, h2⟩ := lasc_of L
    obtain ⟨D', k1, k2⟩ := lasc_put D x h1
    exact ⟨D', k1, fun z => by rw [k2, h2, List.mem_cons, or_comm]⟩
def Ovr (D : List (List Int)) : Prop := 50 < D.length ∨ ∃ x, x ∈ D ∧ 60 < x.length
theorem Ovr.mono {D E : List (List Int)} (h : Ovr D) (hD : D.Nodup) (hs : ∀ z, z ∈ D → z ∈ E) : Ovr E := by
  rcases h with h | ⟨x, h1, h2⟩
  · exact Or.inl (Nat.lt_of_lt_of_le h (hD.length_le_of_subset hs))
  · exact Or.inr ⟨x, hs x h1, h2⟩
def CutR (L S : List (List Int)) : Prop := ∃ D, LAsc D ∧ (∀ z, z ∈ D ↔ z ∈ L) ∧ ((Ovr D ∧ S = [[256]]) ∨ (¬ Ovr D ∧ S = D))
theorem CutR.uniq {L S S' : List (List Int)} (h : CutR L S) (k : CutR L S') : S = S' := by
  obtain ⟨D, h1, h2, h3⟩ := h
  obtain ⟨E, k1, k2, k3⟩ := k
  obtain rfl := lasc_uniq h1 k1 (fun z => (h2 z).trans (k2 z).symm)
  rcases h3 with ⟨h3, rfl⟩ | ⟨h3, rfl⟩ <;> rcases k3 with ⟨k3, rfl⟩ | ⟨k3, rfl⟩
  · rfl
  · exact absurd h3 k3
  · exact absurd k3 h3
  · rfl
theorem CutR.same {L L' S : List (List Int)} (h : CutR L S) (hm : ∀ z, z ∈ L ↔ z ∈ L') : CutR L' S := by
  obtain ⟨D, h1, h2, h3⟩ := h
  exact ⟨D, h1, fun z => (h2 z).trans (hm z), h3⟩
theorem CutR.lasc {L S : List (List Int)} (h : CutR L S) : LAsc S := by
  obtain ⟨D, h1, h2, ⟨h3, rfl⟩ | ⟨h3, rfl⟩⟩ := h
  · exact List.pairwise_singleton _ _
  · exact h1
theorem CutR.small {L S : List (List Int)} (h : CutR L S) : S.length ≤ 50 ∧ ∀ x, x ∈ S → x.length ≤ 60 := by
  obtain ⟨D, h1, h2, ⟨h3, rfl⟩ | ⟨h3, rfl⟩⟩ := h
  · exact ⟨by decide, by simp⟩
  · exact ⟨Nat.le_of_not_lt (fun h => h3 (Or.inl h)), fun x hx => Nat.le_of_not_lt (fun h => h3 (Or.inr ⟨x, hx, h⟩))⟩
def AddS (L S : List (List Int)) (c : Bool) : Prop := ∃ D, LAsc D ∧ (∀ z, z ∈ D ↔ z ∈ L) ∧ ((c = true ∧ Ovr D ∧ S = [[256]]) ∨ (c = false ∧ ¬ Ovr D ∧ S = D))
theorem AddS.nil : AddS [] [] false := ⟨[], List.Pairwise.nil, by simp, Or.inr ⟨rfl, fun h => by rcases h with h | ⟨x, h, -⟩ <;> simp at h, rfl⟩⟩
theorem AddS.cut {L S : List (List Int)} {c : Bool} (h : AddS L S c) : CutR L S := by
  obtain ⟨D, h1, h2, h3⟩ := h
  exact ⟨D, h1, h2, h3.imp (fun h => h.2) (fun h => h.2)⟩
theorem AddS.same {L L' S : List (List Int)} {c : Bool} (h : AddS L S c) (hm : ∀ z, z ∈ L ↔ z ∈ L') : AddS L' S c := by
  obtain ⟨D, h1, h2, h3⟩ := h
  exact ⟨D, h1, fun z => (h2 z).trans (hm z), h3⟩
theorem AddS.more {L S : List (List Int)} (h : AddS L S true) (M : List (List Int)) : AddS (L ++ M) S true := by
  obtain ⟨D, h1, h2, h3⟩ := h
  rcases h3 with ⟨-, h4, rfl⟩ | ⟨h, -⟩
  · obtain ⟨E, k1, k2⟩ := lasc_of (L ++ M)
    exact ⟨E, k1, k2, Or.inl ⟨rfl, h4.mono h1.nodup (fun z hz => (k2 z).2 (List.mem_append_left _ ((h2 z).1 hz))), rfl⟩⟩
  · cases h
theorem AddS.known {L S : List (List Int)} {x : List Int} (h : AddS L S false) (hx : x ∈ S) : AddS (L ++ [x]) S false := by
  obtain ⟨D, h1, h2, h3⟩ := h
  rcases h3 with ⟨h, -⟩ | ⟨-, h4, rfl⟩
  · cases h
  · exact ⟨S, h1, fun z => by
      rw [List.mem_append, List.mem_singleton, ← h2]
      exact ⟨Or.inl, fun h => h.elim id (fun e => by rw [e]; exact hx)⟩, Or.inr ⟨rfl, h4, rfl⟩⟩
theorem AddS.over {L S : List (List Int)} {x : List Int} (h : AddS L S false) (hx : x ∉ S) (ho : 60 < x.length ∨ S.length = 50) : AddS (L ++ [x]) [[256]] true := by
  obtain ⟨D, h1, h2, h3⟩ := h
  rcases h3 with ⟨h, -⟩ | ⟨-, h4, rfl⟩
  · cases h
  · obtain ⟨E, k1, k2⟩ := lasc_of (L ++ [x])
    refine ⟨E, k1, k2, Or.inl ⟨rfl, ?_, rfl⟩⟩
    rcases ho with ho | ho
    · exact Or.inr ⟨x, (k2 x).2 (by simp), ho⟩
    · refine Or.inl ?_
      have hn : (x :: S).Nodup := List.nodup_cons.2 ⟨hx, h1.nodup⟩
      have := hn.length_le_of_subset (l₂ := E) (fun z hz => (k2 z).2 (by
        rcases List.mem_cons.1 hz with rfl | hz
        · simp
        · exact List.mem_append_left _ ((h2 z).1 hz)))
      simp at this
      omega
theorem AddS.ins {L S S' : List (List Int)} {x : List Int} (h : AddS L S false) (hl : x.length ≤ 60) (hn : S.length < 50) (hS : LAsc S') (hlen : S'.length = S.length + 1) (hm : ∀ z, z ∈ S' ↔ z ∈ S ∨ z = x) : AddS (L ++ [x]) S' false := by
  obtain ⟨D, h1, h2, h3⟩ := h
  rcases h3 with ⟨h, -⟩ | ⟨-, h4, rfl⟩
  · cases h
  · refine ⟨S', hS, fun z => by rw [hm, List.mem_append, List.mem_singleton, h2], Or.inr ⟨rfl, fun h => ?_, rfl⟩⟩
    rcases h with h | ⟨y, hy, hy2⟩
    · omega
    · rcases (hm y).1 hy with hy | rfl
      · exact h4 (Or.inr ⟨y, hy, hy2⟩)
      · omega
structure OutS (L out : List (List Int)) : Prop where
  nodup : out.Nodup
  sub : ∀ z, z ∈ out → z ∈ L
  len : out.length ≤ 51
  all : out.length ≤ 50 → ∀ z, z ∈ L → z ∈ out
theorem OutS.nil : OutS [] [] := ⟨List.Pairwise.nil, by simp, by simp, by simp⟩
theorem OutS.full {L out : List (List Int)} (h : OutS L out) (hf : 50 < out.length) (x : List Int) : OutS (L ++ [x]) out := ⟨h.nodup, fun z hz => List.mem_append_left _ (h.sub z hz), h.len, fun h => by omega⟩
theorem OutS.known {L out : List (List Int)} {x : List Int} (h : OutS L out) (hx : x ∈ out) : OutS (L ++ [x]) out := ⟨h.nodup, fun z hz => List.mem_append_left _ (h.sub z hz), h.len, fun h5 z hz => by
  rcases List.mem_append.1 hz with hz | hz
  · exact h.all h5 z hz
  · rw [List.mem_singleton.1 hz]; exact hx⟩
theorem OutS.new {L out : List (List Int)} {x : List Int} (h : OutS L out) (hl : out.length ≤ 50) (hx : x ∉ out) : OutS (L ++ [x]) (out ++ [x]) := ⟨List.nodup_append.2 ⟨h.nodup, List.pairwise_singleton _ _, fun a ha b hb e => by rw [List.mem_singleton.1 hb] at e; rw [e] at ha; exact hx ha⟩, fun z hz => by
  rcases List.mem_append.1 hz with hz | hz
  · exact List.mem_append_left _ (h.sub z hz)
  · exact List.mem_append_right _ hz, by simp; omega, fun _ z hz => by
  rcases List.mem_append.1 hz with hz | hz
  · exact List.mem_append_left _ (h.all hl z hz)
  · exact List.mem_append_right _ hz⟩
theorem OutS.gap {L out : List (List Int)} (h : OutS L out) (ho : Ovr out) : CutR L [[256]] := by
  obtain ⟨D, h1, h2⟩ := lasc_of L
  exact ⟨D, h1, h2, Or.inl ⟨ho.mono h.nodup (fun z hz => (h2 z).2 (h.sub z hz)), rfl⟩⟩
structure LR (base : Nat) (w : World) (v : Value) (ps : List (Cl Int)) : Prop where
  own : w.ownsRow base 34 1 v ps.length (ps.map Cl.v)
  ok : ∀ p ∈ ps, p.ok mI 0 3 w
theorem LR.nil {base : Nat} {w : World} : LR base w (.slice none 0 0) [] := ⟨World.ownsRow_nil _ _ _ _, by simp⟩
theorem LL.lr {base : Nat} {w : World} {v : Value} {ps : List (Cl Int)} (h : LL mI 0 3 34 base w v ps) : LR base w v ps := ⟨h.own, h.ok⟩
theorem LR.keep {base m : Nat} {w w' : World} {v : Value} {ps : List (Cl Int)} (h : LR base w v ps) (hb : Below m w w') (hm : w.heap.size ≤ m) : LR base w' v ps := ⟨own_keep h.own hb hm, fun p hp => (h.ok p hp).below hb hm⟩
theorem ok_not_row {base : Nat} {w : World} {v : Value} {n : Nat} {vs : List Value} (h : w.ownsRow base 34 1 v n vs) {q : Cl Int} (hq : q.ok mI 0 3 w) (hp : 0 < q.xs.length) : some q.b ≠ v.ownBlock := by
  intro e1
  obtain ⟨a, cap, -, -, hc⟩ := hq
  obtain ⟨off, -, ⟨c, h1⟩, -⟩ := hc hp
  rcases h.2 with ⟨rfl, _⟩ | ⟨g, cap', cur, rfl, _, hgb, _⟩
  · simp [Value.ownBlock] at e1
  · obtain rfl : q.b = g := by simpa [Value.ownBlock] using e1
    rw [h1] at hgb
    simp at hgb
theorem ok_app {base : Nat} {w W w' : World} {v : Value} {n : Nat} {vs : List Value} {o : Obj} (h : w.ownsRow base 34 1 v n vs) (hP : Pushd w W o) (hg : W.grownBy w' v.ownBlock) {q : Cl Int} (hq : q.ok mI 0 3 w) : q.ok mI 0 3 w' :=
  hq.same (fun hq0 => by
    have hlt := hq.lt hq0
    rw [hg.block q.b (by rw [hP.size]; omega) (ok_not_row h hq hq0), hP.old hlt])
theorem LR.app {base : Nat} {w W w' : World} {v v' : Value} {ps : List (Cl Int)} {p : Cl Int} {o : Obj} (h : LR base w v ps) (hbase : base ≤ w.heap.size) (hp : p.ok mI 0 3 w)
    (hP : Pushd w W o) (h1 : w'.ownsRow base 34 1 v' (ps.length + 1) (ps.map Cl.v ++ [p.v])) (hg : W.grownBy w' v.ownBlock) : LR base w' v' (ps ++ [p]) ∧ Below base w w' := by
  refine ⟨⟨by rw [List.length_append, List.map_append]; exact h1, fun q hq => ?_⟩, (hP.below.mono hbase).grown hg (by rw [hP.size]; omega) (fun k hk => (h.own.lt k hk).1)⟩
  rcases List.mem_append.1 hq with hq | hq
  · exact ok_app h.own hP hg (h.ok q hq)
  · rw [List.mem_singleton] at hq
    subst hq
    exact ok_app h.own hP hg hp
theorem LR.at {base : Nat} {w : World} {v : Value} {ps : List (Cl Int)} (h : LR base w v ps) : SsAt mI 0 w.heap.size w v (ps.map Cl.xs) := by
  rcases h.own.2 with ⟨rfl, hz⟩ | ⟨g, cap, cur, rfl, hbg, hg, hnc, hcm, hcs, htake⟩
  · have : ps = [] := List.eq_nil_of_length_eq_zero hz
    subst this
    exact ⟨none, 0, rfl, ⟨Nat.le_refl _, Nat.zero_le _⟩, fun h => absurd h (by simp)⟩
  · have hgl : g < w.heap.size := (h.own.lt g rfl).2
    refine ⟨some ⟨g, 0, none⟩, cap, by rw [List.length_map], ⟨by rw [List.length_map]; exact hnc, hcm⟩, fun _ => ⟨g, 0, rfl, hgl, fun i hi => ?_⟩⟩
    rw [List.length_map] at hi
    have hm : ps[i] ∈ ps := List.getElem_mem hi
    refine ⟨(ps[i]).v, ?_, ?_, (h.ok _ hm).cap⟩
    · rw [Nat.zero_add, h.own.cellAt i (by omega), List.getElem?_map, List.getElem?_eq_getElem hi]
      rfl
    · rw [List.getElem?_map, List.getElem?_eq_getElem hi]
      exact (h.ok _ hm).at
theorem LL.of_sub {base' : Nat} {w : World} {v : Value} {ps qs : List (Cl Int)} (h : LR base' w v ps) (hs : ps.Sublist qs) (hl : ∀ p ∈ qs, 0 < p.xs.length → base' ≤ p.b) (ha : ApartC qs) : LL mI 0 3 34 base' w v ps :=
  ⟨h.own, h.ok, fun p hp => hl p (hs.subset hp), List.Pairwise.sublist hs ha⟩
def mn (cs : List (List Int)) (c : List Int) : Bool := cs.all (fun d => decide (d = c) || !(d.all (fun z => decide (z ∈ c))))
theorem mn_iff {cs : List (List Int)} {c : List Int} : mn cs c = true ↔ ∀ d, d ∈ cs → d ≠ c → ¬ ∀ z, z ∈ d → z ∈ c := by
  unfold mn
  simp only [List.all_eq_true, Bool.or_eq_true, decide_eq_true_eq, Bool.not_eq_true']
  constructor
  · intro h d hd hne hall
    rcases h d hd with e | e
    · exact hne e
    · rw [List.all_eq_false] at e
      obtain ⟨z, hz, hn⟩ := e
      exact hn (by simpa using hall z hz)
  · intro h d hd
    by_cases e : d = c
    · exact Or.inl e
    · refine Or.inr ?_
      rw [List.all_eq_false]
      have := h d hd e
      by_cases ex : ∃ z, z ∈ d ∧ z ∉ c
      · obtain ⟨z, hz, hn⟩ := ex
        exact ⟨z, hz, by simpa using hn⟩
      · exact absurd (fun z hz => by
          by_cases hc : z ∈ c
          · exact hc
          · exact absurd ⟨z, hz, hc⟩ ex) this
structure NormV (xss rs : List (List Int)) : Prop where
  ex : ∃ cs, LAsc cs ∧ (∀ z, z ∈ cs ↔ ∃ xs, xs ∈ xss ∧ Ord xs z) ∧ rs = cs.filter (mn cs)
theorem NormV.uniq {xss rs rs' : List (List Int)} (h : NormV xss rs) (k : NormV xss rs') : rs = rs' := by
  obtain ⟨cs, h1, h2, rfl⟩ := h.ex
  obtain ⟨ds, k1, k2, rfl⟩ := k.ex
  rw [lasc_uniq h1 k1 (fun z => (h2 z).trans (k2 z).symm)]
structure Each (xss : List (List Int)) (ps : List (Cl Int)) : Prop where
  len : ps.length = xss.length
  ord : ∀ i : Nat, i < ps.length → Ord (xss[i]?.getD []) (ps[i]?.getD dC).xs
  tot : tot (ps.map Cl.xs) ≤ tot xss
theorem tot_app {α : Type} (xs : List (List α)) (x : List α) : tot (xs ++ [x]) = tot xs + x.length := by
  induction xs with
  | nil => simp [Go.Proofs.YtinhliecfjlocaaGreat.tot]
  | cons y ys ih => simp only [List.cons_append, Go.Proofs.YtinhliecfjlocaaGreat.tot, ih]; omega
theorem Each.nil : Each [] [] := ⟨rfl, fun i h => by simp at h, by simp [Go.Proofs.YtinhliecfjlocaaGreat.tot]⟩
theorem Each.next {xss : List (List Int)} {n : Nat} {ps : List (Cl Int)} {p : Cl Int} (h : Each (xss.take n) ps) (hn : n < xss.length) (ho : Ord (xss[n]?.getD []) p.xs) (hl : p.xs.length ≤ (xss[n]?.getD []).length) : Each (xss.take (n + 1)) (ps ++ [p]) := by
  have hlen := h.len
  simp only [List.length_take] at hlen
  refine ⟨by simp; omega, fun i hi => ?_, ?_⟩
  · rw [List.length_append, List.length_singleton] at hi
    by_cases e : i = n
    · subst e
      have e1 : (xss.take (i + 1))[i]?.getD [] = xss[i]?.getD [] := by rw [List.getElem?_take, if_pos (by omega)]
      have e2 : (ps ++ [p])[i]?.getD dC = p := by rw [List.getElem?_append_right (by omega), show i - ps.length = 0 by omega]; rfl
      rw [e1, e2]
      exact ho
    · have := h.ord i (by omega)
      rw [List.getElem?_take, if_pos (by omega)] at this
      rw [List.getElem?_take, if_pos (by omega), List.getElem?_append_left (by omega)]
      exact this
  · have h1 := h.tot
    rw [List.map_append, List.map_singleton, tot_app, tot_step xss n hn]
    omega
theorem Each.mem {xss : List (List Int)} {ps : List (Cl Int)} (h : Each xss ps) (z : List Int) : z ∈ ps.map Cl.xs ↔ ∃ xs, xs ∈ xss ∧ Ord xs z := by
  constructor
  · intro hz
    obtain ⟨i, hi, e⟩ := List.mem_iff_getElem.1 hz
    simp only [List.length_map] at hi
    have := h.ord i hi
    have hl := h.len
    have e1 : (ps[i]?.getD dC).xs = z := by rw [← e]; simp [hi]
    rw [e1] at this
    exact ⟨_, by rw [List.getElem?_eq_getElem (by omega)]; exact List.getElem_mem _, this⟩
  · rintro ⟨xs, hx, ho⟩
    obtain ⟨i, hi, e⟩ := List.mem_iff_getElem.1 hx
    have hl := h.len
    have h1 := h.ord i (by omega)
    have e1 : xss[i]?.getD [] = xs := by rw [← e]; simp [hi]
    rw [e1] at h1
    rw [ho.uniq h1, List.getElem?_eq_getElem (by omega)]
    exact List.mem_map_of_mem (List.getElem_mem _)
theorem lasc_get {xss : List (List Int)} (h : LAsc xss) {i j : Nat} (hij : i < j) (hj : j < xss.length) : lexc (xss[i]?.getD []) (xss[j]?.getD []) < 0 := by
  rw [List.getElem?_eq_getElem (by omega), List.getElem?_eq_getElem hj]
  exact List.pairwise_iff_getElem.1 h i j (by omega) hj hij
structure Place (xss : List (List Int)) (x : List Int) (k : Nat) : Prop where
  le : k ≤ xss.length
  lo : ∀ t : Nat, t < k → lexc (xss[t]?.getD []) x < 0
  hi : ∀ t : Nat, k ≤ t → t < xss.length → 0 ≤ lexc (xss[t]?.getD []) x
theorem Place.mem {xss : List (List Int)} {x : List Int} {k : Nat} (h : Place xss x k) (ha : LAsc xss) : x ∈ xss ↔ k < xss.length ∧ lexc (xss[k]?.getD []) x = 0 := by
  constructor
  · intro hx
    obtain ⟨t, ht, e⟩ := List.mem_iff_getElem.1 hx
    have hz : lexc (xss[t]?.getD []) x = 0 := by rw [List.getElem?_eq_getElem ht]; exact lexc_zero.2 e
    have hkt : k ≤ t := Nat.le_of_not_lt (fun h2 => by have := h.lo t h2; omega)
    by_cases e2 : k = t
    · subst e2
      exact ⟨ht, hz⟩
    · exfalso
      have h1 := lasc_get ha (i := k) (j := t) (by omega) ht
      have h2 := h.hi k (Nat.le_refl _) (by omega)
      rw [lexc_zero.1 hz] at h1
      omega
  · rintro ⟨h1, h2⟩
    rw [← lexc_zero.1 h2, List.getElem?_eq_getElem h1]
    exact List.getElem_mem h1
def BsR (e : Ending) (xss : List (List Int)) (x : List Int) : Prop := ∃ (k : Nat) (b : Bool), e = .returned (.tuple #[.int .i64 k, .bool b]) ∧ Place xss x k ∧ (b = true ↔ x ∈ xss)
set_option maxHeartbeats 4000000 in
set_option maxRecDepth 100000 in
theorem bsf_any (u tv : Value) (xss : List (List Int)) (x : List Int) (w : World) (hu : SsAt mI 0 w.heap.size w u xss) (hx : SlAt mI 0 0 w.heap.size w tv x) (ha : LAsc xss) (hl : xss.length ≤ 1000) :
    Calls Tryz.prog 102 #[u, tv, .func (.func 48) #[] #[]] w fun e w' => BsR e xss x ∧ w' = w := by
  have HU := hide hu
  have HX := hide hx
  have HA := hide ha
  obtain ⟨a, cap, rfl, hcl, -⟩ := hu
  obtain ⟨ta, tc, rfl, -⟩ := hx
  unfold maxLen at hcl
  clear ha
  go_enter Tryz.func102, Tryz.ntmps102
  go_wp2_with fail
  go_loopw [9, 10] (fun iv jv wr => (∃ i j : Nat, iv = .int .i64 (i : Nat) ∧ jv = .int .i64 (j : Nat) ∧ i ≤ j ∧ j ≤ xss.length ∧ (∀ t : Nat, t < i → lexc (xss[t]?.getD []) x < 0) ∧ (∀ t : Nat, j ≤ t → t < xss.length → 0 ≤ lexc (xss[t]?.getD []) x)) ∧ wr = w) (fun iv jv _ => (intOf jv).toNat - (intOf iv).toNat)
  case atStart => exact ⟨⟨0, xss.length, rfl, rfl, Nat.zero_le _, Nat.le_refl _, fun t ht => absurd ht (Nat.not_lt_zero _), fun t h1 h2 => by omega⟩, rfl⟩
  case round =>
    obtain ⟨⟨i, j, rfl, rfl, hij, hjn, hlo, hhi⟩, rfl⟩ := hrel
    have HLO := hide hlo
    have HHI := hide hhi
    clear hlo hhi
    by_cases hlt : i < j
    · have hlt' : (i : Int) < (j : Int) := by omega
      obtain ⟨h, hh⟩ : ∃ h : Nat, ((i : Int) + (j : Int)) / 2 = (h : Int) := ⟨(i + j) / 2, by omega⟩
      have hih : i ≤ h := by omega
      have hhj : h < j := by omega
      have hhn : (h : Int) < (xss.length : Int) := by omega
      obtain ⟨_, _, e1, -, hc⟩ := unhide HU
      cases e1
      obtain ⟨b, off, rfl, -, hcell⟩ := hc (by omega)
      obtain ⟨s, hxc, hs, -⟩ := hcell h (by omega)
      have Hs := hide hs
      obtain ⟨sa, sc, rfl, -, -⟩ := hs
      have HLE : Hid (∀ t : Nat, t ≤ h → h < xss.length → lexc (xss[h]?.getD []) x < 0 → lexc (xss[t]?.getD []) x < 0) := fun t t1 t2 t3 => by
        by_cases e : t = h
        · rw [e]; exact t3
        · exact lexc_trans (lasc_get (unhide HA) (i := t) (j := h) (by omega) t2) t3
      have HGE : Hid (∀ t : Nat, h ≤ t → t < xss.length → 0 ≤ lexc (xss[h]?.getD []) x → 0 ≤ lexc (xss[t]?.getD []) x) := fun t t1 t2 t3 => by
        by_cases e : t = h
        · rw [e]; exact t3
        · refine Int.not_lt.1 (fun t4 => ?_)
          have := lexc_trans (lasc_get (unhide HA) (i := h) (j := t) (by omega) t2) t4
          omega
      have HH := hide hh
      clear hcell hc
      generalize xss[h]?.getD [] = z at *
      go_wp2_with fail
      refine (compare_any _ _ z x wr (unhide Hs) (unhide HX)).mono ?_
      rintro e w1 ⟨rfl, rfl⟩
      by_cases hc : lexc z x < 0
      · have HC := hide hc
        go_wp2
        go_roundw
        case rel => exact ⟨⟨h + 1, j, by go_num, rfl, by omega, hjn, fun t ht => unhide HLE t (by omega) (by omega) (unhide HC), unhide HHI⟩, trivial⟩
        case measure => simp [intOf]; omega
      · have hc2 : 0 ≤ lexc z x := Int.not_lt.1 hc
        have HC := hide hc2
        go_wp2
        go_roundw
        case rel => exact ⟨⟨i, h, rfl, rfl, hih, by omega, unhide HLO, fun t t1 t2 => unhide HGE t t1 t2 (unhide HC)⟩, trivial⟩
        case measure => simp [intOf]; omega
    · obtain rfl : i = j := by omega
      have hlt' : ¬ (i : Int) < (i : Int) := by omega
      have hP : Place xss x i := ⟨hjn, unhide HLO, unhide HHI⟩
      have hmem := hP.mem (unhide HA)
      have HP := hide hP
      clear hP HLO HHI
      by_cases hin : i < xss.length
      · have hin' : (i : Int) < (xss.length : Int) := by omega
        obtain ⟨_, _, e1, -, hc⟩ := unhide HU
        cases e1
        obtain ⟨b, off, rfl, -, hcell⟩ := hc (by omega)
        obtain ⟨s, hxc, hs, -⟩ := hcell i hin
        have Hs := hide hs
        obtain ⟨sa, sc, rfl, -, -⟩ := hs
        clear hcell hc
        have HM := hide hmem
        clear hmem
        generalize hz : xss[i]?.getD [] = z at *
        have HZ := hide hz
        clear hz
        go_wp2_with fail
        refine (compare_any _ _ z x wr (unhide Hs) (unhide HX)).mono ?_
        rintro e w1 ⟨rfl, rfl⟩
        by_cases hc : lexc z x = 0
        · have HC := hide hc
          have hcb : (lexc z x == 0) = true := by simp [hc]
          go_wp2
          go_ret2
          exact ⟨⟨i, true, rfl, unhide HP, ⟨fun _ => (unhide HM).2 ⟨hin, unhide HC⟩, fun _ => rfl⟩⟩, rfl⟩
        · have HC := hide hc
          have hcb : (lexc z x == 0) = false := by simp [hc]
          go_wp2
          go_ret2
          exact ⟨⟨i, false, rfl, unhide HP, ⟨(fun h => by cases h), fun h => absurd ((unhide HM).1 h).2 (unhide HC)⟩⟩, rfl⟩
      · have hin' : ¬ (i : Int) < (xss.length : Int) := by omega
        have HM := hide hmem
        clear hmem
        go_wp2
        go_ret2
        exact ⟨⟨i, false, rfl, unhide HP, ⟨(fun h => by cases h), fun h => absurd ((unhide HM).1 h).1 hin⟩⟩, rfl⟩
theorem Tryz.zinByteS : (Tryz.prog.info? 22).map (fun i => (i.zero, i.size, i.bytes)) = some (some (.slice none 0 0), 1, 24) := by kernel_rfl
theorem Row4.put3 {w : World} {b : Nat} {t : TypeId} {c0 c1 c2 c3 u : Value} (h : Row4 w b t c0 c1 c2 c3) : Row4 (w.setCell ⟨b, 3, none⟩ u) b t c0 c1 c2 u := (World.rowIs.set h 3 u).congr (fun i hi => by
    match i, hi with
    | 0, _ => rfl
    | 1, _ => rfl
    | 2, _ => rfl
    | 3, _ => rfl)
def SegF (lo hi : Nat) (w : World) (v : Value) (base : Int) (xss : List (List Int)) (ks : List Int) (pss : List (List Int)) : Prop :=
  ∃ (lv kv pv : Value) (S1 S2 S3 : Nat → Prop), v = .agg #[.int .i64 base, lv, kv, pv] ∧ SsF mB 0 S1 w lv xss ∧ SlF mI 0 S2 w kv ks ∧ SsF mI 0 S3 w pv pss ∧
    (∀ k, S1 k ∨ S2 k ∨ S3 k → lo ≤ k ∧ k < hi) ∧ (∀ k, S1 k → ¬ S2 k ∧ ¬ S3 k) ∧ ∀ k, S2 k → ¬ S3 k
theorem SegF.same {lo hi : Nat} {w w' : World} {v : Value} {base : Int} {xss pss : List (List Int)} {ks : List Int} (h : SegF lo hi w v base xss ks pss) (hs : ∀ k, lo ≤ k → k < hi → w'.heap[k]? = w.heap[k]?) : SegF lo hi w' v base xss ks pss := by
  obtain ⟨lv, kv, pv, S1, S2, S3, e, h1, h2, h3, h4, h5, h6⟩ := h
  exact ⟨lv, kv, pv, S1, S2, S3, e, h1.same (fun k hk => hs k (h4 k (Or.inl hk)).1 (h4 k (Or.inl hk)).2), h2.same (fun k hk => hs k (h4 k (Or.inr (Or.inl hk))).1 (h4 k (Or.inr (Or.inl hk))).2), h3.same (fun k hk => hs k (h4 k (Or.inr (Or.inr hk))).1 (h4 k (Or.inr (Or.inr hk))).2), h4, h5, h6⟩
theorem SegF.keep {lo hi m : Nat} {w w' : World} {v : Value} {base : Int} {xss pss : List (List Int)} {ks : List Int} (h : SegF lo hi w v base xss ks pss) (hb : Below m w w') (hm : hi ≤ m) : SegF lo hi w' v base xss ks pss := h.same (fun k _ h2 => hb.block k (by omega))
theorem SegF.put {lo hi b o : Nat} {w : World} {v u : Value} {base : Int} {xss pss : List (List Int)} {ks : List Int} (h : SegF lo hi w v base xss ks pss) (hb : b < lo) : SegF lo hi (w.setCell ⟨b, o, none⟩ u) v base xss ks pss := h.same (fun k k1 _ => Below.heap_setCell _ _ _ _ (by show k ≠ b; omega))
theorem SegF.low {lo lo' hi hi' : Nat} {w : World} {v : Value} {base : Int} {xss pss : List (List Int)} {ks : List Int} (h : SegF lo hi w v base xss ks pss) (hl : lo' ≤ lo) (hh : hi ≤ hi') : SegF lo' hi' w v base xss ks pss := by
  obtain ⟨lv, kv, pv, S1, S2, S3, e, h1, h2, h3, h4, h5, h6⟩ := h
  exact ⟨lv, kv, pv, S1, S2, S3, e, h1, h2, h3, fun k hk => ⟨Nat.le_trans hl (h4 k hk).1, Nat.lt_of_lt_of_le (h4 k hk).2 hh⟩, h5, h6⟩
def SegRd (w : World) (v : Value) (base : Int) (xss : List (List Int)) (ks : List Int) (pss : List (List Int)) : Prop :=
  ∃ lv kv pv, v = .agg #[.int .i64 base, lv, kv, pv] ∧ SsAt mB 0 w.heap.size w lv xss ∧ SlAt mI 0 0 w.heap.size w kv ks ∧ SsAt mI 0 w.heap.size w pv pss
theorem SegRd.below {w w' : World} {v : Value} {base : Int} {xss pss : List (List Int)} {ks : List Int} {m : Nat} (h : SegRd w v base xss ks pss) (hb : Below m w w') (hm : w.heap.size ≤ m) : SegRd w' v base xss ks pss := by
  obtain ⟨lv, kv, pv, e, h1, h2, h3⟩ := h
  exact ⟨lv, kv, pv, e, h1.below hb hm, h2.below hb hm, h3.below hb hm⟩
theorem SegF.rd {lo hi : Nat} {w : World} {v : Value} {base : Int} {xss pss : List (List Int)} {ks : List Int} (h : SegF lo hi w v base xss ks pss) (hh : hi ≤ w.heap.size) : SegRd w v base xss ks pss := by
  obtain ⟨lv, kv, pv, S1, S2, S3, e, h1, h2, h3, h4, h5, h6⟩ := h
  exact ⟨lv, kv, pv, e, h1.at (fun k hk => Nat.lt_of_lt_of_le (h4 k (Or.inl hk)).2 hh), h2.at (fun k hk => Nat.lt_of_lt_of_le (h4 k (Or.inr (Or.inl hk))).2 hh), h3.at (fun k hk => Nat.lt_of_lt_of_le (h4 k (Or.inr (Or.inr hk))).2 hh)⟩
theorem SegRd.zero (w : World) : SegRd w (.agg #[.int .i64 0, .slice none 0 0, .slice none 0 0, .slice none 0 0]) 0 [] [] [] :=
  ⟨_, _, _, rfl, ⟨none, 0, rfl, ⟨Nat.le_refl _, Nat.zero_le _⟩, fun h => absurd h (by simp)⟩, ⟨none, 0, rfl, Nat.zero_le _, fun h => absurd h (by simp)⟩, ⟨none, 0, rfl, ⟨Nat.le_refl _, Nat.zero_le _⟩, fun h => absurd h (by simp)⟩⟩
theorem SegF.zero (lo hi : Nat) (w : World) : SegF lo hi w (.agg #[.int .i64 0, .slice none 0 0, .slice none 0 0, .slice none 0 0]) 0 [] [] [] :=
  ⟨_, _, _, fun _ => False, fun _ => False, fun _ => False, rfl, SsF.nil _ _ _ _ _ _ (Nat.zero_le _), ⟨0, 0, ⟨none, 0, rfl, Nat.zero_le _, fun h => absurd h (by simp)⟩, fun k _ h => absurd h (by omega)⟩, SsF.nil _ _ _ _ _ _ (Nat.zero_le _), fun k h => by simp at h, fun k h => by simp at h, fun k h => by simp at h⟩
theorem Row4.all {w : World} {b : Nat} {t : TypeId} {c0 c1 c2 c3 : Value} (h : Row4 w b t c0 c1 c2 c3) (d0 d1 d2 d3 : Value) : Row4 ((((w.setCell ⟨b, 0, none⟩ d0).setCell ⟨b, 1, none⟩ d1).setCell ⟨b, 2, none⟩ d2).setCell ⟨b, 3, none⟩ d3) b t d0 d1 d2 d3 := h.put0.put1.put2.put3
end Go.Proofs.YtinhliecfjlocaaGreat
