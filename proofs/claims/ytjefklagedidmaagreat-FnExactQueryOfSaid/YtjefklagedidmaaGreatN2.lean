import Derived.Test.YtjefklagedidmaaGreatP4
import Derived.Test.YtjefklagedidmaaGreatP3
import Derived.Test.YtjefklagedidmaaGreatSf
import Derived.Shelf.SlSortCmp.NoneTotal
namespace Go.Proofs.YtjefklagedidmaaGreat
open Go.RowKit Go.Sort Go.Shelf

/-- A list that lies in w, in another block than g. -/
def Good (w : World) (g : Nat) (p : Cl Int) : Prop := p.ok mI 0 3 w ∧ (0 < p.xs.length → p.b ≠ g)

theorem sortWorld_heap {α : Type} [Inhabited α] (enc : α → Value) (w : World) (g m : Nat) (dk : Array α) (os : Array Obj) {k : Nat} (hk : k < w.heap.size) (hne : k ≠ g) : (sortWorld enc w g 0 m dk os).heap[k]? = w.heap[k]? := by
  have e : g ≠ k := fun h => hne h.symm
  simp only [sortWorld, putRow, mapBlock, Sort.ahead, Sort.grow]
  rw [Array.getElem?_append_left (by simpa using hk), Array.getElem?_modify, if_neg e]

theorem swo_lex {w : World} {g : Nat} : SWO (ltOf (fun x y : { p : Cl Int // Good w g p } => lexc x.1.xs y.1.xs)) where
  irrefl x := by
    have : lexc x.1.xs x.1.xs = 0 := lexc_zero.2 rfl
    simp [ltOf, this]
  trans x y z h1 h2 := by
    simp only [ltOf, decide_eq_true_eq] at *
    exact lexc_trans h1 h2
  ntrans x y z h1 h2 := by
    simp only [ltOf, decide_eq_false_iff_not] at *
    intro h
    have hs := lexc_swap x.1.xs y.1.xs
    by_cases e : lexc x.1.xs y.1.xs = 0
    · rw [lexc_zero] at e
      rw [e] at h
      exact h2 h
    · exact h2 (lexc_trans (by omega) h)

theorem perm_apart {α : Type} {ps qs : List (Cl α)} (h : qs.Perm ps) (ha : ApartC ps) : ApartC qs :=
  (List.Perm.pairwise_iff (fun h1 h2 h3 e => h1 h3 h2 e.symm) h).2 ha

set_option maxHeartbeats 1000000 in
set_option maxRecDepth 100000 in
theorem sort_LL (base : Nat) (v : Value) (ps : List (Cl Int)) (w : World) (h : LL mI 0 3 41 base w v ps) (hbase : base ≤ w.heap.size) (hl : ps.length ≤ 1048576) :
    Calls Tryz.prog 41 #[v, .func (.func 42) #[] #[]] w fun e w' => e = .returned (.tuple #[]) ∧ ∃ qs, qs.Perm ps ∧ qs.Pairwise (fun p q => lexc p.xs q.xs ≤ 0) ∧ LL mI 0 3 41 base w' v qs ∧ Below base w w' := by
  by_cases hnil : v = .slice none 0 0
  · subst hnil
    have h0 : ps = [] := by
      rcases h.own.2 with ⟨_, hz⟩ | ⟨g, cap, cur, e, -⟩
      · exact List.eq_nil_of_length_eq_zero hz
      · cases e
    subst h0
    refine (AnyF.slices_SortFunc_none (P := Tryz.prog) (ρ := Tryz.laysSortF_ren) { Tryz.laysSortF with } none 0 _ w).mono ?_
    rintro e w' ⟨rfl, rfl⟩
    exact ⟨rfl, [], List.Perm.refl _, List.Pairwise.nil, h, Below.refl _ _⟩
  · have hown := h.own
    rcases hown.2 with ⟨e0, _⟩ | ⟨g, cap, cur, rfl, hbg, hg, hnc, hcm, hcs, htake⟩
    · exact absurd e0 hnil
    have hgood : ∀ p ∈ ps, Good w g p := fun p hp => ⟨h.ok p hp, fun hp0 e => h.not_row (by decide) (h.ok p hp) rfl hp0 (by rw [e]; rfl)⟩
    have inh : Inhabited { p : Cl Int // Good w g p } := ⟨⟨⟨.slice none 0 0, [], 0⟩, ⟨none, 0, rfl, ⟨Nat.le_refl _, Nat.zero_le _⟩, fun hp => absurd hp (by simp)⟩, fun hp => absurd hp (by simp)⟩⟩
    obtain ⟨ds, hds⟩ : ∃ ds : List { p : Cl Int // Good w g p }, ds.map (·.1) = ps := ⟨ps.attach.map (fun p => ⟨p.1, hgood p.1 p.2⟩), by simp [List.map_map, Function.comp_def]⟩
    have hdl : ds.length = ps.length := by rw [← hds]; simp
    have hown' : w.ownsRow base 41 1 (.slice (some ⟨g, 0, none⟩) ps.length cap) ps.length (ds.map (fun x => x.1.v)) := by
      have := h.own
      rw [← hds, List.map_map] at this
      rw [← hdl]
      simpa [Function.comp_def] using this
    obtain ⟨g', cap', e1, -, hgl, -, -, -, hH⟩ := Lib.holds_of_ownsRow (enc := fun x : { p : Cl Int // Good w g p } => x.1.v) hown' (by simp)
    cases e1
    have hcmp : CmpReads Tryz.prog 42 #[] (fun x : { p : Cl Int // Good w g p } => x.1.v) (fun x y => lexc x.1.xs y.1.xs) g 0 ds.toArray.size w := by
      intro m os dk _ x y
      have hk : ∀ z : { p : Cl Int // Good w g p }, z.1.ok mI 0 3 (sortWorld (fun x : { p : Cl Int // Good w g p } => x.1.v) w g 0 m dk os) := fun z => z.2.1.same (fun hz => sortWorld_heap _ _ _ _ _ _ (z.2.1.lt hz) (z.2.2 hz))
      refine (compare_any _ _ _ _ _ (hk x).at (hk y).at).mono ?_
      rintro e w' ⟨rfl, rfl⟩
      exact ⟨rfl, 0, rfl⟩
    have hS := Any.slices_SortFunc Tryz.laysSortF (fun x : { p : Cl Int // Good w g p } => x.1.v) (fun x => x.2.1.one) (fun x y => lexc x.1.xs y.1.xs) swo_lex 42 #[] g 0 cap ds.toArray w (enters_of Tryz.func42 (by kernel_rfl) rfl) hcmp.lays hH hgl (by simp; omega)
    have hsz : ds.toArray.size = ps.length := by simpa using hdl
    rw [hsz] at hS
    refine hS.mono ?_
    rintro e w' ⟨rfl, d', n, os, ⟨hs1, -, hperm⟩, hsort, rfl⟩
    rw [hsz] at hs1
    have hperm' : d'.toList.Perm ds := by
      have e1 : d'.extract 0 ps.length = d' := by rw [← hs1]; exact Array.extract_size
      have e2 : ds.toArray.extract 0 ps.length = ds.toArray := by rw [← hsz]; exact Array.extract_size
      rw [e1, e2] at hperm
      exact hperm
    have hB : Below base w (sortWorld (fun x : { p : Cl Int // Good w g p } => x.1.v) w g 0 n d' os) := by
      have b1 : Below base w (putRow (fun x : { p : Cl Int // Good w g p } => x.1.v) (Sort.ahead w n) g 0 d') := Lib.below_putRow (Below.refl _ _) hbg
      exact b1.trans ((below_grow _ os).mono (by have := b1.size; omega))
    have hps : (d'.toList.map (·.1)).Perm ps := by rw [← hds]; exact hperm'.map _
    refine ⟨rfl, d'.toList.map (·.1), hps, ?_, ⟨?_, fun p hp => ?_, fun p hp => h.lo p (hps.mem_iff.1 hp), perm_apart hps h.apart⟩, hB⟩
    · rw [List.pairwise_map, List.pairwise_iff_getElem]
      intro i j hi hj hij
      have := hsort i j (Nat.zero_le _) hij (by rw [← hs1]; simpa using hj)
      simp only [ltOf, decide_eq_false_iff_not] at this
      have hsw := lexc_swap d'[i]!.1.xs d'[j]!.1.xs
      have e1 : d'[i]! = d'.toList[i] := by rw [getElem!_pos d' i (by simpa using hi)]; simp
      have e2 : d'[j]! = d'.toList[j] := by rw [getElem!_pos d' j (by simpa using hj)]; simp
      rw [e1, e2] at hsw this
      omega
    · have h1 := Lib.ownsRow_putRow (enc := fun x : { p : Cl Int // Good w g p } => x.1.v) (q := n) (k := ps.length) (ys := d'.toList) hown' (by simpa using hs1) (Nat.le_refl _)
      rw [List.take_of_length_le (by simp; omega), Array.toArray_toList] at h1
      have h2 := own_keep h1 (below_grow _ os) (Nat.le_refl _)
      have e3 : (d'.toList.map (·.1)).length = ps.length := by simpa using hs1
      have e4 : (d'.toList.map (·.1)).map Cl.v = d'.toList.map (fun x => x.1.v) := by rw [List.map_map]; rfl
      rw [e3, e4]
      exact h2
    · obtain ⟨z, -, rfl⟩ := List.mem_map.1 hp
      exact z.2.1.same (fun hz => sortWorld_heap _ _ _ _ _ _ (z.2.1.lt hz) (z.2.2 hz))

end Go.Proofs.YtjefklagedidmaaGreat
