import Derived.Test.YtjefklagedidmaaGreatP7
import Derived.Test.YtjefklagedidmaaGreatP1
import Derived.Deep.QuietTactic
import Derived.BigQuiet
import Derived.WalkSmall
namespace Go.Proofs.YtjefklagedidmaaGreat
open Go.RowKit

/-- A block of two cells. -/
def Bx2 (w : World) (b : Nat) (t : TypeId) (c0 c1 : Value) : Prop := w.rowIs b t 2 (fun j => [c0, c1].getD j undef)
theorem Bx2.new (w : World) (t : TypeId) (c0 c1 : Value) : Bx2 (w.alloc (.cells #[c0, c1] t)) w.heap.size t c0 c1 :=
  World.rowIs_alloc w #[c0, c1] t _ (fun i hi => by
    match i, hi with
    | 0, _ => rfl
    | 1, _ => rfl)
theorem Bx2.alloc {w : World} {b : Nat} {t : TypeId} {c0 c1 : Value} (h : Bx2 w b t c0 c1) (o : Obj) : Bx2 (w.alloc o) b t c0 c1 := World.rowIs.alloc h o
theorem Bx2.below {w w' : World} {b m : Nat} {t : TypeId} {c0 c1 : Value} (h : Bx2 w b t c0 c1) (hb : Below m w w') (hm : b < m) : Bx2 w' b t c0 c1 := World.rowIs.of_block h (hb.block b hm)
theorem Bx2.other {w : World} {b b' o : Nat} {t : TypeId} {c0 c1 u : Value} (h : Bx2 w b t c0 c1) (hb : b ≠ b') : Bx2 (w.setCell ⟨b', o, none⟩ u) b t c0 c1 := World.rowIs.setOther h hb u
theorem Bx2.put0 {w : World} {b : Nat} {t : TypeId} {c0 c1 u : Value} (h : Bx2 w b t c0 c1) : Bx2 (w.setCell ⟨b, 0, none⟩ u) b t u c1 := (World.rowIs.set h 0 u).congr (fun i hi => by
    match i, hi with
    | 0, _ => rfl
    | 1, _ => rfl)
theorem Bx2.put1 {w : World} {b : Nat} {t : TypeId} {c0 c1 u : Value} (h : Bx2 w b t c0 c1) : Bx2 (w.setCell ⟨b, 1, none⟩ u) b t c0 u := (World.rowIs.set h 1 u).congr (fun i hi => by
    match i, hi with
    | 0, _ => rfl
    | 1, _ => rfl)
theorem Bx2.facts4 {w : World} {b : Nat} {t : TypeId} {c0 c1 : Value} (h : Bx2 w b t c0 c1) :
    w.cell? ⟨b, 0, none⟩ = some c0 ∧ w.cell? ⟨b, 1, none⟩ = some c1 ∧ w.frozen? ⟨b, 0, none⟩ = false ∧ w.frozen? ⟨b, 1, none⟩ = false :=
  ⟨World.rowIs.cell h (i := 0) (by omega), World.rowIs.cell h (i := 1) (by omega), World.rowIs.frozen h 0, World.rowIs.frozen h 1⟩

theorem Bx2.blk {w w' : World} {b : Nat} {t : TypeId} {c0 c1 : Value} (h : Bx2 w b t c0 c1) (e : w'.heap[b]? = w.heap[b]?) : Bx2 w' b t c0 c1 := World.rowIs.of_block h e
/-- What a method of a set may change: its box and its own row. -/
structure Fr (B : Nat) (row : Option Nat) (w w' : World) : Prop where
  os : w'.os = w.os
  tape : w'.tape = w.tape
  output : w'.output = w.output
  size : w.heap.size ≤ w'.heap.size
  block : ∀ k, k < w.heap.size → k ≠ B → row ≠ some k → w'.heap[k]? = w.heap[k]?
theorem Fr.refl (B : Nat) (row : Option Nat) (w : World) : Fr B row w w := ⟨rfl, rfl, rfl, Nat.le_refl _, fun _ _ _ _ => rfl⟩
/-- The block of v' is that of v, or new since w. -/
def OwnN (w : World) (v v' : Value) : Prop := v'.ownBlock = v.ownBlock ∨ v'.ownBlock = none ∨ ∃ k, w.heap.size ≤ k ∧ v'.ownBlock = some k
theorem Fr.trans {B : Nat} {v v' : Value} {a b c : World} (h : Fr B v.ownBlock a b) (ho : OwnN a v v') (k : Fr B v'.ownBlock b c) : Fr B v.ownBlock a c := ⟨k.os.trans h.os, k.tape.trans h.tape, k.output.trans h.output, Nat.le_trans h.size k.size, fun i h1 h2 h3 => (k.block i (Nat.lt_of_lt_of_le h1 h.size) h2 (by
  rcases ho with e | e | ⟨j, hj, e⟩
  · rw [e]; exact h3
  · rw [e]; exact fun q => by cases q
  · rw [e]; exact fun q => by have := Option.some.inj q; omega)).trans (h.block i h1 h2 h3)⟩
theorem OwnN.trans {a b : World} {v v' v'' : Value} (h : OwnN a v v') (hs : a.heap.size ≤ b.heap.size) (k : OwnN b v' v'') : OwnN a v v'' := by
  rcases k with e | e | ⟨j, hj, e⟩
  · rcases h with e2 | e2 | ⟨j, hj, e2⟩
    · exact Or.inl (e.trans e2)
    · exact Or.inr (Or.inl (e.trans e2))
    · exact Or.inr (Or.inr ⟨j, hj, e.trans e2⟩)
  · exact Or.inr (Or.inl e)
  · exact Or.inr (Or.inr ⟨j, by omega, e⟩)
/-- A set of skeletons in the box B, behind the candidates L. -/
structure SkB (B : Nat) (w : World) (lv : Value) (L : List (List Int)) (ps : List (Cl Int)) (c : Bool) : Prop where
  box : Bx2 w B 66 lv (.bool c)
  row : LL mI 0 3 41 (B + 1) w lv ps
  add : AddS L (ps.map Cl.xs) c
theorem mem_ins {S : List (List Int)} {x : List Int} (i : Nat) : ∀ z, z ∈ S.take i ++ x :: S.drop i ↔ z ∈ S ∨ z = x := fun z => by
  rw [List.mem_append, List.mem_cons]
  constructor
  · rintro (h | h | h)
    · exact Or.inl (List.mem_of_mem_take h)
    · exact Or.inr h
    · exact Or.inl (List.mem_of_mem_drop h)
  · rintro (h | h)
    · rw [← List.take_append_drop i S, List.mem_append] at h
      exact h.elim Or.inl (fun h => Or.inr (Or.inr h))
    · exact Or.inr (Or.inl h)
theorem AddS.asc {L S : List (List Int)} (h : AddS L S false) : LAsc S ∧ S.length ≤ 50 ∧ ∀ x ∈ S, x.length ≤ 60 := ⟨h.cut.lasc, h.cut.small.1, h.cut.small.2⟩
theorem gap_row {base N : Nat} {w : World} (h1 : w.heap[N]? = some (.cells #[.int .i64 256] 3 (0, 0))) (h2 : w.heap[N + 1]? = some (.cells #[.slice (some ⟨N, 0, none⟩) 1 1] 41 (0, 0))) (hb : base ≤ N) : LL mI 0 3 41 base w (.slice (some ⟨N + 1, 0, none⟩) 1 1) [⟨.slice (some ⟨N, 0, none⟩) 1 1, [256], N⟩] := by
  refine ⟨⟨rfl, Or.inr ⟨N + 1, 1, _, rfl, by omega, h2, Nat.le_refl _, by unfold maxLen; omega, rfl, rfl⟩⟩, fun p hp => ?_, fun p hp _ => ?_, List.pairwise_singleton _ _⟩
  · rw [List.mem_singleton] at hp
    subst hp
    refine ⟨_, 1, rfl, ⟨Nat.le_refl _, by unfold maxLen; omega⟩, fun _ => ⟨0, rfl, ⟨_, h1⟩, fun i hi => ?_⟩⟩
    have hi' : i < 1 := hi
    obtain rfl : i = 0 := by omega
    simp [World.cell?, h1]
    rfl
  · rw [List.mem_singleton] at hp
    subst hp
    exact hb
theorem ApartC.ins {ps : List (Cl Int)} {p : Cl Int} (h : ApartC ps) (hap : ∀ q ∈ ps, 0 < q.xs.length → 0 < p.xs.length → q.b ≠ p.b) (k : Nat) : ApartC (ps.take k ++ p :: ps.drop k) := by
  have h' : ApartC (ps.take k ++ ps.drop k) := by rw [List.take_append_drop]; exact h
  obtain ⟨p1, p2, p3⟩ := List.pairwise_append.1 h'
  refine List.pairwise_append.2 ⟨p1, List.pairwise_cons.2 ⟨fun q hq h0 h1 e => hap q (List.mem_of_mem_drop hq) h1 h0 e.symm, p2⟩, fun a ha b hb => ?_⟩
  rcases List.mem_cons.1 hb with rfl | hb
  · exact hap a (List.mem_of_mem_take ha)
  · exact p3 a ha b hb
theorem place_ins {S : List (List Int)} {x : List Int} {k : Nat} (h : Place S x k) (ha : LAsc S) (hx : x ∉ S) : LAsc (S.take k ++ x :: S.drop k) := by
  refine lasc_ins ha h.le h.lo (fun hk => ?_)
  have h1 := h.hi k (Nat.le_refl _) hk
  have h2 : ¬ lexc (S[k]?.getD []) x = 0 := fun e => hx ((h.mem ha).2 ⟨hk, e⟩)
  have h3 := lexc_swap (S[k]?.getD []) x
  omega
/-- What add leaves. -/
def AddQ (B : Nat) (w w' : World) (lv : Value) (L : List (List Int)) (ps : List (Cl Int)) (p : Cl Int) (e : Ending) : Prop :=
  e = .returned (.tuple #[]) ∧ ∃ lv' ps' c', SkB B w' lv' (L ++ [p.xs]) ps' c' ∧ (∀ q ∈ ps', q ∈ ps ∨ q = p ∨ w.heap.size ≤ q.b) ∧ Fr B lv.ownBlock w w' ∧ OwnN w lv lv'

set_option maxHeartbeats 8000000 in
set_option maxRecDepth 100000 in
theorem add_any (B : Nat) (lv : Value) (L : List (List Int)) (ps : List (Cl Int)) (c : Bool) (p : Cl Int) (w : World) (h : SkB B w lv L ps c) (hp : p.ok mI 0 3 w) (hlo : 0 < p.xs.length → B + 1 ≤ p.b) (hap : ∀ q ∈ ps, 0 < q.xs.length → 0 < p.xs.length → q.b ≠ p.b) :
    Calls Tryz.prog 70 #[.pointer (some ⟨B, 0, none⟩), p.v] w fun e w' => AddQ B w w' lv L ps p e := by
  have HB := hide h.box
  have HR := hide h.row
  have HAD := hide h.add
  have HP := hide hp
  have hBz : B < w.heap.size := World.rowIs.lt h.box
  obtain ⟨f0, f1, f2, f3⟩ := h.box.facts4
  obtain ⟨la, lc, rfl⟩ := own_is h.row.own
  have hadd := h.add
  clear h
  cases c with
  | true =>
    have hR : AddQ B w w (.slice la ps.length lc) L ps p (.returned (.tuple #[])) := ⟨rfl, _, ps, true, ⟨unhide HB, unhide HR, hadd.more _⟩, fun q hq => Or.inl hq, Fr.refl _ _ _, Or.inl rfl⟩
    have HRR := hide hR
    clear hR hadd
    go_enter Tryz.func70, Tryz.ntmps70
    go_wp2
    first | (refine bodyPost_ret (results_none rfl _ _ _) rfl ?_) | (refine bodyPost_end (results_none rfl _ _ _) rfl ?_)
    exact unhide HRR
  | false =>
    obtain ⟨hasc, hs50, hs60⟩ := hadd.asc
    rw [List.length_map] at hs50
    have hpv : ∃ pa pc, p.v = .slice pa p.xs.length pc := by obtain ⟨a, cap, e, -⟩ := hp; exact ⟨a, cap, e⟩
    obtain ⟨pa, pc, hpv⟩ := hpv
    have hpat := hp.at
    rw [hpv] at hpat ⊢
    have HPV := hide hpv
    have HPA := hide hpat
    have HSS := hide ((LL.foot (by decide) (unhide HR) (by unfold maxLen; omega)).all (Nat.le_refl _))
    have HASC := hide hasc
    clear hp hpat hasc hs60 hadd hpv
    go_enter Tryz.func70, Tryz.ntmps70
    go_wp2_with fail
    refine (bsf_any _ _ (ps.map Cl.xs) p.xs w (unhide HSS) (unhide HPA) (unhide HASC) (by rw [List.length_map]; omega)).mono ?_
    rintro e w1 ⟨⟨k, b, rfl, hpl, hb⟩, hw1⟩
    rw [hw1]
    clear hw1 w1
    have HPL := hide hpl
    have HBM := hide hb
    have hkl : k ≤ ps.length := by have := hpl.le; rwa [List.length_map] at this
    clear hpl hb
    cases b with
    | true =>
      have hR : AddQ B w w (.slice la ps.length lc) L ps p (.returned (.tuple #[])) := ⟨rfl, _, ps, false, ⟨unhide HB, unhide HR, (unhide HAD).known ((unhide HBM).1 rfl)⟩, fun q hq => Or.inl hq, Fr.refl _ _ _, Or.inl rfl⟩
      have HRR := hide hR
      clear hR
      go_wp2
      first | (refine bodyPost_ret (results_none rfl _ _ _) rfl ?_) | (refine bodyPost_end (results_none rfl _ _ _) rfl ?_)
      exact unhide HRR
    | false =>
      have hnx : p.xs ∉ ps.map Cl.xs := fun h => by cases (unhide HBM).2 h
      have HNX := hide hnx
      clear hnx
      by_cases hov : 60 < p.xs.length ∨ ps.length = 50
      · have HAD2 := hide ((unhide HAD).over (unhide HNX) (by rw [List.length_map]; exact hov))
        have HRR : Hid (AddQ B w ((((w.setCell ⟨B, 0, none⟩ (.slice (some ⟨w.heap.size + 1, 0, none⟩) 1 1)).setCell ⟨B, 1, none⟩ (.bool true)).alloc (.cells #[.int .i64 256] 3)).alloc (.cells #[.slice (some ⟨w.heap.size, 0, none⟩) 1 1] 41)) (.slice la ps.length lc) L ps p (.returned (.tuple #[]))) := by
          have hz2 : ((w.setCell ⟨B, 0, none⟩ (.slice (some ⟨w.heap.size + 1, 0, none⟩) 1 1)).setCell ⟨B, 1, none⟩ (.bool true)).heap.size = w.heap.size := by rw [sz_put, sz_put]
          have hbx : Bx2 ((w.setCell ⟨B, 0, none⟩ (.slice (some ⟨w.heap.size + 1, 0, none⟩) 1 1)).setCell ⟨B, 1, none⟩ (.bool true)) B 66 (.slice (some ⟨w.heap.size + 1, 0, none⟩) 1 1) (.bool true) := ((unhide HB).put0).put1
          have hne : ∀ k, k ≠ B → ((w.setCell ⟨B, 0, none⟩ (.slice (some ⟨w.heap.size + 1, 0, none⟩) 1 1)).setCell ⟨B, 1, none⟩ (.bool true)).heap[k]? = w.heap[k]? := fun k hk => by rw [Below.heap_setCell _ _ _ _ (by exact hk), Below.heap_setCell _ _ _ _ (by exact hk)]
          have hos : ((w.setCell ⟨B, 0, none⟩ (.slice (some ⟨w.heap.size + 1, 0, none⟩) 1 1)).setCell ⟨B, 1, none⟩ (.bool true)).os = w.os ∧ ((w.setCell ⟨B, 0, none⟩ (.slice (some ⟨w.heap.size + 1, 0, none⟩) 1 1)).setCell ⟨B, 1, none⟩ (.bool true)).tape = w.tape ∧ ((w.setCell ⟨B, 0, none⟩ (.slice (some ⟨w.heap.size + 1, 0, none⟩) 1 1)).setCell ⟨B, 1, none⟩ (.bool true)).output = w.output := ⟨rfl, rfl, rfl⟩
          generalize (w.setCell ⟨B, 0, none⟩ (.slice (some ⟨w.heap.size + 1, 0, none⟩) 1 1)).setCell ⟨B, 1, none⟩ (.bool true) = w3 at *
          have hb3 := below2 w3 (.cells #[.int .i64 256] 3) (.cells #[.slice (some ⟨w.heap.size, 0, none⟩) 1 1] 41)
          have hl1 : ((w3.alloc (.cells #[.int .i64 256] 3)).alloc (.cells #[.slice (some ⟨w.heap.size, 0, none⟩) 1 1] 41)).heap[w.heap.size]? = some (.cells #[.int .i64 256] 3 (0, 0)) := by
            show ((w3.heap.push _).push _)[w.heap.size]? = _
            rw [← hz2, Array.getElem?_push_lt (by simp)]
            simp
          have hl2 : ((w3.alloc (.cells #[.int .i64 256] 3)).alloc (.cells #[.slice (some ⟨w.heap.size, 0, none⟩) 1 1] 41)).heap[w.heap.size + 1]? = some (.cells #[.slice (some ⟨w.heap.size, 0, none⟩) 1 1] 41 (0, 0)) := by
            show ((w3.heap.push _).push _)[w.heap.size + 1]? = _
            rw [Array.getElem?_push, if_pos (by simp [hz2])]
          exact ⟨rfl, .slice (some ⟨w.heap.size + 1, 0, none⟩) 1 1, [⟨.slice (some ⟨w.heap.size, 0, none⟩) 1 1, [256], w.heap.size⟩], true, ⟨(hbx.alloc _).alloc _, gap_row hl1 hl2 (by omega), unhide HAD2⟩, fun q hq => Or.inr (Or.inr (by rw [List.mem_singleton] at hq; rw [hq]; exact Nat.le_refl _)), ⟨hb3.os.trans hos.1, hb3.tape.trans hos.2.1, hb3.output.trans hos.2.2, by have := hb3.size; omega, fun k k1 k2 _ => (hb3.block k (by omega)).trans (hne k k2)⟩, Or.inr (Or.inr ⟨w.heap.size + 1, by omega, rfl⟩)⟩
        rcases hov with hov | hov
        · have hov' : (60 : Int) < (p.xs.length : Int) := by omega
          go_wp2
          first | (refine bodyPost_ret (results_none rfl _ _ _) rfl ?_) | (refine bodyPost_end (results_none rfl _ _ _) rfl ?_)
          exact unhide HRR
        · have hov' : ((ps.length : Int) == 50) = true := by rw [hov]; rfl
          by_cases h60 : 60 < p.xs.length
          · have h60' : (60 : Int) < (p.xs.length : Int) := by omega
            clear hov
            go_wp2
            first | (refine bodyPost_ret (results_none rfl _ _ _) rfl ?_) | (refine bodyPost_end (results_none rfl _ _ _) rfl ?_)
            exact unhide HRR
          · have h60' : ¬ (60 : Int) < (p.xs.length : Int) := by omega
            clear hov
            go_wp2
            first | (refine bodyPost_ret (results_none rfl _ _ _) rfl ?_) | (refine bodyPost_end (results_none rfl _ _ _) rfl ?_)
            exact unhide HRR
      · have h60 : ¬ (60 : Int) < (p.xs.length : Int) := by omega
        have h50 : ((ps.length : Int) == 50) = false := by rw [beq_eq_false_iff_ne]; omega
        have h50' : ps.length < 50 := by omega
        have hA3 := below1 w (.cells #[.slice pa p.xs.length pc] 41)
        have hzA : (w.alloc (.cells #[.slice pa p.xs.length pc] 41)).heap.size = w.heap.size + 1 := sz_alloc _ _
        have hlit : (w.alloc (.cells #[.slice pa p.xs.length pc] 41)).heap[w.heap.size]? = some (.cells #[.slice pa p.xs.length pc] 41 (0, 0)) := by
          show (w.heap.push _)[w.heap.size]? = _
          simp
        have HI := hide (insert_any (B + 1) ps.length k w.heap.size (.slice la ps.length lc) (.slice pa p.xs.length pc) (ps.map Cl.v) _ ((unhide HR).own.alloc (.cells #[.slice pa p.xs.length pc] 41)) hkl (by omega) (by rw [hzA]; omega) hlit (fun e => by have := ((unhide HR).own.lt _ e).2; omega) (fun v hv => by obtain ⟨q, hq, rfl⟩ := List.mem_map.1 hv; exact ((unhide HR).ok q hq).one) rfl)
        have HB3 := hide ((unhide HB).alloc (.cells #[.slice pa p.xs.length pc] 41))
        obtain ⟨x0, x1, x2, x3⟩ := (unhide HB3).facts4
        clear hlit
        go_wp2_with fail
        generalize w.alloc (.cells #[.slice pa p.xs.length pc] 41) = w3 at *
        refine (unhide HI).mono ?_
        rintro e w4 ⟨v4, rfl, ho4, hg4, hb4⟩
        have hz4 := hg4.size
        have hBx4 : Bx2 w4 B 66 (.slice la ps.length lc) (.bool false) := (unhide HB3).blk (hg4.block B (by omega) (fun e => by have := ((unhide HR).own.lt _ e.symm).1; omega))
        have HB4 := hide hBx4
        obtain ⟨y0, y1, y2, y3⟩ := hBx4.facts4
        have hR : ∀ v5 : Value, v5 = v4 → AddQ B w (w4.setCell ⟨B, 0, none⟩ v5) (.slice la ps.length lc) L ps p (.returned (.tuple #[])) := fun v5 e5 => by
          subst e5
          have hsame : ∀ q : Cl Int, q.ok mI 0 3 w → (0 < q.xs.length → B + 1 ≤ q.b) → q.ok mI 0 3 (w4.setCell ⟨B, 0, none⟩ v5) := fun q hq hql => hq.same (fun h0 => by
            have h1 := hq.lt h0
            have h2 := hql h0
            rw [Below.heap_setCell _ _ _ _ (by show q.b ≠ B; omega), hg4.block q.b (by omega) ((unhide HR).not_row (by decide) hq rfl h0), hA3.block q.b h1])
          have hown5 : (w4.setCell ⟨B, 0, none⟩ v5).ownsRow (B + 1) 41 1 v5 (ps.length + 1) ((ps.map Cl.v).take k ++ .slice pa p.xs.length pc :: (ps.map Cl.v).drop k) := by
            refine ⟨ho4.1, ?_⟩
            rcases ho4.2 with q | ⟨g, cap, cur, e1, e2, e3, e4⟩
            · exact Or.inl q
            · exact Or.inr ⟨g, cap, cur, e1, e2, (Below.heap_setCell _ _ _ _ (by show g ≠ B; omega)).trans e3, e4⟩
          have hmv : (ps.take k ++ p :: ps.drop k).map Cl.v = (ps.map Cl.v).take k ++ .slice pa p.xs.length pc :: (ps.map Cl.v).drop k := by rw [List.map_append, List.map_cons, List.map_take, List.map_drop, unhide HPV]
          have hmx : (ps.take k ++ p :: ps.drop k).map Cl.xs = (ps.map Cl.xs).take k ++ p.xs :: (ps.map Cl.xs).drop k := by rw [List.map_append, List.map_cons, List.map_take, List.map_drop]
          have hlen : (ps.take k ++ p :: ps.drop k).length = ps.length + 1 := by rw [List.length_append, List.length_cons, List.length_take, List.length_drop]; omega
          have hmem : ∀ q, q ∈ ps.take k ++ p :: ps.drop k → q ∈ ps ∨ q = p := fun q hq => by
            rcases List.mem_append.1 hq with hq | hq
            · exact Or.inl (List.mem_of_mem_take hq)
            · rcases List.mem_cons.1 hq with hq | hq
              · exact Or.inr hq
              · exact Or.inl (List.mem_of_mem_drop hq)
          refine ⟨rfl, v5, ps.take k ++ p :: ps.drop k, false, ⟨(unhide HB4).put0, ⟨by rw [hlen, hmv]; exact hown5, fun q hq => ?_, fun q hq h0 => ?_, ApartC.ins (unhide HR).apart hap k⟩, ?_⟩, fun q hq => (hmem q hq).imp id Or.inl, ⟨hg4.os.trans hA3.os, hg4.tape.trans hA3.tape, hg4.output.trans hA3.output, by rw [sz_put]; omega, fun j j1 j2 j3 => ?_⟩, ?_⟩
          · rcases hmem q hq with hq | hq
            · exact hsame q ((unhide HR).ok q hq) ((unhide HR).lo q hq)
            · rw [hq]; exact hsame p (unhide HP) hlo
          · rcases hmem q hq with hq | hq
            · exact (unhide HR).lo q hq h0
            · rw [hq] at h0 ⊢; exact hlo h0
          · rw [hmx]
            exact (unhide HAD).ins (by omega) (by rw [List.length_map]; exact h50') (place_ins (unhide HPL) (unhide HASC) (unhide HNX)) (by rw [← hmx, List.length_map, hlen, List.length_map]) (mem_ins k)
          · rw [Below.heap_setCell _ _ _ _ (by exact j2), hg4.block j (by omega) (fun e => j3 e.symm), hA3.block j j1]
          · rcases hb4 with e | ⟨j, hj, e⟩
            · exact Or.inl e
            · exact Or.inr (Or.inr ⟨j, by omega, e⟩)
        obtain ⟨g4, c4, rfl⟩ := ownsRow_succ ho4
        have HRR := hide (hR _ rfl)
        clear hR ho4 hg4 hb4 hBx4
        go_wp2
        first | (refine bodyPost_ret (results_none rfl _ _ _) rfl ?_) | (refine bodyPost_end (results_none rfl _ _ _) rfl ?_)
        exact unhide HRR

end Go.Proofs.YtjefklagedidmaaGreat

namespace Go.Proofs.YtjefklagedidmaaGreat
open Go.RowKit

/-- Lists that a set's methods leave alone. -/
structure Side (B : Nat) (lv : Value) (w : World) (v : Value) (qs : List (Cl Int)) : Prop where
  ll : LL mI 0 3 41 (B + 1) w v qs
  row : ∀ k, v.ownBlock = some k → lv.ownBlock ≠ some k
theorem Side.fr {B : Nat} {lv lv' v : Value} {w w' : World} {ps qs : List (Cl Int)} (h : Side B lv w v qs) (hl : LL mI 0 3 41 (B + 1) w lv ps) (hf : Fr B lv.ownBlock w w') (ho : OwnN w lv lv') : Side B lv' w' v qs := by
  have hb : ∀ k, v.ownBlock = some k → w'.heap[k]? = w.heap[k]? := fun k hk => hf.block k (h.ll.own.lt k hk).2 (by have := (h.ll.own.lt k hk).1; omega) (h.row k hk)
  refine ⟨⟨⟨h.ll.own.1, ?_⟩, fun q hq => (h.ll.ok q hq).same (fun h0 => hf.block _ ((h.ll.ok q hq).lt h0) (by have := h.ll.lo q hq h0; omega) (fun e => hl.not_row (by decide) (h.ll.ok q hq) rfl h0 e.symm)), h.ll.lo, h.ll.apart⟩, fun k hk e => ?_⟩
  · rcases h.ll.own.2 with q | ⟨g, cap, cur, e1, e2, e3, e4⟩
    · exact Or.inl q
    · exact Or.inr ⟨g, cap, cur, e1, e2, (hb g (by rw [e1]; rfl)).trans e3, e4⟩
  · rcases ho with e2 | e2 | ⟨j, hj, e2⟩
    · rw [e2] at e; exact h.row k hk e
    · rw [e2] at e; cases e
    · rw [e2] at e
      have := (h.ll.own.lt k hk).2
      have := Option.some.inj e
      omega
/-- What addAll and its like leave, M being the candidates that came. -/
def AddsR (B : Nat) (w w' : World) (lv : Value) (L M : List (List Int)) (ps qs : List (Cl Int)) : Prop :=
  ∃ lv' ps' c', SkB B w' lv' (L ++ M) ps' c' ∧ (∀ q ∈ ps', q ∈ ps ∨ q ∈ qs ∨ (0 < q.xs.length → w.heap.size ≤ q.b)) ∧ Fr B lv.ownBlock w w' ∧ OwnN w lv lv'

set_option maxHeartbeats 8000000 in
set_option maxRecDepth 100000 in
theorem addAll_any (B : Nat) (lv v : Value) (L : List (List Int)) (ps qs : List (Cl Int)) (c : Bool) (w : World) (h : SkB B w lv L ps c) (hv : Side B lv w v qs) (hql : qs.length ≤ 1048576) (hap : ∀ p ∈ ps, ∀ q ∈ qs, 0 < p.xs.length → 0 < q.xs.length → p.b ≠ q.b) :
    Calls Tryz.prog 71 #[.pointer (some ⟨B, 0, none⟩), v] w fun e w' => e = .returned (.tuple #[]) ∧ AddsR B w w' lv L (qs.map Cl.xs) ps qs := by
  have HK := hide h
  have HV := hide hv
  have HAP := hide hap
  obtain ⟨va, vc, rfl⟩ := own_is hv.ll.own
  clear h hv hap
  go_enter Tryz.func71, Tryz.ntmps71
  go_wp2_with fail
  go_loopw [8] (fun iv wr => ∃ k : Nat, k ≤ qs.length ∧ iv = .int .i64 (k : Nat) ∧ AddsR B w wr lv L ((qs.take k).map Cl.xs) ps (qs.take k)) (fun iv _ => qs.length - (intOf iv).toNat)
  case atStart => exact ⟨0, Nat.zero_le _, rfl, lv, ps, c, by rw [List.take_zero, List.map_nil, List.append_nil]; exact unhide HK, fun q hq => Or.inl hq, Fr.refl _ _ _, Or.inl rfl⟩
  case round =>
    obtain ⟨k, hk, rfl, lv', ps', c', hsk, hsub, hfr, hon⟩ := hrel
    have HSK := hide hsk
    have HSUB := hide hsub
    have HFR := hide hfr
    have HON := hide hon
    have hVr := (unhide HV).fr (unhide HK).row hfr hon
    have HVR := hide hVr
    clear hsk hsub hon
    by_cases hlt : k < qs.length
    · have hlt' : (k : Int) < (qs.length : Int) := by omega
      obtain ⟨q, hq⟩ : ∃ q, qs[k]? = some q := ⟨qs[k], by simp [hlt]⟩
      have hqm : q ∈ qs := List.mem_of_getElem? hq
      rcases hVr.ll.own.2 with ⟨e9, hz9⟩ | ⟨g, cap, cur, e9, -⟩
      · omega
      · simp only [Value.slice.injEq] at e9
        obtain ⟨rfl, -, rfl⟩ := e9
        have hcell : wr.cell? ⟨g, k, none⟩ = some q.v := by
          rw [hVr.ll.own.cellAt k (by omega), List.getElem?_map, hq]
          rfl
        have HOK := hide (hVr.ll.ok q hqm)
        have hlo := hVr.ll.lo q hqm
        have hqb : 0 < q.xs.length → q.b < w.heap.size := fun h0 => ((unhide HV).ll.ok q hqm).lt h0
        have hsn : qs.take (k + 1) = qs.take k ++ [q] := by rw [List.take_add_one, hq]; rfl
        have HSN := hide hsn
        have HAPK : Hid (∀ p ∈ ps', 0 < p.xs.length → 0 < q.xs.length → p.b ≠ q.b) := fun p hp h0 h1 e => by
          rcases unhide HSUB p hp with hp | hp | hp
          · exact unhide HAP p hp q hqm h0 h1 e
          · obtain ⟨t, ht, et⟩ := List.mem_iff_getElem.1 hp
            rw [List.length_take] at ht
            have hpair := List.pairwise_iff_getElem.1 (unhide HV).ll.apart t k (by omega) hlt (by omega)
            rw [List.getElem_take] at et
            have eq : qs[k] = q := (List.getElem?_eq_some_iff.1 hq).2
            exact hpair (by rw [et]; exact h0) (by rw [eq]; exact h1) (by rw [et, eq]; exact e)
          · have := hqb h1
            have := hp h0
            omega
        obtain ⟨pa, pc, hpv⟩ : ∃ pa pc, q.v = .slice pa q.xs.length pc := by obtain ⟨a, cp, e, -⟩ := hVr.ll.ok q hqm; exact ⟨a, cp, e⟩
        have HPV := hide hpv
        rw [hpv] at hcell
        have HLO := hide hlo
        clear hVr hq hsn hpv hlo hqb
        go_wp2_with fail
        rw [← unhide HPV]
        refine (add_any B lv' (L ++ (qs.take k).map Cl.xs) ps' c' q wr (unhide HSK) (unhide HOK) (unhide HLO) (unhide HAPK)).mono ?_
        rintro e w1 ⟨rfl, lv2, ps2, c2, hs2, hsub2, hfr2, hon2⟩
        have HS2 := hide hs2
        have hR : AddsR B w w1 lv L ((qs.take (k + 1)).map Cl.xs) ps (qs.take (k + 1)) := by
          rw [unhide HSN]
          refine ⟨lv2, ps2, c2, by rw [List.map_append, ← List.append_assoc]; exact hs2, fun p hp => ?_, Fr.trans hfr (unhide HON) hfr2, OwnN.trans (unhide HON) hfr.size hon2⟩
          rcases hsub2 p hp with hp | hp | hp
          · rcases unhide HSUB p hp with hp | hp | hp
            · exact Or.inl hp
            · exact Or.inr (Or.inl (List.mem_append_left _ hp))
            · exact Or.inr (Or.inr hp)
          · exact Or.inr (Or.inl (List.mem_append_right _ (by rw [hp]; exact List.mem_singleton_self _)))
          · exact Or.inr (Or.inr (fun _ => by have := hfr.size; omega))
        have HRR := hide hR
        clear hR hs2 hsub2 hfr2 hon2 hfr
        go_wp2
        exact ⟨⟨k + 1, by omega, by go_num, unhide HRR⟩, by simp [intOf]; omega⟩
    · obtain rfl : k = qs.length := by omega
      have hlt' : ¬ (qs.length : Int) < (qs.length : Int) := by omega
      have hR : AddsR B w wr lv L (qs.map Cl.xs) ps qs := by
        have h1 : qs.take qs.length = qs := List.take_length
        rw [h1] at HSK HSUB
        exact ⟨lv', ps', c', unhide HSK, unhide HSUB, hfr, unhide HON⟩
      have HRR := hide hR
      clear hR hfr hVr
      go_wp2
      first | (refine bodyPost_ret (results_none rfl _ _ _) rfl ?_) | (refine bodyPost_end (results_none rfl _ _ _) rfl ?_)
      exact ⟨rfl, unhide HRR⟩

theorem SkB.keep {B m : Nat} {w w' : World} {lv : Value} {L : List (List Int)} {ps : List (Cl Int)} {c : Bool} (h : SkB B w lv L ps c) (hb : Below m w w') (hm : w.heap.size ≤ m) : SkB B w' lv L ps c := ⟨h.box.below hb (by have := World.rowIs.lt h.box; omega), h.row.keep hb hm, h.add⟩
theorem Side.keep {B m : Nat} {lv v : Value} {w w' : World} {qs : List (Cl Int)} (h : Side B lv w v qs) (hb : Below m w w') (hm : w.heap.size ≤ m) : Side B lv w' v qs := ⟨h.ll.keep hb hm, h.row⟩
theorem Below.fr {m B : Nat} {row : Option Nat} {w w' : World} (h : Below m w w') (hm : w.heap.size ≤ m) : Fr B row w w' := ⟨h.os, h.tape, h.output, h.size, fun k k1 _ _ => h.block k (by omega)⟩
theorem prd_step (A Bs : List (List Int)) (i : Nat) (a : List Int) (h : A[i]? = some a) : prd (A.take (i + 1)) Bs = prd (A.take i) Bs ++ Bs.map (jn2 a) := by
  unfold prd
  rw [List.take_add_one, h, List.flatMap_append]
  simp
theorem prd_sub {A Bs : List (List Int)} {i : Nat} {z : List Int} (h : z ∈ prd (A.take i) Bs) : z ∈ prd A Bs := by
  obtain ⟨a, ha, b, hb, e⟩ := mem_prd.1 h
  exact mem_prd.2 ⟨a, List.mem_of_mem_take ha, b, hb, e⟩

end Go.Proofs.YtjefklagedidmaaGreat

namespace Go.Proofs.YtjefklagedidmaaGreat
open Go.RowKit

set_option maxHeartbeats 8000000 in
set_option maxRecDepth 100000 in
theorem addJoined_any (B : Nat) (lv v1 v2 : Value) (L : List (List Int)) (ps qs1 qs2 : List (Cl Int)) (c : Bool) (w : World) (h : SkB B w lv L ps c) (h1 : Side B lv w v1 qs1) (h2 : Side B lv w v2 qs2) (hl1 : qs1.length ≤ 1048576) (hl2 : qs2.length ≤ 1048576) (hx1 : ∀ q ∈ qs1, q.xs.length ≤ 1000) (hx2 : ∀ q ∈ qs2, q.xs.length ≤ 1000) :
    Calls Tryz.prog 73 #[.pointer (some ⟨B, 0, none⟩), v1, v2] w fun e w' => e = .returned (.tuple #[]) ∧ AddsR B w w' lv L (prd (qs1.map Cl.xs) (qs2.map Cl.xs)) ps [] := by
  have HK := hide h
  have H1 := hide h1
  have H2 := hide h2
  have HX1 := hide hx1
  have HX2 := hide hx2
  obtain ⟨a1, c1, rfl⟩ := own_is h1.ll.own
  obtain ⟨a2, c2, rfl⟩ := own_is h2.ll.own
  have hBz : B < w.heap.size := World.rowIs.lt h.box
  clear h h1 h2 hx1 hx2
  go_enter Tryz.func73, Tryz.ntmps73
  go_wp2_with fail
  go_loopw [12] (fun iv wr => ∃ i : Nat, i ≤ qs1.length ∧ iv = .int .i64 (i : Nat) ∧ AddsR B w wr lv L (prd ((qs1.map Cl.xs).take i) (qs2.map Cl.xs)) ps []) (fun iv _ => qs1.length - (intOf iv).toNat)
  case atStart => exact ⟨0, Nat.zero_le _, rfl, lv, ps, c, by rw [List.take_zero]; show SkB B w lv (L ++ []) ps c; rw [List.append_nil]; exact unhide HK, fun q hq => Or.inl hq, Fr.refl _ _ _, Or.inl rfl⟩
  case round =>
    rename World => V
    obtain ⟨i, hi, rfl, hadds⟩ := hrel
    have HADD := hide hadds
    by_cases hlt : i < qs1.length
    · have hlt' : (i : Int) < (qs1.length : Int) := by omega
      obtain ⟨p, hp⟩ : ∃ p, qs1[i]? = some p := ⟨qs1[i], by simp [hlt]⟩
      have hpm : p ∈ qs1 := List.mem_of_getElem? hp
      obtain ⟨lv', ps', c', hsk, hsub, hfr, hon⟩ := hadds
      have hV1 := (unhide H1).fr (unhide HK).row hfr hon
      rcases hV1.ll.own.2 with ⟨e9, hz9⟩ | ⟨g1, cap1, cur1, e9, -⟩
      · omega
      · simp only [Value.slice.injEq] at e9
        obtain ⟨rfl, -, rfl⟩ := e9
        have hcell : V.cell? ⟨g1, i, none⟩ = some p.v := by
          rw [hV1.ll.own.cellAt i (by omega), List.getElem?_map, hp]
          rfl
        obtain ⟨pa, pc, hpv⟩ : ∃ pa pc, p.v = .slice pa p.xs.length pc := by obtain ⟨a, cp, e, -⟩ := hV1.ll.ok p hpm; exact ⟨a, cp, e⟩
        rw [hpv] at hcell
        have HPV := hide hpv
        have HPM := hide hpm
        have HPX : Hid ((qs1.map Cl.xs)[i]? = some p.xs) := by show (qs1.map Cl.xs)[i]? = some p.xs; rw [List.getElem?_map, hp]; rfl
        clear hV1 hsk hsub hfr hon hpv hp hpm
        go_wp2_with fail
        go_loopw [18] (fun jv wr => ∃ j : Nat, j ≤ qs2.length ∧ jv = .int .i64 (j : Nat) ∧ AddsR B w wr lv L (prd ((qs1.map Cl.xs).take i) (qs2.map Cl.xs) ++ ((qs2.map Cl.xs).take j).map (jn2 p.xs)) ps []) (fun jv _ => qs2.length - (intOf jv).toNat)
        case atStart => exact ⟨0, Nat.zero_le _, rfl, by rw [List.take_zero, List.map_nil, List.append_nil]; exact unhide HADD⟩
        case round =>
          obtain ⟨j, hj, rfl, hadj⟩ := hrel
          have HADJ := hide hadj
          by_cases hltj : j < qs2.length
          · have hltj' : (j : Int) < (qs2.length : Int) := by omega
            obtain ⟨q, hq⟩ : ∃ q, qs2[j]? = some q := ⟨qs2[j], by simp [hltj]⟩
            have hqm : q ∈ qs2 := List.mem_of_getElem? hq
            obtain ⟨lv2, ps2, cc, hsk, hsub, hfr, hon⟩ := hadj
            have hW1 := (unhide H1).fr (unhide HK).row hfr hon
            have hW2 := (unhide H2).fr (unhide HK).row hfr hon
            rcases hW2.ll.own.2 with ⟨e9, hz9⟩ | ⟨g2, cap2, cur2, e9, -⟩
            · omega
            · simp only [Value.slice.injEq] at e9
              obtain ⟨rfl, -, rfl⟩ := e9
              have hcell2 : wr.cell? ⟨g2, j, none⟩ = some q.v := by
                rw [hW2.ll.own.cellAt j (by omega), List.getElem?_map, hq]
                rfl
              obtain ⟨qa, qc, hqv⟩ : ∃ qa qc, q.v = .slice qa q.xs.length qc := by obtain ⟨a, cp, e, -⟩ := hW2.ll.ok q hqm; exact ⟨a, cp, e⟩
              rw [hqv] at hcell2
              obtain ⟨f0, f1, f2, f3⟩ := hsk.box.facts4
              have hQX : (qs2.map Cl.xs)[j]? = some q.xs := by rw [List.getElem?_map, hq]; rfl
              have hszr := hfr.size
              cases cc with
              | true =>
                have hR : AddsR B w wr lv L (prd (qs1.map Cl.xs) (qs2.map Cl.xs)) ps [] := by
                  refine ⟨lv2, ps2, true, ⟨hsk.box, hsk.row, (hsk.add.more (prd (qs1.map Cl.xs) (qs2.map Cl.xs))).same (fun z => ?_)⟩, hsub, hfr, hon⟩
                  constructor
                  · intro hz
                    rcases List.mem_append.1 hz with hz | hz
                    · rcases List.mem_append.1 hz with hz | hz
                      · exact List.mem_append_left _ hz
                      · rcases List.mem_append.1 hz with hz | hz
                        · exact List.mem_append_right _ (prd_sub hz)
                        · obtain ⟨b, hb, rfl⟩ := List.mem_map.1 hz
                          exact List.mem_append_right _ (mem_prd.2 ⟨p.xs, List.mem_of_getElem? (unhide HPX), b, List.mem_of_mem_take hb, rfl⟩)
                    · exact List.mem_append_right _ hz
                  · intro hz
                    rcases List.mem_append.1 hz with hz | hz
                    · exact List.mem_append_left _ (List.mem_append_left _ hz)
                    · exact List.mem_append_right _ hz
                have HRR := hide hR
                clear hR hsk hsub hfr hon hW1 hW2 hqv hq
                go_wp2
                first | (refine bodyPost_ret (results_none rfl _ _ _) rfl ?_) | (refine bodyPost_end (results_none rfl _ _ _) rfl ?_)
                exact ⟨rfl, unhide HRR⟩
              | false =>
                have HSK := hide hsk
                have HSUB := hide hsub
                have HFR := hide hfr
                have HON := hide hon
                have hpo := hW1.ll.ok p (unhide HPM)
                have hqo := hW2.ll.ok q hqm
                have HJ := hide (joinSk_any p.v q.v p.xs q.xs wr hpo.at hpo.cap hqo.at hqo.cap (by have := unhide HX1 p (unhide HPM); have := unhide HX2 q hqm; omega))
                rw [unhide HPV, hqv] at HJ
                have HQX := hide hQX
                clear hsk hsub hfr hon hW1 hW2 hqv hq hpo hqo hQX
                go_wp2_with fail
                refine (unhide HJ).mono ?_
                rintro e w4 ⟨v4, rfl, hown4, hb4⟩
                have hz4 := hb4.size
                obtain ⟨pb, hok4, hlo4⟩ := own_cl hown4
                obtain ⟨va4, vc4, rfl⟩ := own_is hown4
                have HOK4 := hide hok4
                have HSK4 := hide ((unhide HSK).keep hb4 (Nat.le_refl _))
                have HAP4 : Hid (∀ t ∈ ps2, 0 < t.xs.length → 0 < (jn2 p.xs q.xs).length → t.b ≠ pb) := fun t ht h0 h5 e => by
                  have := ((unhide HSK).row.ok t ht).lt h0
                  have := hlo4 h5
                  omega
                have HLO4 : Hid (0 < (jn2 p.xs q.xs).length → B + 1 ≤ pb) := fun h5 => by have := hlo4 h5; omega
                have HLW : Hid (0 < (jn2 p.xs q.xs).length → w.heap.size ≤ pb) := fun h5 => by have := hlo4 h5; omega
                have HB4 := hide hb4
                clear hown4 hok4 hlo4 hb4
                generalize hJL : (jn2 p.xs q.xs).length = JL at *
                have HJL := hide hJL
                clear hJL
                go_wp2_with fail
                refine (add_any B lv2 _ ps2 false ⟨.slice va4 JL vc4, jn2 p.xs q.xs, pb⟩ w4 (unhide HSK4) (unhide HOK4) (by rw [unhide HJL]; exact unhide HLO4) (by rw [unhide HJL]; exact unhide HAP4)).mono ?_
                rintro e w5 ⟨rfl, lv3, ps3, c3, hs3, hsub3, hfr3, hon3⟩
                have hfr2 : Fr B lv.ownBlock w w4 := Fr.trans (unhide HFR) (unhide HON) (Below.fr (unhide HB4) (Nat.le_refl _))
                have hR : AddsR B w w5 lv L (prd ((qs1.map Cl.xs).take i) (qs2.map Cl.xs) ++ ((qs2.map Cl.xs).take (j + 1)).map (jn2 p.xs)) ps [] := by
                  refine ⟨lv3, ps3, c3, ?_, fun t ht => ?_, Fr.trans hfr2 (unhide HON) hfr3, OwnN.trans (unhide HON) (Nat.le_trans hszr hz4) hon3⟩
                  · have e9 : L ++ (prd ((qs1.map Cl.xs).take i) (qs2.map Cl.xs) ++ ((qs2.map Cl.xs).take (j + 1)).map (jn2 p.xs)) = L ++ (prd ((qs1.map Cl.xs).take i) (qs2.map Cl.xs) ++ ((qs2.map Cl.xs).take j).map (jn2 p.xs)) ++ [jn2 p.xs q.xs] := by
                      rw [List.take_add_one, unhide HQX]
                      simp
                    rw [e9]
                    exact hs3
                  · rcases hsub3 t ht with ht | ht | ht
                    · exact unhide HSUB t ht
                    · exact Or.inr (Or.inr (fun h0 => by rw [ht] at h0 ⊢; exact unhide HLW (by rw [← unhide HJL]; exact h0)))
                    · exact Or.inr (Or.inr (fun _ => by omega))
                have HRR := hide hR
                clear hR hs3 hsub3 hfr3 hon3 hfr2
                go_wp2
                exact ⟨⟨j + 1, by omega, by go_num, unhide HRR⟩, by simp [intOf]; omega⟩
          · obtain rfl : j = qs2.length := by omega
            have hltj' : ¬ (qs2.length : Int) < (qs2.length : Int) := by omega
            have hR : AddsR B w wr lv L (prd ((qs1.map Cl.xs).take (i + 1)) (qs2.map Cl.xs)) ps [] := by
              rw [prd_step _ _ _ _ (unhide HPX)]
              have h9 := unhide HADJ
              have e9 : (qs2.map Cl.xs).take qs2.length = qs2.map Cl.xs := List.take_of_length_le (by rw [List.length_map]; exact Nat.le_refl _)
              rw [e9] at h9
              exact h9
            have HRR := hide hR
            clear hR hadj
            go_wp2
            exact ⟨⟨i + 1, by omega, by go_num, unhide HRR⟩, by simp [intOf]; omega⟩
    · obtain rfl : i = qs1.length := by omega
      have hlt' : ¬ (qs1.length : Int) < (qs1.length : Int) := by omega
      have hR : AddsR B w V lv L (prd (qs1.map Cl.xs) (qs2.map Cl.xs)) ps [] := by
        have h9 := unhide HADD
        rw [List.take_of_length_le (by rw [List.length_map]; exact Nat.le_refl _)] at h9
        exact h9
      have HRR := hide hR
      clear hR hadds
      go_wp2
      first | (refine bodyPost_ret (results_none rfl _ _ _) rfl ?_) | (refine bodyPost_end (results_none rfl _ _ _) rfl ?_)
      exact ⟨rfl, unhide HRR⟩

end Go.Proofs.YtjefklagedidmaaGreat

namespace Go.Proofs.YtjefklagedidmaaGreat
open Go.RowKit

/-- A set of bytes as a canonical list of ranges. -/
def PairOk (xs : List Int) (i : Nat) : Prop := xs[i]?.getD 0 ≤ xs[i + 1]?.getD 0 ∧ (0 < i → 2 ≤ xs[i]?.getD 0 - xs[i - 1]?.getD 0)
def Canon (xs : List Int) : Prop :=
  xs.length % 2 = 0 ∧ (∀ i : Nat, i < xs.length → 0 ≤ xs[i]?.getD 0 ∧ xs[i]?.getD 0 ≤ 255) ∧ ∀ m : Nat, 2 * m < xs.length → PairOk xs (2 * m)

set_option maxHeartbeats 1000000 in
theorem l1canon_any (v : Value) (xs : List Int) (w : World) (hv : IntsAt 0 w.heap.size w v xs) :
    Calls Tryz.prog 109 #[v] w fun e w' => RetB e (Canon xs) ∧ Below w.heap.size w w' := by
  obtain ⟨a, cap, rfl, hl, hr, hc⟩ := hv
  unfold maxLen at hl
  by_cases hev : xs.length % 2 = 0
  · have hev' : ((xs.length : Int) % 2 != 0) = false := by simp; omega
    go_enter Tryz.func109, Tryz.ntmps109
    go_wp2
    go_loop [3] (fun i => ∃ k : Nat, k ≤ xs.length ∧ i = .int .i64 k ∧ ∀ j : Nat, j < k → 0 ≤ xs[j]?.getD 0 ∧ xs[j]?.getD 0 ≤ 255) (fun i => xs.length - (intOf i).toNat)
    case atStart => exact ⟨0, Nat.zero_le _, rfl, fun j hj => absurd hj (Nat.not_lt_zero _)⟩
    case round =>
      obtain ⟨k, hk, rfl, hin⟩ := hrel
      by_cases hlt : k < xs.length
      · obtain ⟨b, off, rfl, -, hbn, hcell⟩ := hc (by omega)
        have hx := hcell k hlt
        have hlt' : (k : Int) < (xs.length : Int) := by omega
        have Hin := hide hin
        clear hin
        generalize hX : xs[k]?.getD 0 = x at *
        have HX := hide hX
        clear hX hcell
        by_cases h1 : x < 0
        · go_wp2
          go_ret
          exact ⟨RetB.no (by intro hcn; have := (hcn.2.1 k hlt).1; rw [unhide HX] at this; omega), Below.refl _ _⟩
        · by_cases h2 : 255 < x
          · go_wp2
            go_ret
            exact ⟨RetB.no (by intro hcn; have := (hcn.2.1 k hlt).2; rw [unhide HX] at this; omega), Below.refl _ _⟩
          · go_wp2
            go_round
            case rel => exact ⟨k + 1, by omega, by go_num, fun j hj => by
              by_cases e : j = k
              · subst e; rw [unhide HX]; omega
              · exact unhide Hin j (by omega)⟩
            case measure => simp [intOf]; omega
      · obtain rfl : k = xs.length := by omega
        have Hin := hide hin
        clear hin
        go_wp2
        go_loopw [4] (fun i wr => ∃ m : Nat, 2 * m ≤ xs.length ∧ i = .int .i64 (2 * m : Nat) ∧ (∀ j : Nat, j < m → PairOk xs (2 * j)) ∧ Below w.heap.size w wr) (fun i _ => xs.length - (intOf i).toNat)
        case atStart => exact ⟨0, Nat.zero_le _, rfl, fun j hj => absurd hj (Nat.not_lt_zero _), Below.refl _ _⟩
        case round =>
          obtain ⟨m, hm, rfl, hpr, hb⟩ := hrel
          have Hpr := hide hpr
          clear hpr
          by_cases hlt2 : 2 * m < xs.length
          · obtain ⟨b, off, rfl, -, hbn, hcell⟩ := hc (by omega)
            have hx : wr.cell? ⟨b, off + 2 * m, none⟩ = some (.int .i64 (xs[2 * m]?.getD 0)) := by rw [hb.cell (p := ⟨b, off + 2 * m, none⟩) hbn]; exact hcell _ hlt2
            have hy : wr.cell? ⟨b, off + (2 * m + 1), none⟩ = some (.int .i64 (xs[2 * m + 1]?.getD 0)) := by rw [hb.cell (p := ⟨b, off + (2 * m + 1), none⟩) hbn]; exact hcell _ (by omega)
            have hlt2' : (2 * (m : Int)) < (xs.length : Int) := by omega
            have hlt3' : (2 * (m : Int)) + 1 < (xs.length : Int) := by omega
            have bx := unhide Hin (2 * m) hlt2
            have byy := unhide Hin (2 * m + 1) (by omega)
            have e1 : ((2 * m : Nat) : Int) = 2 * (m : Int) := by omega
            generalize hX : xs[2 * m]?.getD 0 = x at *
            generalize hY : xs[2 * m + 1]?.getD 0 = y at *
            have HX := hide hX
            have HY := hide hY
            clear hX hY
            by_cases hgt : y < x
            · go_wp2
              go_quiet (fail)
              go_wp2
              go_ret
              exact ⟨RetB.no (by intro hcn; have := (hcn.2.2 m hlt2).1; rw [unhide HX, unhide HY] at this; omega), below_drewN hb _⟩
            · go_wp2
              go_quiet (fail)
              go_wp2
              by_cases hmp : 0 < m
              · have hmp' : 0 < 2 * (m : Int) := by omega
                have hz : wr.cell? ⟨b, off + (2 * m - 1), none⟩ = some (.int .i64 (xs[2 * m - 1]?.getD 0)) := by rw [hb.cell (p := ⟨b, off + (2 * m - 1), none⟩) hbn]; exact hcell _ (by omega)
                have bz := unhide Hin (2 * m - 1) (by omega)
                have hz1 : (2 * (m : Int) - 1).toNat = 2 * m - 1 := by omega
                have hz2 : 0 ≤ 2 * (m : Int) - 1 := by omega
                have hz3 : 2 * (m : Int) - 1 < (xs.length : Int) := by omega
                generalize hZ : xs[2 * m - 1]?.getD 0 = z at *
                have HZ := hide hZ
                clear hZ
                by_cases hdd : x - z < 2
                · go_quiet (fail)
                  go_wp2
                  go_ret
                  exact ⟨RetB.no (by intro hcn; have := (hcn.2.2 m hlt2).2 (by omega); rw [unhide HX, unhide HZ] at this; omega), below_drewN (below_drewN hb _) _⟩
                · go_quiet (fail)
                  go_wp2
                  go_roundw
                  case rel => exact ⟨m + 1, by omega, by congr 1, fun j hj => by
                    by_cases e : j = m
                    · subst e; exact ⟨by rw [unhide HX, unhide HY]; omega, fun _ => by rw [unhide HX, unhide HZ]; omega⟩
                    · exact unhide Hpr j (by omega), below_drewN hb _⟩
                  case measure => simp [intOf]; omega
              · have hmp' : decide (0 < 2 * (m : Int)) = false := by simp; omega
                go_quiet (fail)
                go_wp2
                go_roundw
                case rel => exact ⟨m + 1, by omega, by congr 1, fun j hj => by
                  by_cases e : j = m
                  · subst e; exact ⟨by rw [unhide HX, unhide HY]; omega, fun h => absurd h (by omega)⟩
                  · exact unhide Hpr j (by omega), below_drewN hb _⟩
                case measure => simp [intOf]; omega
          · go_wp2
            go_ret
            exact ⟨RetB.yes ⟨hev, unhide Hin, fun j hj => unhide Hpr j (by omega)⟩, hb⟩
  · have hev' : ((xs.length : Int) % 2 != 0) = true := by simp; omega
    go_enter Tryz.func109, Tryz.ntmps109
    go_wp2
    go_ret
    exact ⟨RetB.no (fun hcn => hev hcn.1), Below.refl _ _⟩

end Go.Proofs.YtjefklagedidmaaGreat

namespace Go.Proofs.YtjefklagedidmaaGreat
open Go.RowKit

/-- An element that a valid tree may hold. -/
def ElOk (x : El) : Prop :=
  (x.kind = 1 ∧ Canon x.set ∧ x.mn = 0 ∧ x.mx = 0) ∨ ((x.kind = 0 ∨ x.kind = 2 ∨ x.kind = 3) ∧ x.set.length = 0 ∧ x.mn = 0 ∧ x.mx = 0) ∨
  (x.kind = 4 ∧ x.set.length = 0 ∧ 0 ≤ x.mn ∧ x.mn ≤ 250 ∧ (x.mx = -1 ∨ (x.mn ≤ x.mx ∧ x.mx ≤ 250)))

set_option maxHeartbeats 1000000 in
theorem l1opOK_any (v : Value) (x : El) (w : World) (hv : IntsAt 0 w.heap.size w v x.set) :
    Calls Tryz.prog 83 #[.agg #[.int .i64 x.kind, v, .int .i64 x.mn, .int .i64 x.mx]] w fun e w' => RetB e (ElOk x) ∧ Below w.heap.size w w' := by
  obtain ⟨a, cap, rfl, hl, -, -⟩ := id hv
  unfold maxLen at hl
  obtain ⟨k, xs, mn, mx⟩ := x
  simp only at *
  by_cases h1 : k = 1
  · subst h1
    go_enter Tryz.func83, Tryz.ntmps83
    go_wp2_with fail
    refine (l1canon_any _ xs _ (by exact hv.below (below1 w _) (Nat.le_refl _))).mono ?_
    rintro e w1 ⟨hret, hb1⟩
    obtain ⟨hc1, hf1⟩ := bcell hb1
    simp only [sz_alloc] at hc1 hf1
    have hB : Below w.heap.size w w1 := (below1 w _).trans (hb1.mono (by rw [sz_alloc]; omega))
    rcases hret.cases with ⟨rfl, hcn⟩ | ⟨rfl, hcn⟩
    · by_cases h2 : mn = 0
      · by_cases h3 : mx = 0
        · go_wp2
          go_ret
          exact ⟨RetB.yes (Or.inl ⟨rfl, hcn, h2, h3⟩), hB⟩
        · have h3' : (mx == 0) = false := by simp [h3]
          go_wp2
          go_ret
          exact ⟨RetB.no (by rintro (⟨q1, q2, q3, q4⟩ | ⟨q1, q2, q3, q4⟩ | ⟨q1, q2, q3, q4, q5⟩) <;> simp only at * <;> omega), hB⟩
      · go_wp2
        go_ret
        exact ⟨RetB.no (by rintro (⟨q1, q2, q3, q4⟩ | ⟨q1, q2, q3, q4⟩ | ⟨q1, q2, q3, q4, q5⟩) <;> simp only at * <;> omega), hB⟩
    · go_wp2
      go_ret
      exact ⟨RetB.no (by rintro (⟨q1, q2, q3, q4⟩ | ⟨q1, q2, q3, q4⟩ | ⟨q1, q2, q3, q4, q5⟩) <;> simp only at * <;> first | exact hcn q2 | omega), hB⟩
  · by_cases hk : k < 0 ∨ 4 < k
    · rcases hk with hk | hk
      · go_enter Tryz.func83, Tryz.ntmps83
        go_wp2
        go_ret
        exact ⟨RetB.no (by rintro (⟨q1, q2, q3, q4⟩ | ⟨q1, q2, q3, q4⟩ | ⟨q1, q2, q3, q4, q5⟩) <;> simp only at * <;> omega), below1 w _⟩
      · have hk2 : ¬ k < 0 := by omega
        go_enter Tryz.func83, Tryz.ntmps83
        go_wp2
        go_ret
        exact ⟨RetB.no (by rintro (⟨q1, q2, q3, q4⟩ | ⟨q1, q2, q3, q4⟩ | ⟨q1, q2, q3, q4, q5⟩) <;> simp only at * <;> omega), below1 w _⟩
    · by_cases hlen : xs.length = 0
      · have hlen' : ((xs.length : Int) != 0) = false := by simp; exact List.eq_nil_of_length_eq_zero hlen
        have Hlen := hide hlen
        clear hlen
        by_cases h4 : k = 4
        · subst h4
          by_cases c1 : mn < 0
          · go_enter Tryz.func83, Tryz.ntmps83
            go_wp2
            go_ret
            exact ⟨RetB.no (by rintro (⟨q1, q2, q3, q4⟩ | ⟨q1, q2, q3, q4⟩ | ⟨q1, q2, q3, q4, q5⟩) <;> simp only at * <;> omega), below1 w _⟩
          · by_cases c2 : 250 < mn
            · go_enter Tryz.func83, Tryz.ntmps83
              go_wp2
              go_ret
              exact ⟨RetB.no (by rintro (⟨q1, q2, q3, q4⟩ | ⟨q1, q2, q3, q4⟩ | ⟨q1, q2, q3, q4, q5⟩) <;> simp only at * <;> omega), below1 w _⟩
            · by_cases c3 : mx = -1
              · have c3' : (mx == -1) = true := by simp [c3]
                have C3 := hide c3
                clear c3
                go_enter Tryz.func83, Tryz.ntmps83
                go_wp2
                go_ret
                exact ⟨RetB.yes (Or.inr (Or.inr ⟨rfl, unhide Hlen, by simp only; omega, by simp only; omega, Or.inl (unhide C3)⟩)), below1 w _⟩
              · have c3' : (mx == -1) = false := by simp [c3]
                by_cases c4 : mn ≤ mx
                · by_cases c5 : mx ≤ 250
                  · go_enter Tryz.func83, Tryz.ntmps83
                    go_wp2
                    go_ret
                    exact ⟨RetB.yes (Or.inr (Or.inr ⟨rfl, unhide Hlen, by simp only; omega, by simp only; omega, Or.inr ⟨c4, c5⟩⟩)), below1 w _⟩
                  · go_enter Tryz.func83, Tryz.ntmps83
                    go_wp2
                    go_ret
                    exact ⟨RetB.no (by rintro (⟨q1, q2, q3, q4⟩ | ⟨q1, q2, q3, q4⟩ | ⟨q1, q2, q3, q4, q5⟩) <;> simp only at * <;> omega), below1 w _⟩
                · go_enter Tryz.func83, Tryz.ntmps83
                  go_wp2
                  go_ret
                  exact ⟨RetB.no (by rintro (⟨q1, q2, q3, q4⟩ | ⟨q1, q2, q3, q4⟩ | ⟨q1, q2, q3, q4, q5⟩) <;> simp only at * <;> omega), below1 w _⟩
        · have hk3 : k = 0 ∨ k = 2 ∨ k = 3 := by omega
          clear hk h4 h1
          by_cases h2 : mn = 0
          · by_cases h3 : mx = 0
            · rcases hk3 with rfl | rfl | rfl
              all_goals
                go_enter Tryz.func83, Tryz.ntmps83
                go_wp2
                go_ret
                exact ⟨RetB.yes (Or.inr (Or.inl ⟨by simp, unhide Hlen, h2, h3⟩)), below1 w _⟩
            · have h3' : (mx == 0) = false := by simp [h3]
              rcases hk3 with rfl | rfl | rfl
              all_goals
                go_enter Tryz.func83, Tryz.ntmps83
                go_wp2
                go_ret
                exact ⟨RetB.no (by rintro (⟨q1, q2, q3, q4⟩ | ⟨q1, q2, q3, q4⟩ | ⟨q1, q2, q3, q4, q5⟩) <;> simp only at * <;> omega), below1 w _⟩
          · rcases hk3 with rfl | rfl | rfl
            all_goals
              go_enter Tryz.func83, Tryz.ntmps83
              go_wp2
              go_ret
              exact ⟨RetB.no (by rintro (⟨q1, q2, q3, q4⟩ | ⟨q1, q2, q3, q4⟩ | ⟨q1, q2, q3, q4, q5⟩) <;> simp only at * <;> omega), below1 w _⟩
      · have hlen' : ((xs.length : Int) != 0) = true := by simp; intro e; exact hlen (by rw [e]; rfl)
        have hk0 : ¬ k < 0 := by omega
        have hk4 : ¬ 4 < k := by omega
        go_enter Tryz.func83, Tryz.ntmps83
        go_wp2
        go_ret
        exact ⟨RetB.no (by rintro (⟨q1, q2, q3, q4⟩ | ⟨q1, q2, q3, q4⟩ | ⟨q1, q2, q3, q4, q5⟩) <;> simp only at * <;> omega), below1 w _⟩

end Go.Proofs.YtjefklagedidmaaGreat
