import Derived.Test.YtbgjgaejfkdceaaGreatP4
import Derived.Test.YtbgjgaejfkdceaaGreatP1
import Derived.Deep.RegionWith
namespace Go.Proofs.YtbgjgaejfkdceaaGreat
open Go.RowKit

def lenV (v : Value) : Nat := match v with | .slice _ n _ => n | _ => 0

theorem Bytes.drop {bs : List Int} (h : Bytes bs) (k : Nat) : Bytes (bs.drop k) := fun i => by
  rw [drop_get]
  exact h (k + i)

set_option maxHeartbeats 4000000 in
set_option maxRecDepth 100000 in
theorem implSplit_any (v : Value) (bs : List Int) (w : World) (hv : SlAt mB 0 0 w.heap.size w v bs) (hcap : CapOk v) (hbb : Bytes bs) (hl : bs.length ≤ 1048576) :
    Calls Tryz.prog 40 #[v] w fun e w' => SplR e w w' bs := by
  obtain ⟨j0, hj, hy0, hy1, hy2⟩ := info_parts Tryz.zinByteS
  have Hv := hide hv
  have Hcap := hide hcap
  have HB := hide hbb
  obtain ⟨a, cap, rfl, -, -⟩ := hv
  clear hcap hbb
  go_enter Tryz.func40, Tryz.ntmps40
  go_wp2_with fail
  go_loopw [0, 3] (fun tv ov wr => ∃ (ys : List Int) (ps : List (Cl Int)), ys.length + ps.length ≤ bs.length ∧ Bytes ys ∧ SlAt mB 0 0 w.heap.size w tv ys ∧ CapOk tv ∧ ps.map Cl.xs ++ lns ys = lns bs ∧ LB w.heap.size wr ov ps ∧ Below w.heap.size w wr) (fun tv _ _ => lenV tv)
  case atStart => exact ⟨bs, [], by simp, unhide HB, unhide Hv, unhide Hcap, by simp, LL.nil, Below.refl _ _⟩
  case round =>
    obtain ⟨ys, ps, hyl, hbb, htv, htc, hln, hll, hb⟩ := hrel
    have hszr := hb.size
    have Hll := hide hll
    have Hln := hide hln
    have Htv := hide htv
    have Htc := hide htc
    have Hbb := hide hbb
    obtain ⟨oa, oc, rfl⟩ := own_is hll.own
    obtain ⟨ta, tc, rfl, -, -⟩ := htv
    clear hll hln htc hbb
    by_cases hp : 0 < ys.length
    · have hp' : (0 : Int) < (ys.length : Int) := by omega
      have hb1 := below1 wr (.cells #[.int .u8 10] 5)
      have hx : (wr.alloc (.cells #[.int .u8 10] 5)).cell? ⟨wr.heap.size, 0, none⟩ = some (.int .u8 10) := by simp
      go_wp2_with fail
      refine (cut_any _ ys _ _ _ w.heap.size _ (by exact (unhide Htv).same (Same.of_below ((hb.trans (hb1.mono hszr))) (Nat.le_refl _))) (unhide Htc) (unhide Hbb) (by omega) hx).mono ?_
      rintro e w1 ⟨⟨va, vb, r, rfl, ⟨hva, hvac⟩, hvb, hvbc⟩, q, hw1⟩
      have hB1 : Below wr.heap.size wr w1 := by rw [hw1]; exact below_drewN hb1 q
      have hBw : Below w.heap.size w w1 := hb.trans (hB1.mono hszr)
      have hVa : Hid (SlAt mB 0 0 w1.heap.size w1 va (hd ys)) := by
        rw [hw1]
        exact hva.mono (Nat.le_refl _) (by show w.heap.size ≤ (wr.alloc _).heap.size; rw [sz_alloc]; omega)
      have hVb : Hid (SlAt mB 0 0 w.heap.size w vb (ys.drop ((hd ys).length + 1))) := hvb.same (fun b o h1 h2 => ((hb.trans (hb1.mono hszr)).cell (p := ⟨b, o, none⟩) h2).symm)
      have Hvbc := hide hvbc
      have hz1 := hB1.size
      have Hll1 := hide ((unhide Hll).keep hB1 (Nat.le_refl _))
      have Hln1 := hide (unhide Hln)
      rw [lns_cons (xs := ys) (List.length_pos_iff.1 hp)] at Hln1
      have hhl := hd_len ys
      have hdl : (ys.drop ((hd ys).length + 1)).length + 1 ≤ ys.length := by simp; omega
      have Hb2 := hide ((unhide Hbb).drop ((hd ys).length + 1))
      obtain ⟨aa, ca, rfl, -, -⟩ := id (unhide hVa)
      obtain ⟨ab, cb, rfl, -, -⟩ := id (unhide hVb)
      clear hva hvac hvb hvbc hw1 hx hb1 Hln Hll Htv Htc Hbb hb
      generalize ys.drop ((hd ys).length + 1) = zs at *
      generalize hd ys = ln at *
      go_wp2_with fail
      refine (bclone_any _ ln _ (unhide hVa) (by omega)).mono ?_
      rintro e w2 ⟨⟨v2, rfl, hown⟩, hb2⟩
      have Hown := hide hown
      have hz2 := hb2.size
      obtain ⟨la, lc, rfl⟩ := own_is hown
      have Hst : Hid (∀ (w' : World) (v' : Value), w'.ownsRow w.heap.size 25 1 v' (ps.length + 1) (ps.map Cl.v ++ [.slice la ln.length lc]) → (w2.alloc (.cells #[.slice la ln.length lc] 25)).grownBy w' (Value.slice oa ps.length oc).ownBlock →
          ∃ p : Cl Int, p.xs = ln ∧ LB w.heap.size w' v' (ps ++ [p]) ∧ Below w.heap.size w w') := fun w' v' g1 g2 => by
        obtain ⟨pb, hp, hplo⟩ := own_cl (unhide Hown)
        have hll' := (unhide Hll1).keep hb2 (Nat.le_refl _)
        obtain ⟨r1, r2⟩ := hll'.app (by decide) (by omega) hp (fun h => Nat.le_trans (by omega) (hplo h)) (fun q hq hq0 hp0 e => by
          have h1 := ((unhide Hll1).ok q hq).lt hq0
          have h2 := hplo hp0
          rw [e] at h1
          exact absurd h1 (Nat.not_lt.2 h2)) (pushd_alloc w2 _) g1 g2
        exact ⟨_, rfl, r1, (hBw.trans (hb2.mono (by omega))).trans r2⟩
      clear hown
      go_wp2_with (at_builtin; refine wpList_append_own _ rfl _ _ 22 rfl w.heap.size 25 j0 (.slice none 0 0) 1 24 Tryz.underlying22 hj hy0 hy1 hy2 rfl (by decide) _ _ _ rfl (World.ownsRow.alloc (w := w2) ((unhide Hll1).keep hb2 (Nat.le_refl _)).own _) ⟨w2.heap.size, 0, none⟩ 1 1 [.slice la ln.length lc] rfl rfl ?_ ?_ ?_ ?_ ?_ ?_)
      · exact cell_1 (by simp)
      · intro u hu; simp at hu; subst hu; rfl
      · unfold maxLen; omega
      · omega
      · rw [sz_alloc]; omega
      intro v3 w3 h5 hg5 _
      have h3 := hide (unhide Hst w3 v3 h5 hg5)
      obtain ⟨g3, cap3, rfl⟩ := ownsRow_succ h5
      clear h5 hg5
      go_wp2
      obtain ⟨p, r1, r2, r3⟩ := unhide h3
      exact ⟨⟨zs, ps ++ [p], by simp; omega, unhide Hb2, unhide hVb, unhide Hvbc, by rw [← unhide Hln1, List.map_append, List.append_assoc, ← r1]; rfl, r2, r3⟩, by simp only [lenV]; omega⟩
    · have hp' : ¬ (0 : Int) < (ys.length : Int) := by omega
      have hz : Hid (ps.map Cl.xs = lns bs) := by
        have := unhide Hln
        rwa [List.eq_nil_of_length_eq_zero (by omega : ys.length = 0), lns_nil, List.append_nil] at this
      go_wp2
      go_ret
      exact ⟨_, ps, rfl, unhide hz, unhide Hll, hb⟩

end Go.Proofs.YtbgjgaejfkdceaaGreat

namespace Go.Proofs.YtbgjgaejfkdceaaGreat
open Go.RowKit

theorem LB.footR {base : Nat} {w : World} {v : Value} {ps : List (Cl Int)} (h : LB base w v ps) : SsF mB 0 (Rng base w.heap.size) w v (ps.map Cl.xs) := by
  refine h.foot (by decide) ?_
  have h1 := own_cap h.own
  obtain ⟨a, c, rfl⟩ := own_is h.own
  have := h1.le
  omega

end Go.Proofs.YtbgjgaejfkdceaaGreat

namespace Go.Proofs.YtbgjgaejfkdceaaGreat
open Go.RowKit

theorem SameB.put {lo n : Nat} {a w : World} (h : SameB lo n a w) {b o : Nat} (hb : b < lo ∨ n ≤ b) (u : Value) : SameB lo n a (w.setCell ⟨b, o, none⟩ u) :=
  fun k h1 h2 => (Below.heap_setCell _ _ _ _ (by show k ≠ b; omega)).trans (h k h1 h2)

/-- A block of four cells. -/
def Row4 (w : World) (b : Nat) (t : TypeId) (c0 c1 c2 c3 : Value) : Prop := w.rowIs b t 4 (fun j => [c0, c1, c2, c3].getD j undef)
theorem Row4.new (w : World) (t : TypeId) (c0 c1 c2 c3 : Value) : Row4 (w.alloc (.cells #[c0, c1, c2, c3] t)) w.heap.size t c0 c1 c2 c3 :=
  World.rowIs_alloc w #[c0, c1, c2, c3] t _ (fun i hi => by
    match i, hi with
    | 0, _ => rfl
    | 1, _ => rfl
    | 2, _ => rfl
    | 3, _ => rfl)
theorem Row4.alloc {w : World} {b : Nat} {t : TypeId} {c0 c1 c2 c3 : Value} (h : Row4 w b t c0 c1 c2 c3) (o : Obj) : Row4 (w.alloc o) b t c0 c1 c2 c3 := World.rowIs.alloc h o
theorem Row4.below {w w' : World} {b m : Nat} {t : TypeId} {c0 c1 c2 c3 : Value} (h : Row4 w b t c0 c1 c2 c3) (hb : Below m w w') (hm : b < m) : Row4 w' b t c0 c1 c2 c3 := World.rowIs.of_block h (hb.block b hm)
theorem Row4.other {w : World} {b b' o : Nat} {t : TypeId} {c0 c1 c2 c3 u : Value} (h : Row4 w b t c0 c1 c2 c3) (hb : b ≠ b') : Row4 (w.setCell ⟨b', o, none⟩ u) b t c0 c1 c2 c3 := World.rowIs.setOther h hb u
theorem Row4.put0 {w : World} {b : Nat} {t : TypeId} {c0 c1 c2 c3 u : Value} (h : Row4 w b t c0 c1 c2 c3) : Row4 (w.setCell ⟨b, 0, none⟩ u) b t u c1 c2 c3 := (World.rowIs.set h 0 u).congr (fun i hi => by
    match i, hi with
    | 0, _ => rfl
    | 1, _ => rfl
    | 2, _ => rfl
    | 3, _ => rfl)
theorem Row4.put1 {w : World} {b : Nat} {t : TypeId} {c0 c1 c2 c3 u : Value} (h : Row4 w b t c0 c1 c2 c3) : Row4 (w.setCell ⟨b, 1, none⟩ u) b t c0 u c2 c3 := (World.rowIs.set h 1 u).congr (fun i hi => by
    match i, hi with
    | 0, _ => rfl
    | 1, _ => rfl
    | 2, _ => rfl
    | 3, _ => rfl)
theorem Row4.put2 {w : World} {b : Nat} {t : TypeId} {c0 c1 c2 c3 u : Value} (h : Row4 w b t c0 c1 c2 c3) : Row4 (w.setCell ⟨b, 2, none⟩ u) b t c0 c1 u c3 := (World.rowIs.set h 2 u).congr (fun i hi => by
    match i, hi with
    | 0, _ => rfl
    | 1, _ => rfl
    | 2, _ => rfl
    | 3, _ => rfl)
/-- What the walk asks of it. -/
theorem Row4.facts {w : World} {b : Nat} {t : TypeId} {c0 c1 c2 c3 : Value} (h : Row4 w b t c0 c1 c2 c3) :
    w.cell? ⟨b, 0, none⟩ = some c0 ∧ w.cell? ⟨b, 1, none⟩ = some c1 ∧ w.cell? ⟨b, 2, none⟩ = some c2 ∧ w.cell? ⟨b, 3, none⟩ = some c3 ∧ w.frozen? ⟨b, 0, none⟩ = false ∧ w.frozen? ⟨b, 1, none⟩ = false ∧ w.frozen? ⟨b, 2, none⟩ = false ∧ w.frozen? ⟨b, 3, none⟩ = false :=
  ⟨World.rowIs.cell h (i := 0) (by omega), World.rowIs.cell h (i := 1) (by omega), World.rowIs.cell h (i := 2) (by omega), World.rowIs.cell h (i := 3) (by omega), World.rowIs.frozen h 0, World.rowIs.frozen h 1, World.rowIs.frozen h 2, World.rowIs.frozen h 3⟩

end Go.Proofs.YtbgjgaejfkdceaaGreat
