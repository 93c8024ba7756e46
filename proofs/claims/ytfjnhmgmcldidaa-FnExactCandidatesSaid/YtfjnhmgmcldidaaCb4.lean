import Derived.Test.YtfjnhmgmcldidaaCb3
import Derived.ArgAppend
import Derived.WalkMore
import Derived.Deep.LoopGhost
import Derived.BigQuiet
namespace Go.Proofs.Ytfjnhmgmcldidaa
open Go.RowKit

/-- What two blocks of one number have in common. -/
def mtc (h : Nat → Nat) (p : Nat × Nat) : List (Nat × Nat) := if p.2 &&& h p.1 = 0 then [] else [(p.1, p.2 &&& h p.1)]
theorem mtc_len (h : Nat → Nat) (p : Nat × Nat) : (mtc h p).length ≤ 1 := by unfold mtc; split <;> simp
theorem blk_meet (f h : Nat → Nat) (m : Nat) : (blkOf f m).flatMap (mtc h) = blkOf (fun j => f j &&& h j) m := by
  induction m with
  | zero => rfl
  | succ m ih =>
    by_cases e : f m = 0
    · rw [blkOf_no e, ih, blkOf_no (by simp [e])]
    · rw [blkOf_yes e, List.flatMap_append, ih]
      by_cases e2 : f m &&& h m = 0
      · rw [blkOf_no (by exact e2)]
        simp [mtc, e2]
      · rw [blkOf_yes (by exact e2)]
        simp [mtc, e2]
theorem flat_take {h : Nat → Nat} {bs : List (Nat × Nat)} {i : Nat} {p : Nat × Nat} (hp : bs[i]? = some p) : (bs.take (i + 1)).flatMap (mtc h) = (bs.take i).flatMap (mtc h) ++ mtc h p := by
  rw [List.take_add_one, hp, List.flatMap_append]
  simp
theorem flat_len (h : Nat → Nat) (bs : List (Nat × Nat)) : (bs.flatMap (mtc h)).length ≤ bs.length := by
  induction bs with
  | nil => simp
  | cons p bs ih => rw [List.flatMap_cons, List.length_append, List.length_cons]; have := mtc_len h p; omega
theorem mtc_none {h : Nat → Nat} {p : Nat × Nat} (e : h p.1 = 0) : mtc h p = [] := by unfold mtc; rw [if_pos (by rw [e]; simp)]
theorem flat_none {h : Nat → Nat} {bs : List (Nat × Nat)} (e : ∀ p ∈ bs, h p.1 = 0) : bs.flatMap (mtc h) = [] := by
  rw [List.flatMap_eq_nil_iff]
  exact fun p hp => mtc_none (e p hp)
theorem asc_of {os : List (Nat × Nat)} (h : os.Pairwise (fun p q => p.1 < q.1)) {i j : Nat} {p q : Nat × Nat} (hij : i < j) (hp : os[i]? = some p) (hq : os[j]? = some q) : p.1 < q.1 := by
  rw [List.pairwise_iff_getElem] at h
  obtain ⟨h1, rfl⟩ := List.getElem?_eq_some_iff.1 hp
  obtain ⟨h2, rfl⟩ := List.getElem?_eq_some_iff.1 hq
  exact h i j h1 h2 hij
/-- Where no block bears the number, there is no line. -/
theorem none_at {h : Nat → Nat} {os : List (Nat × Nat)} (hos : os = blkOf h 16) {n p : Nat} (hn : n < 16) (hlo : ∀ q x, q < p → os[q]? = some x → x.1 < n) (hhi : ∀ x, os[p]? = some x → n < x.1) : h n = 0 := by
  apply Classical.byContradiction
  intro e
  have hm : (n, h n) ∈ os := by rw [hos, blkOf_mem]; exact ⟨hn, e, rfl⟩
  obtain ⟨q, hq⟩ := List.getElem?_of_mem hm
  rcases Nat.lt_trichotomy q p with k | k | k
  · have := hlo q _ k hq; omega
  · subst k; have := hhi _ hq; simp at this
  · obtain ⟨x, hx⟩ : ∃ x, os[p]? = some x := ⟨_, List.getElem?_eq_getElem (by have := (List.getElem?_eq_some_iff.1 hq).1; omega)⟩
    have h1 := hhi x hx
    have h2 := asc_of (by rw [hos]; exact blkOf_asc h 16) k hx hq
    simp at h2
    omega
/-- How far the list has been cut down, in its own memory. -/
structure MtS (w0 wr : World) (g M : Nat) (bs r : List (Nat × Nat)) (i : Nat) : Prop where
  row : ∃ F, wr.rowIs g 61 M F ∧ (∀ (k : Nat) (p : Nat × Nat), r[k]? = some p → F (k * 2) = .int .i64 (p.1 : Nat) ∧ F (k * 2 + 1) = .int .u64 (p.2 : Nat)) ∧ ∀ (k : Nat) (p : Nat × Nat), i ≤ k → bs[k]? = some p → F (k * 2) = .int .i64 (p.1 : Nat) ∧ F (k * 2 + 1) = .int .u64 (p.2 : Nat)
  fr : FrO (fun k => k = g ∨ w0.heap.size ≤ k) w0 wr
/-- What is left of the other list. -/
def OtV (b off p : Nat) (os : List (Nat × Nat)) (ov : Value) : Prop := ∃ a c, ov = .slice a (os.length - p) c ∧ os.length - p ≤ c ∧ (p < os.length → a = some ⟨b, off + p * 2, none⟩)

/-- A box of one block. -/
def Lb2 (w : World) (o n b : Nat) : Prop := w.rowIs o 61 2 (fun j => [Value.int .i64 (n : Nat), .int .u64 (b : Nat)].getD j undef)
theorem Lb2.new (w : World) (n b : Nat) : Lb2 (w.alloc (.cells #[.int .i64 (n : Nat), .int .u64 (b : Nat)] 61)) w.heap.size n b :=
  World.rowIs_alloc w #[.int .i64 (n : Nat), .int .u64 (b : Nat)] _ _ (fun i hi => by
    match i, hi with
    | 0, _ => rfl
    | 1, _ => rfl)
theorem Lb2.cells {w : World} {o n b : Nat} (h : Lb2 w o n b) : w.cell? ⟨o, 0, none⟩ = some (.int .i64 (n : Nat)) ∧ w.cell? ⟨o, 1, none⟩ = some (.int .u64 (b : Nat)) := ⟨World.rowIs.cell h (i := 0) (by omega), World.rowIs.cell h (i := 1) (by omega)⟩
theorem Lb2.put1 {w : World} {o n b c : Nat} (h : Lb2 w o n b) : Lb2 (w.setCell ⟨o, 1, none⟩ (.int .u64 (c : Nat))) o n c := (World.rowIs.set h 1 _).congr (fun i hi => by
    match i, hi with
    | 0, _ => rfl
    | 1, _ => rfl)
theorem MtS.on {w0 wr w' : World} {g M : Nat} {bs r : List (Nat × Nat)} {i : Nat} (h : MtS w0 wr g M bs r i) (hg : g < w0.heap.size) (hf : FrO (fun k => w0.heap.size ≤ k) wr w') : MtS w0 w' g M bs r i := by
  obtain ⟨F, h1, h2, h3⟩ := h.row
  exact ⟨⟨F, h1.of_block (hf.block g (by omega)), h2, h3⟩, h.fr.trans (hf.mono fun k hk => .inr hk)⟩
theorem MtS.less {w0 wr : World} {g M : Nat} {bs r : List (Nat × Nat)} {i j : Nat} (h : MtS w0 wr g M bs r i) (hij : i ≤ j) : MtS w0 wr g M bs r j := by
  obtain ⟨F, h1, h2, h3⟩ := h.row
  exact ⟨⟨F, h1, h2, fun k p hk => h3 k p (by omega)⟩, h.fr⟩
theorem MtS.push {w0 wr : World} {g M : Nat} {bs r : List (Nat × Nat)} {i n c : Nat} (h : MtS w0 wr g M bs r i) (hri : r.length ≤ i) : MtS w0 ((wr.setCell ⟨g, r.length * 2, none⟩ (.int .i64 (n : Nat))).setCell ⟨g, r.length * 2 + 1, none⟩ (.int .u64 (c : Nat))) g M bs (r ++ [(n, c)]) (i + 1) := by
  obtain ⟨F, h1, h2, h3⟩ := h.row
  refine ⟨⟨_, World.rowIs.set (World.rowIs.set h1 (r.length * 2) _) (r.length * 2 + 1) _, fun k p hp => ?_, fun k p hk hp => ?_⟩, ?_⟩
  · by_cases e : k < r.length
    · rw [List.getElem?_append_left e] at hp
      have := h2 k p hp
      simp only [show ¬ k * 2 = r.length * 2 + 1 by omega, show ¬ k * 2 = r.length * 2 by omega, show ¬ k * 2 + 1 = r.length * 2 + 1 by omega, show ¬ k * 2 + 1 = r.length * 2 by omega, if_false]
      exact this
    · have hk : k = r.length := by
        have := (List.getElem?_eq_some_iff.1 hp).1
        simp at this
        omega
      subst hk
      rw [List.getElem?_append_right (Nat.le_refl _)] at hp
      simp at hp
      subst hp
      simp only [show ¬ r.length * 2 = r.length * 2 + 1 by omega, if_false, if_true]
      exact ⟨trivial, trivial⟩
  · have := h3 k p (by omega) hp
    simp only [show ¬ k * 2 = r.length * 2 + 1 by omega, show ¬ k * 2 = r.length * 2 by omega, show ¬ k * 2 + 1 = r.length * 2 + 1 by omega, show ¬ k * 2 + 1 = r.length * 2 by omega, if_false]
    exact this
  · exact (h.fr.trans ((obk_put (w := wr) (b := g) (r.length * 2) (.int .i64 (n : Nat))).fro (.inl rfl))).trans ((obk_put (b := g) (r.length * 2 + 1) (.int .u64 (c : Nat))).fro (.inl rfl))

/-- An append into the room that a row has. -/
theorem app_in {w : World} {ops : Array Oper} {rest : List Oper} {o : Oper} {a : Act} {Q : Exit → Act → World → Prop} (hgd : o.guard = none) (s x : Operand)
    (ho : o.op = .call { callee := .builtin .append, args := #[s, x], argTypes := #[57, 57] }) (g n cap m c M : Nat) (F : Nat → Value) (hs : a.eval s = .slice (some ⟨g, 0, none⟩) n cap) (hx : a.eval x = .slice (some ⟨w.heap.size, 0, none⟩) 1 1)
    (hroom : n + 1 ≤ cap) (hrow : w.rowIs g 61 M F) (hM : n * 2 + 1 < M)
    (h : wpList Try.prog ops Q rest (a.put o.dst (.slice (some ⟨g, 0, none⟩) (n + 1) cap)) (((w.alloc (.cells #[.int .i64 (m : Nat), .int .u64 (c : Nat)] 61)).setCell ⟨g, n * 2, none⟩ (.int .i64 (m : Nat))).setCell ⟨g, n * 2 + 1, none⟩ (.int .u64 (c : Nat)))) :
    wpList Try.prog ops Q (o :: rest) a (w.alloc (.cells #[.int .i64 (m : Nat), .int .u64 (c : Nat)] 61)) := by
  obtain ⟨i0, hi, hz0, hz1, hz2⟩ := info_parts Try.zinLb
  have hrow' := hrow.alloc (.cells #[.int .i64 (m : Nat), .int .u64 (c : Nat)] 61)
  have hr := run_append_room_cells (P := Try.prog) (w := w.alloc (.cells #[.int .i64 (m : Nat), .int .u64 (c : Nat)] 61)) 57 o.type 61 i0 Try.underlying57 hi g 0 n cap ⟨w.heap.size, 0, none⟩ 1 1 [.int .i64 (m : Nat), .int .u64 (c : Nat)] (by rw [hz1]; rfl) (fun j u hu => (pushd_al w _).news j u hu) (fun u hu => by
    simp only [List.mem_cons, List.not_mem_nil, or_false] at hu
    rcases hu with rfl | rfl <;> rfl) hroom (fun j hj => by
    have hj : j < 2 := hj
    rw [hz1, hrow'.cell (by omega)]; rfl) (fun j hj => hrow'.frozen _)
  rw [hz1] at hr
  simp only [Nat.zero_add, World.setCells] at hr
  refine wpList_plain hgd fun K hK => ?_
  unfold Oper.wp execOp
  simp only [ho, resolve, invoke, builtin, Sem.run_bind, Sem.run_pure, Result.andThen_ok, List.map_toArray, List.map_cons, List.map_nil, hs, hx, hr]
  exact hK _ _ h

set_option maxHeartbeats 8000000 in
set_option maxRecDepth 100000 in
theorem meet_any (g M cap b off : Nat) (h : Nat → Nat) (bs os : List (Nat × Nat)) (ov : Value) (w : World) (hM : MtS w w g M bs [] 0) (hcap : bs.length ≤ cap) (hcM : cap * 2 ≤ M) (hb0 : 0 < bs.length) (hbl : bs.length ≤ 16) (hasc : bs.Pairwise (fun p q => p.1 < q.1)) (hbs : ∀ p ∈ bs, p.1 < 16 ∧ p.2 < 18446744073709551616)
    (hos : os = blkOf h 16) (hh : LnF h) (hov : OtV b off 0 os ov) (hbg : b ≠ g) (hbw : 0 < os.length → b < w.heap.size) (hoc : ∀ (k : Nat) (p : Nat × Nat), os[k]? = some p → w.cell? ⟨b, off + k * 2, none⟩ = some (.int .i64 (p.1 : Nat)) ∧ w.cell? ⟨b, off + k * 2 + 1, none⟩ = some (.int .u64 (p.2 : Nat))) :
    Calls Try.prog 41 #[.slice (some ⟨g, 0, none⟩) bs.length cap, ov] w fun e w' => e = .returned (.slice (some ⟨g, 0, none⟩) (bs.flatMap (mtc h)).length cap) ∧ MtS w w' g M bs (bs.flatMap (mtc h)) bs.length := by
  have hol : os.length ≤ 16 := by rw [hos]; exact blkOf_len h 16
  have hc0 : (0 : Int) ≤ (cap : Int) := by omega
  obtain ⟨R, hR⟩ : ∃ R, R = bs.flatMap (mtc h) := ⟨_, rfl⟩
  rw [← hR]
  have HRR := hide hR
  obtain ⟨oa, oc, rfl, hoc1, hoc2⟩ := id hov
  have HOV := hide hov
  have HM := hide hM
  have HASC := hide hasc
  have HBS := hide hbs
  have HOS := hide hos
  have HH := hide hh
  have HOC := hide hoc
  have hgw : g < w.heap.size := by obtain ⟨F, hF, -⟩ := hM.row; exact hF.lt
  clear hM hasc hbs hos hh hov hoc hR hoc1 hoc2
  go_enter Try.func41, Try.ntmps41
  go_wp2
  go_step3
  go_wp2
  go_step3
  go_wp2
  go_loopg [1, 5, 12] bs.length (fun gk ov cv iv wr => ∃ (i p : Nat) (r : List (Nat × Nat)), i + gk = bs.length ∧ iv = .int .i64 (i : Nat) ∧ r = (bs.take i).flatMap (mtc h) ∧ cv = .slice (some ⟨g, 0, none⟩) r.length cap ∧ p ≤ os.length ∧ OtV b off p os ov ∧ MtS w wr g M bs r i ∧ ∀ (q : Nat) (x : Nat × Nat), q < p → os[q]? = some x → ∀ (k : Nat) (y : Nat × Nat), i ≤ k → bs[k]? = some y → x.1 < y.1)
  case atStart => exact ⟨0, 0, [], by omega, rfl, by simp, rfl, by omega, unhide HOV, unhide HM, fun q x hq => by omega⟩
  case round =>
    clear HOV HM
    obtain ⟨i, p, r, hig, rfl, hr, rfl, hp, hov, hM, hlow⟩ := hrel
    have hrl : r.length ≤ i := by rw [hr]; exact Nat.le_trans (flat_len _ _) (by simp; omega)
    obtain ⟨oa, oc, rfl, ho1, ho2⟩ := id hov
    cases gk with
    | zero =>
      have hil : ¬ (i : Int) < (bs.length : Int) := by omega
      have hrR : r = R := by rw [hr, unhide HRR, List.take_of_length_le (by omega)]
      have HX : Hid (MtS w wr g M bs R bs.length) := by rw [← hrR, show bs.length = i by omega]; exact hM
      have HL : Hid (r.length = R.length) := by rw [hrR]; rfl
      clear hr hM hov hlow hrR ho2
      go_wp2
      try rw [Exit.noGoto_ret]
      go_ret
      exact ⟨by rw [unhide HL]; rfl, unhide HX⟩
    | succ gK =>
      have hil : i < bs.length := by omega
      have hil' : (i : Int) < (bs.length : Int) := by omega
      obtain ⟨x, hx⟩ : ∃ x, bs[i]? = some x := ⟨_, List.getElem?_eq_getElem hil⟩
      obtain ⟨n, bb⟩ := x
      obtain ⟨hn16, hb64⟩ := unhide HBS _ (List.mem_of_getElem? hx)
      obtain ⟨F, hF, hF1, hF2⟩ := hM.row
      obtain ⟨q1, q2⟩ := hF2 i (n, bb) (Nat.le_refl _) hx
      have c0 : wr.cell? ⟨g, i * 2, none⟩ = some (.int .i64 (n : Nat)) := by rw [hF.cell (by omega), q1]
      have c1 : wr.cell? ⟨g, i * 2 + 1, none⟩ = some (.int .u64 (bb : Nat)) := by rw [hF.cell (by omega), q2]
      have HX := hide hx
      have HR := hide hr
      have HM := hide hM
      have HOV := hide hov
      have HLOW := hide hlow
      clear hx hr hM hov hlow hF hF1 hF2 q1 q2
      obtain ⟨W1, hW1⟩ : ∃ W1, W1 = wr.alloc (.cells #[.int .i64 (n : Nat), .int .u64 (bb : Nat)] 61) := ⟨_, rfl⟩
      have hwr := (unhide HM).fr.size
      have hM1 : MtS w W1 g M bs r i := (unhide HM).on hgw (by rw [hW1]; exact fro_of (below1 wr _) (fun k hk => by omega))
      have hO1 : Lb2 W1 wr.heap.size n bb := by rw [hW1]; exact Lb2.new wr n bb
      obtain ⟨ob, hob⟩ : ∃ ob, ob = wr.heap.size := ⟨_, rfl⟩
      rw [← hob] at hO1
      have hobw : w.heap.size ≤ ob := by omega
      have HLOWI : Hid (∀ (q : Nat) (x : Nat × Nat), q < p → os[q]? = some x → x.1 < n) := fun q x hq hx => unhide HLOW q x hq hx i (n, bb) (Nat.le_refl _) (unhide HX)
      have HM1 := hide hM1
      have HO1 := hide hO1
      have HW1 := hide hW1
      have HOB := hide hob
      clear hM1 hO1 hW1 HM hob hwr
      go_wp2_with fail
      rw [← unhide HW1, ← unhide HOB]
      clear HW1 HOB c0 c1
      go_loopg [1, 5] (os.length - p) (fun g2 ov cv wy => cv = .slice (some ⟨g, 0, none⟩) r.length cap ∧ ∃ p : Nat, p + g2 = os.length ∧ OtV b off p os ov ∧ MtS w wy g M bs r i ∧ Lb2 wy ob n bb ∧ ∀ (q : Nat) (x : Nat × Nat), q < p → os[q]? = some x → x.1 < n)
      case atStart => exact ⟨rfl, p, by omega, unhide HOV, unhide HM1, unhide HO1, unhide HLOWI⟩
      case round =>
        clear HOV HM1 HO1 HLOWI HLOW ho1 ho2 hp
        obtain ⟨rfl, p, hpg, hov, hM, hO, hlow⟩ := hrel
        obtain ⟨w2, rfl⟩ : ∃ w2, w2 = wr := ⟨_, rfl⟩
        obtain ⟨oa, oc, rfl, ho1, ho2⟩ := id hov
        obtain ⟨k0, k1⟩ := hO.cells
        have hNX : ∀ (k : Nat) (y : Nat × Nat), i + 1 ≤ k → bs[k]? = some y → n < y.1 := fun k y hk hy => asc_of (unhide HASC) (show i < k by omega) (unhide HX) hy
        have HM := hide hM
        have HO := hide hO
        have HNX := hide hNX
        have HLOW := hide hlow
        have HOV := hide hov
        cases gk with
        | zero =>
          have hpo : p = os.length := by omega
          have hlz : os.length - p = 0 := by omega
          have hrR : r = R := by
            rw [unhide HRR, unhide HR]
            have hz : (bs.drop i).flatMap (mtc h) = [] := flat_none fun y hy => by
              obtain ⟨k, hk⟩ := List.getElem?_of_mem hy
              rw [List.getElem?_drop] at hk
              refine none_at (unhide HOS) (unhide HBS y (List.mem_of_getElem? hk)).1 (p := os.length) (fun q x hq hx => ?_) (fun x hx => by simp at hx)
              have h1 := hlow q x (by omega) hx
              by_cases e : k = 0
              · subst e; rw [Nat.add_zero, unhide HX] at hk; cases hk; exact h1
              · have := hNX (i + k) y (by omega) hk; omega
            conv => rhs; rw [← List.take_append_drop i bs, List.flatMap_append, hz, List.append_nil]
          have HXX : Hid (MtS w w2 g M bs R bs.length) := by rw [← hrR]; exact hM.less (by omega)
          have HL : Hid (r.length = R.length) := by rw [hrR]; rfl
          rw [hlz]
          clear hM hO hNX hlow hov hrR ho1 ho2 hlz HM HO HNX HLOW HOV
          go_wp2
          try rw [Exit.noGoto_ret]
          go_ret
          exact ⟨by rw [unhide HL]; rfl, unhide HXX⟩
        | succ g2 =>
          have hpl : p < os.length := by omega
          obtain ⟨y, hy⟩ : ∃ y, os[p]? = some y := ⟨_, List.getElem?_eq_getElem hpl⟩
          obtain ⟨m, o⟩ := y
          have hym : m < 16 ∧ h m ≠ 0 ∧ o = h m := by have := List.mem_of_getElem? hy; rw [unhide HOS, blkOf_mem] at this; exact this
          obtain ⟨y0, y1⟩ := unhide HOC p (m, o) hy
          have hblk : w2.heap[b]? = w.heap[b]? := hM.fr.block b (by have := hbw (by omega); rintro (q | q) <;> omega)
          have z0 : w2.cell? ⟨b, off + p * 2, none⟩ = some (.int .i64 (m : Nat)) := by rw [World.cell?_of_block (a := ⟨b, off + p * 2, none⟩) hblk]; exact y0
          have z1 : w2.cell? ⟨b, off + p * 2 + 1, none⟩ = some (.int .u64 (o : Nat)) := by rw [World.cell?_of_block (a := ⟨b, off + p * 2 + 1, none⟩) hblk]; exact y1
          obtain rfl := ho2 hpl
          obtain ⟨ol, hol2⟩ : ∃ ol, ol = os.length - p := ⟨_, rfl⟩
          rw [← hol2] at ho1 ⊢
          have hl1 : (0 : Int) < (ol : Int) := by omega
          have hl2 : (1 : Int) ≤ (ol : Int) := by omega
          have HY := hide hy
          have HYM := hide hym
          clear hM hO hNX hlow hov ho2 hy hym hblk y0 y1
          by_cases hgt : n < m
          · have hgt' : (n : Int) < (m : Int) := by omega
            have HR2 : Hid (r = (bs.take (i + 1)).flatMap (mtc h)) := by
              show r = _
              rw [flat_take (unhide HX), ← unhide HR, mtc_none (none_at (unhide HOS) hn16 (unhide HLOW) (fun x hx => by rw [unhide HY] at hx; cases hx; exact hgt)), List.append_nil]
            go_wp2_with fail
            go_quiet (fail)
            go_wp2
            have HOV2 : Hid (OtV b off p os (.slice (some ⟨b, off + p * 2, none⟩) ol oc)) := by rw [hol2]; exact unhide HOV
            have HM2 : Hid (MtS w (w2.drewN nq) g M bs r (i + 1)) := MtS.less (MtS.on (w' := w2.drewN nq) (unhide HM) hgw ⟨rfl, rfl, rfl, Nat.le_refl _, fun _ _ => rfl⟩) (by omega)
            go_roundg gK
            case measure => omega
            case rel => exact ⟨i + 1, p, r, by omega, by go_num, unhide HR2, rfl, by omega, unhide HOV2, unhide HM2, fun q x hq hx k y hk hy => by have := unhide HLOW q x hq hx; have := unhide HNX k y hk hy; omega⟩
          · by_cases heq : m = n
            · subst heq
              have hng : ¬ (m : Int) < (m : Int) := by omega
              have hom := (unhide HYM).2.2
              have ho64 : o < 18446744073709551616 := by rw [hom]; exact unhide HH m
              have hand := bits_and_u64_nat bb o hb64 ho64
              have f1 := World.rowIs.frozen (unhide HO) 1
              have HAND := hide hand
              obtain ⟨cc, hcc⟩ : ∃ cc, cc = bb &&& o := ⟨_, rfl⟩
              rw [← hcc] at HAND
              have hNE : b ≠ ob := by have := hbw (by omega); omega
              have HOM := hide hom
              have HCC := hide hcc
              clear hand hom hcc
              go_wp2_with fail
              go_quiet (fail)
              go_wp2_with fail
              go_quiet (fail)
              go_wp2_with fail
              generalize hV3 : World.drewN _ _ = V3
              have k0' : V3.cell? ⟨ob, 0, none⟩ = some (.int .i64 (m : Nat)) := by rw [← hV3]; exact k0
              have k1' : V3.cell? ⟨ob, 1, none⟩ = some (.int .u64 (bb : Nat)) := by rw [← hV3]; exact k1
              have z1' : V3.cell? ⟨b, off + p * 2 + 1, none⟩ = some (.int .u64 (o : Nat)) := by rw [← hV3]; exact z1
              have f1' : V3.frozen? ⟨ob, 1, none⟩ = false := by rw [← hV3]; exact f1
              have HM3 : Hid (MtS w V3 g M bs r i) := by rw [← hV3]; exact MtS.on (unhide HM) hgw ⟨rfl, rfl, rfl, Nat.le_refl _, fun _ _ => rfl⟩
              have HO3 : Hid (Lb2 V3 ob m bb) := by rw [← hV3]; exact unhide HO
              clear hV3 k0 k1 z0 z1 f1 HM HO
              go_region
              rw [unhide HAND]
              generalize hV4 : World.drew _ = V4
              have HO4 : Hid (Lb2 V4 ob m cc) := by rw [← hV4]; exact (unhide HO3).put1
              have HM4 : Hid (MtS w V4 g M bs r i) := by rw [← hV4]; exact MtS.on (unhide HM3) hgw ((obk_put (w := V3) (b := ob) 1 (.int .u64 (cc : Nat))).drew.fro hobw)
              obtain ⟨k0, k1⟩ := (unhide HO4).cells
              clear hV4 k0' k1' z1' f1' HM3 HO3
              by_cases hcz : cc = 0
              · have hbo : bb &&& h m = 0 := by rw [← unhide HOM, ← unhide HCC]; exact hcz
                have HR2 : Hid (r = (bs.take (i + 1)).flatMap (mtc h)) := by
                  show r = _
                  rw [flat_take (unhide HX), ← unhide HR]
                  unfold mtc
                  rw [if_pos (by exact hbo), List.append_nil]
                have HM5 : Hid (MtS w V4 g M bs r (i + 1)) := (unhide HM4).less (by omega)
                have k1z : V4.cell? ⟨ob, 1, none⟩ = some (.int .u64 0) := by rw [k1, hcz]; rfl
                clear k1 hbo hcz
                go_wp2
                go_roundg gK
                case measure => omega
                case rel => exact ⟨i + 1, p, r, by omega, by go_num, unhide HR2, rfl, by omega, unhide HOV, unhide HM5, fun q x hq hx k y hk hy => by have := unhide HLOW q x hq hx; have := unhide HNX k y hk hy; omega⟩
              · have hbo : bb &&& h m ≠ 0 := by rw [← unhide HOM, ← unhide HCC]; exact hcz
                have hcz' : ¬ (cc : Int) = 0 := by omega
                have HR2 : Hid (r ++ [(m, cc)] = (bs.take (i + 1)).flatMap (mtc h)) := by
                  show r ++ _ = _
                  rw [flat_take (unhide HX), ← unhide HR]
                  unfold mtc
                  rw [if_neg (by exact hbo), unhide HCC, unhide HOM]
                obtain ⟨F4, hF4, -, -⟩ := (unhide HM4).row
                have HF4 := hide hF4
                have hroom : r.length + 1 ≤ cap := by omega
                have hrM : r.length * 2 + 1 < M := by omega
                have HM5 : Hid (MtS w (((V4.alloc (.cells #[.int .i64 (m : Nat), .int .u64 (cc : Nat)] 61)).setCell ⟨g, r.length * 2, none⟩ (.int .i64 (m : Nat))).setCell ⟨g, r.length * 2 + 1, none⟩ (.int .u64 (cc : Nat))) g M bs (r ++ [(m, cc)]) (i + 1)) := ((unhide HM4).on hgw (fro_of (below1 V4 _) (fun k hk => by have := (unhide HM4).fr.size; omega))).push hrl
                obtain ⟨r2, hr2⟩ : ∃ r2, r2 = r ++ [(m, cc)] := ⟨_, rfl⟩
                have hr2l : r2.length = r.length + 1 := by rw [hr2, List.length_append]; rfl
                rw [← hr2] at HR2 HM5
                have HR2L := hide hr2l
                clear hbo hcz hF4 hr2 hr2l
                go_wp2_with (at_builtin; refine app_in rfl _ _ rfl g r.length cap m cc M F4 rfl rfl hroom (unhide HF4) hrM ?_)
                rw [← unhide HR2L]
                go_wp2
                go_roundg gK
                case measure => omega
                case rel => exact ⟨i + 1, p, r2, by omega, by go_num, unhide HR2, rfl, by omega, unhide HOV, unhide HM5, fun q x hq hx k y hk hy => by have := unhide HLOW q x hq hx; have := unhide HNX k y hk hy; omega⟩
            · have hlt : m < n := by omega
              have hng : ¬ (n : Int) < (m : Int) := by omega
              have hne : ¬ (m : Int) = (n : Int) := by omega
              go_wp2_with fail
              go_quiet (fail)
              go_wp2_with fail
              go_quiet (fail)
              have HLOW2 : Hid (∀ (q : Nat) (x : Nat × Nat), q < p + 1 → os[q]? = some x → x.1 < n) := fun q x hq hx => by
                by_cases e : q = p
                · subst e; rw [unhide HY] at hx; cases hx; exact hlt
                · exact unhide HLOW q x (by omega) hx
              generalize hV3 : World.drewN _ _ = V3
              have HM3 : Hid (MtS w V3 g M bs r i) := by rw [← hV3]; exact MtS.on (unhide HM) hgw ⟨rfl, rfl, rfl, Nat.le_refl _, fun _ _ => rfl⟩
              have HO3 : Hid (Lb2 V3 ob n bb) := by rw [← hV3]; exact unhide HO
              clear hV3 k0 k1 z0 z1 HM HO
              have hss : os.length - p - 1 = os.length - (p + 1) := by omega
              go_wp2
              · go_roundg g2
                case measure => omega
                case rel => exact ⟨by first | trivial | rfl, p + 1, by omega, ⟨_, 0, rfl, by omega, fun hq => by omega⟩, unhide HM3, unhide HO3, unhide HLOW2⟩
              · go_roundg g2
                case measure => omega
                case rel => exact ⟨by first | trivial | rfl, p + 1, by omega, ⟨_, oc - 1, rfl, by omega, fun hq => by rw [show off + (p + 1) * 2 = off + p * 2 + 2 by omega]⟩, unhide HM3, unhide HO3, unhide HLOW2⟩

end Go.Proofs.Ytfjnhmgmcldidaa
