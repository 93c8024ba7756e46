import Derived.Test.YtfjnhmgmcldidaaCb4
import Derived.Maps.OwnSet
import Derived.Maps.RangeWalk
namespace Go.Proofs.Ytfjnhmgmcldidaa
open Go.RowKit

/-- An element reads as itself. -/
def rHold : Value → Option (DataW Value × List MemPlace) := fun v => some (.held v, [])
def nilV : Value := .slice none 0 0
theorem Try.lawIm : Maps.Keyed Try.prog 3 := Maps.int_keyed Try.underlying3
def In64' (x : Int) : Prop := -9223372036854775808 ≤ x ∧ x ≤ 9223372036854775807
theorem key_im {x : Int} (h : In64' x) : keyOf Try.prog 3 (.int .i64 x) = some (.int .i64 x) := by
  unfold keyOf
  simp only [Try.underlying3]
  have hw : (Lit.int .i64 x).wf = true := WalkArith.wf_i64 ⟨h.1, by have := h.2; omega⟩
  simp [mapKey, Try.underlying3, hw]
/-- A map whose elements are slices: what it has at each number. -/
structure MpAt (w : World) (mb n : Nat) (dom : Int → Bool) (m : Int → Value) : Prop where
  ex : ∃ D, w.ownsMap Try.prog 3 rHold mb n D ∧ (∀ x, In64' x → Maps.has D (.int .i64 x) = dom x) ∧ ∀ x, In64' x → D.atKey (.int .i64 x) (.held nilV) = .held (m x)
theorem MpAt.lt {w : World} {mb n : Nat} {dom : Int → Bool} {m : Int → Value} (h : MpAt w mb n dom m) : mb < w.heap.size := by obtain ⟨D, h1, -⟩ := h.ex; exact h1.lt
theorem MpAt.keep {w w' : World} {mb n : Nat} {dom : Int → Bool} {m : Int → Value} (h : MpAt w mb n dom m) (e : w'.heap[mb]? = w.heap[mb]?) : MpAt w' mb n dom m := by
  obtain ⟨D, ⟨es, cl, hb, h2⟩, h3, h4⟩ := h.ex
  exact ⟨D, ⟨es, cl, e.trans hb, h2⟩, h3, h4⟩
theorem MpAt.new (w : World) : MpAt (w.alloc (.map #[] 0)) w.heap.size 0 (fun _ => false) (fun _ => nilV) :=
  ⟨_, World.ownsMap_made w _ _ _, fun _ _ => rfl, fun _ _ => rfl⟩
/-- A look-up. -/
theorem MpAt.look {w : World} {mb n : Nat} {dom : Int → Bool} {m : Int → Value} (h : MpAt w mb n dom m) {t e : TypeId} (ht : Try.prog.underlying t = some (.map 3 e)) (hz : (zeroValue e).run Try.prog w = .ok nilV w) {x : Int} (hx : In64' x) : (Instr.lookup t (.map (some mb)) (.int .i64 x) false).run Try.prog w = .ok (m x) w := by
  obtain ⟨D, h1, h2, h3⟩ := h.ex
  obtain ⟨v, ps, hr, hv⟩ := h1.lookup Try.lawIm ht hz (zd := .held nilV) (zp := []) rfl (key_im hx)
  rw [h3 x hx] at hv
  have : v = m x := by
    have h9 := Option.some.inj hv
    simp only [Prod.mk.injEq, DataW.held.injEq] at h9
    exact h9.1
  rw [hr, this]
theorem MpAt.look2 {w : World} {mb n : Nat} {dom : Int → Bool} {m : Int → Value} (h : MpAt w mb n dom m) {t e : TypeId} (ht : Try.prog.underlying t = some (.map 3 e)) (hz : (zeroValue e).run Try.prog w = .ok nilV w) {x : Int} (hx : In64' x) : (Instr.lookup t (.map (some mb)) (.int .i64 x) true).run Try.prog w = .ok (.tuple #[m x, .bool (dom x)]) w := by
  obtain ⟨D, h1, h2, h3⟩ := h.ex
  obtain ⟨v, ps, hr, hv⟩ := h1.look_ok Try.lawIm ht hz (zd := .held nilV) (zp := []) rfl (key_im hx)
  rw [h3 x hx] at hv
  have : v = m x := by
    have h9 := Option.some.inj hv
    simp only [Prod.mk.injEq, DataW.held.injEq] at h9
    exact h9.1
  rw [hr, this, h2 x hx]
/-- A store. -/
theorem MpAt.put {w : World} {mb n : Nat} {dom : Int → Bool} {m : Int → Value} (h : MpAt w mb n dom m) {t e : TypeId} (ht : Try.prog.underlying t = some (.map 3 e)) (hn : n < maxLen) {x : Int} (hx : In64' x) (v : Value) : ∃ w', (Instr.mapUpdate t (.map (some mb)) (.int .i64 x) v).run Try.prog w = .ok () w' ∧ MpAt w' mb (n + 1) (fun y => if y = x then true else dom y) (fun y => if y = x then v else m y) ∧ w.grownBy w' (some mb) := by
  obtain ⟨D, h1, h2, h3⟩ := h.ex
  obtain ⟨w', hr, ho, hg⟩ := h1.update Try.lawIm ht hn (key_im hx) (val := v) (d := .held v) (ps := []) rfl
  refine ⟨w', hr, ⟨_, ho, fun y hy => ?_, fun y hy => ?_⟩, hg⟩
  · by_cases e : y = x
    · subst e; rw [Maps.has_put_same (k := .int .i64 y) h1.isMap trivial]; simp
    · rw [Maps.has_put_other (by intro k; exact e (by simpa using k)), h2 y hy]; simp [e]
  · by_cases e : y = x
    · subst e; rw [Maps.atKey_put_same (k := .int .i64 y) h1.isMap trivial]; simp
    · rw [Maps.atKey_put_other (by intro k; exact e (by simpa using k)), h3 y hy]; simp [e]

/-- A list of blocks that can be read, apart from block g. -/
def BlR (w : World) (v : Value) (h : Nat → Nat) (g : Nat) : Prop := ∃ b off, OtV b off 0 (blkOf h 16) v ∧ b ≠ g ∧ (0 < (blkOf h 16).length → b < w.heap.size) ∧ ∀ (k : Nat) (p : Nat × Nat), (blkOf h 16)[k]? = some p → w.cell? ⟨b, off + k * 2, none⟩ = some (.int .i64 (p.1 : Nat)) ∧ w.cell? ⟨b, off + k * 2 + 1, none⟩ = some (.int .u64 (p.2 : Nat))
/-- The words that all numbers list. -/
def mAll (hw : Int → Nat → Nat) : (Nat → Nat) → List Int → Nat → Nat
  | f, [] => f
  | f, t :: ts => mAll hw (fun j => f j &&& hw t j) ts
theorem mAll_snoc (hw : Int → Nat → Nat) : ∀ (ts : List Int) (f : Nat → Nat) (t : Int), mAll hw f (ts ++ [t]) = fun j => mAll hw f ts j &&& hw t j
  | [], _, _ => rfl
  | _ :: ts, _, t => mAll_snoc hw ts _ t
theorem mAll_fit {hw : Int → Nat → Nat} : ∀ (ts : List Int) {f : Nat → Nat}, LnF f → LnF (mAll hw f ts)
  | [], _, h => h
  | _ :: ts, _, h => mAll_fit ts (fun j => Nat.lt_of_le_of_lt Nat.and_le_left (h j))
theorem mAll_zero {hw : Int → Nat → Nat} : ∀ (ts : List Int) {f : Nat → Nat} {j : Nat}, f j = 0 → mAll hw f ts j = 0
  | [], _, _, h => h
  | _ :: ts, _, _, h => mAll_zero ts (by simp [h])
theorem mAll_app (hw : Int → Nat → Nat) : ∀ (ts us : List Int) (f : Nat → Nat), mAll hw f (ts ++ us) = mAll hw (mAll hw f ts) us
  | [], _, _ => rfl
  | _ :: ts, us, _ => mAll_app hw ts us _
theorem blk_nil {f : Nat → Nat} (h : (blkOf f 16).length = 0) : ∀ j, j < 16 → f j = 0 := fun j hj => by
  apply Classical.byContradiction
  intro e
  have : (j, f j) ∈ blkOf f 16 := blkOf_mem.2 ⟨hj, e, rfl⟩
  rw [List.eq_nil_of_length_eq_zero h] at this
  cases this
theorem blk_zero {f : Nat → Nat} (h : ∀ j, j < 16 → f j = 0) : blkOf f 16 = [] := by
  apply List.eq_nil_iff_forall_not_mem.2
  intro p hp
  have := blkOf_mem.1 hp
  exact this.2.1 (h p.1 this.1)
theorem MtS.again {w0 w : World} {g M : Nat} {bs r : List (Nat × Nat)} {i : Nat} (h : MtS w0 w g M bs r i) : MtS w w g M r [] 0 := by
  obtain ⟨F, h1, h2, -⟩ := h.row
  exact ⟨⟨F, h1, fun k p hp => by simp at hp, fun k p _ hp => h2 k p hp⟩, FrO.refl _ _⟩
theorem MtS.at {w : World} {g M : Nat} {bs : List (Nat × Nat)} (h : MtS w w g M bs [] 0) {k : Nat} {p : Nat × Nat} (hk : bs[k]? = some p) (hM : bs.length * 2 ≤ M) : w.cell? ⟨g, k * 2, none⟩ = some (.int .i64 (p.1 : Nat)) ∧ w.cell? ⟨g, k * 2 + 1, none⟩ = some (.int .u64 (p.2 : Nat)) := by
  obtain ⟨F, h1, -, h3⟩ := h.row
  obtain ⟨a, b⟩ := h3 k p (Nat.zero_le _) hk
  have hlt := (List.getElem?_eq_some_iff.1 hk).1
  exact ⟨by rw [h1.cell (by omega), a], by rw [h1.cell (by omega), b]⟩

/-- What listedByAll leaves. -/
def LbR (g M : Nat) (e : Ending) (w' : World) (R : List (Nat × Nat)) : Prop := ∃ (a : Option Addr) (c : Nat), e = .returned (.slice a R.length c) ∧ (0 < R.length → a = some ⟨g, 0, none⟩ ∧ MtS w' w' g M R [] 0)

set_option maxHeartbeats 8000000 in
set_option maxRecDepth 100000 in
theorem listed_any (g M cap mb nn : Nat) (f : Nat → Nat) (hw : Int → Nat → Nat) (dom : Int → Bool) (m : Int → Value) (ts : List Int) (la : Option Addr) (lc : Nat) (tv : Value) (w : World) (hcM : cap * 2 ≤ M)
    (hrow : 0 < (blkOf f 16).length → la = some ⟨g, 0, none⟩ ∧ lc = cap ∧ (blkOf f 16).length ≤ cap ∧ MtS w w g M (blkOf f 16) [] 0) (hf : LnF f) (hwf : ∀ t, LnF (hw t)) (hts : ∀ t ∈ ts, In64' t) (htl : ts.length ≤ 1000)
    (hk : ∀ W, FrO (fun k => k = g ∨ w.heap.size ≤ k) w W → SlAt mI 0 0 W.heap.size W tv ts ∧ MpAt W mb nn dom m ∧ ∀ t ∈ ts, BlR W (m t) (hw t) g) :
    Calls Try.prog 28 #[.slice la (blkOf f 16).length lc, tv, .map (some mb)] w fun e w' => FrO (fun k => k = g ∨ w.heap.size ≤ k) w w' ∧ LbR g M e w' (blkOf (mAll hw f ts) 16) := by
  have hzz : ∀ W : World, (zeroValue 57).run Try.prog W = .ok nilV W := fun W => by kernel_rfl
  obtain ⟨ta, tc, rfl, -, -⟩ := id (hk w (FrO.refl _ _)).1
  obtain ⟨R, hR⟩ : ∃ R, R = blkOf (mAll hw f ts) 16 := ⟨_, rfl⟩
  rw [← hR]
  have HRR := hide hR
  have HK := hide hk
  have HROW := hide hrow
  have HF := hide hf
  have HWF := hide hwf
  have HTS := hide hts
  clear hk hrow hf hwf hts hR
  go_enter Try.func28, Try.ntmps28
  go_wp2_with fail
  go_loopw [0, 11] (fun lv iv wr => ∃ (i : Nat) (bs : List (Nat × Nat)) (a : Option Addr) (c : Nat), i ≤ ts.length ∧ iv = .int .i64 (i : Nat) ∧ bs = blkOf (mAll hw f (ts.take i)) 16 ∧ lv = .slice a bs.length c ∧ (0 < bs.length → a = some ⟨g, 0, none⟩ ∧ c = cap ∧ bs.length ≤ cap ∧ MtS wr wr g M bs [] 0) ∧ FrO (fun k => k = g ∨ w.heap.size ≤ k) w wr) (fun _ iv _ => ts.length - (intOf iv).toNat)
  case atStart => exact ⟨0, _, la, lc, by omega, rfl, rfl, rfl, unhide HROW, FrO.refl _ _⟩
  case round =>
    clear HROW
    obtain ⟨i, bs, a, c, hi, rfl, hbs, rfl, hrow, hfr⟩ := hrel
    obtain ⟨w1, rfl⟩ : ∃ w1, w1 = wr := ⟨_, rfl⟩
    have hz1 := hfr.size
    obtain ⟨htv, hmp, hbl⟩ := unhide HK w1 hfr
    by_cases hil : i < ts.length
    · have hil' : (i : Int) < (ts.length : Int) := by omega
      obtain ⟨a9, c9, e9, -, hc9⟩ := id htv
      cases e9
      obtain ⟨tb, to, rfl, -, -, htc⟩ := hc9 (by omega)
      have z0 := htc i hil
      obtain ⟨t, ht⟩ : ∃ t, t = ts[i]?.getD 0 := ⟨_, rfl⟩
      have htm : t ∈ ts := by rw [ht, List.getElem?_eq_getElem hil]; exact List.getElem_mem hil
      rw [← ht] at z0
      unfold mI at z0
      by_cases hb0 : bs.length = 0
      · have hRz : R.length = 0 := by
          rw [unhide HRR, ← List.take_append_drop i ts, mAll_app, blk_zero (fun j hj => mAll_zero _ (blk_nil (by rw [← hbs]; exact hb0) j hj))]
          rfl
        have HFR := hide hfr
        have HRZ := hide hRz
        clear hrow hfr htv hmp hbl hbs htc hc9 ht htm hRz
        rw [hb0]
        go_wp2
        go_ret
        exact ⟨unhide HFR, a, c, by rw [unhide HRZ]; rfl, fun q => absurd q (by rw [unhide HRZ]; omega)⟩
      · obtain ⟨rfl, rfl, hbc, hM⟩ := hrow (by omega)
        have hb0' : ¬ (bs.length : Int) = 0 := by omega
        have hlk := hmp.look (t := 51) (e := 57) Try.underlying51 (hzz w1) (unhide HTS t htm)
        obtain ⟨b, off, hov, hbg, hbw, hcell⟩ := hbl t htm
        have hfi := mAll_fit (hw := hw) (ts.take i) (unhide HF)
        have HME := hide (meet_any g M c b off (hw t) bs (blkOf (hw t) 16) (m t) w1 hM hbc hcM (by omega) (by rw [hbs]; exact blkOf_len _ _) (by rw [hbs]; exact blkOf_asc _ _) (fun p hp => by
          rw [hbs] at hp
          have := blkOf_mem.1 hp
          exact ⟨this.1, by rw [this.2.2]; exact hfi _⟩) rfl (unhide HWF t) hov hbg hbw hcell)
        have HNX : Hid (bs.flatMap (mtc (hw t)) = blkOf (mAll hw f (ts.take (i + 1))) 16) := by
          show bs.flatMap _ = _
          rw [hbs, blk_meet, take_snoc hil, ← ht, mAll_snoc]
        obtain ⟨va, vn, vc, hvv⟩ : ∃ va vn vc, m t = .slice va vn vc := by obtain ⟨x1, x2, x3, -⟩ := hov; exact ⟨_, _, _, x3⟩
        rw [hvv] at hlk HME
        have HFR := hide hfr
        clear hrow hfr htv hmp hbl hbs htc hc9 ht htm hM hov hcell hvv hfi
        go_wp2_with fail
        refine (unhide HME).mono ?_
        rintro e w2 ⟨rfl, hM2⟩
        obtain ⟨bs2, hbs2⟩ : ∃ bs2, bs2 = bs.flatMap (mtc (hw t)) := ⟨_, rfl⟩
        rw [← hbs2] at hM2 HNX ⊢
        have hb2l : bs2.length ≤ bs.length := by rw [hbs2]; exact flat_len _ _
        have hfr2 : FrO (fun k => k = g ∨ w.heap.size ≤ k) w w2 := (unhide HFR).trans (hM2.fr.mono (fun k hk => by rcases hk with q | q; exact .inl q; exact .inr (by omega)))
        have HFR2 := hide hfr2
        have HM2 := hide hM2.again
        have HB2 := hide hbs2
        clear hM2 hfr2 hbs2 HME HFR hlk z0
        go_wp2
        go_roundw
        case rel => exact ⟨i + 1, bs2, _, _, by omega, by go_num, unhide HNX, rfl, fun _ => ⟨rfl, rfl, by omega, unhide HM2⟩, unhide HFR2⟩
        case measure => simp [intOf]; omega
    · have hil' : ¬ (i : Int) < (ts.length : Int) := by omega
      have hbR : bs = R := by rw [hbs, unhide HRR, List.take_of_length_le (by omega)]
      have HBR := hide hbR
      have HFR := hide hfr
      have HROW := hide hrow
      clear hrow hfr htv hmp hbl hbs hbR
      go_wp2
      go_ret
      rw [← unhide HBR]
      exact ⟨unhide HFR, a, c, rfl, fun q => ⟨(unhide HROW q).1, (unhide HROW q).2.2.2⟩⟩

end Go.Proofs.Ytfjnhmgmcldidaa
