import Derived.Test.YtfjnhmgmcldidaaCb6
import Derived.Deep.AppendLies
import Derived.Deep.RegionLaw
namespace Go.Proofs.Ytfjnhmgmcldidaa
open Go.RowKit

/-- The places of a number among the first j keys. -/
def jsOf (ks : List Int) (x : Int) (j : Nat) : List Int := ((List.range j).filter (fun i => decide (ks[i]?.getD 0 = x))).map (fun i : Nat => (i : Int))
theorem jsOf_yes {ks : List Int} {x : Int} {j : Nat} (h : ks[j]?.getD 0 = x) : jsOf ks x (j + 1) = jsOf ks x j ++ [(j : Int)] := by
  unfold jsOf
  rw [List.range_succ, List.filter_append, List.map_append]
  congr 1
  rw [List.filter_cons_of_pos (by simpa using h)]
  rfl
theorem jsOf_no {ks : List Int} {x : Int} {j : Nat} (h : ks[j]?.getD 0 ≠ x) : jsOf ks x (j + 1) = jsOf ks x j := by
  unfold jsOf
  rw [List.range_succ, List.filter_append, List.map_append]
  rw [List.filter_cons_of_neg (by simpa using h)]
  simp
theorem jsOf_mem {ks : List Int} {x : Int} {j : Nat} {z : Int} : z ∈ jsOf ks x j ↔ ∃ i : Nat, i < j ∧ ks[i]?.getD 0 = x ∧ z = (i : Int) := by
  unfold jsOf
  rw [List.mem_map]
  constructor
  · rintro ⟨i, hi, rfl⟩
    rw [List.mem_filter, List.mem_range] at hi
    exact ⟨i, hi.1, by simpa using hi.2, rfl⟩
  · rintro ⟨i, h1, h2, rfl⟩
    exact ⟨i, List.mem_filter.2 ⟨List.mem_range.2 h1, by simpa using h2⟩, rfl⟩
theorem jsOf_len (ks : List Int) (x : Int) (j : Nat) : (jsOf ks x j).length ≤ j := by
  unfold jsOf
  rw [List.length_map]
  exact Nat.le_trans (List.length_filter_le _ _) (by simp)
/-- The lines that a number lists. -/
theorem plD_lst {base : Int} {ks : List Int} {pss : List (List Int)} {x : Int} {i : Nat} : wrap64 (base + i) ∈ plD pss (jsOf ks x (min ks.length pss.length)) ↔ Lst base ks pss x i := by
  unfold plD Lst
  rw [List.mem_flatMap]
  constructor
  · rintro ⟨z, hz, hm⟩
    obtain ⟨j, h1, h2, rfl⟩ := jsOf_mem.1 hz
    exact ⟨j, by omega, by omega, h2, by simpa using hm⟩
  · rintro ⟨j, h1, h2, h3, h4⟩
    exact ⟨(j : Int), jsOf_mem.2 ⟨j, by omega, h3, rfl⟩, by simpa using h4⟩
/-- The places so far, in memory. -/
structure PlM (w : World) (lo : Nat) (dom : Int → Bool) (m : Int → Value) (js : Int → List Int) : Prop where
  own : ∀ x, In64' x → dom x = true → w.ownsRow lo 3 1 (m x) (js x).length ((js x).map mI)
  ap : ∀ x y, In64' x → In64' y → dom x = true → dom y = true → x ≠ y → ∀ q, (m x).ownBlock = some q → (m y).ownBlock ≠ some q

theorem PlM.keep {w w' : World} {lo : Nat} {dom : Int → Bool} {m : Int → Value} {js : Int → List Int} (h : PlM w lo dom m js) (hb : ∀ k, lo ≤ k → k < w.heap.size → w'.heap[k]? = w.heap[k]?) : PlM w' lo dom m js :=
  ⟨fun x hx hd => own_blk (h.own x hx hd) (fun q hq => by have := (h.own x hx hd).lt q hq; exact hb q this.1 this.2), h.ap⟩
theorem PlM.start (w : World) (lo : Nat) (dom : Int → Bool) (ks : List Int) : PlM w lo dom (fun _ => nilV) (fun x => jsOf ks x 0) := ⟨fun x _ _ => World.ownsRow_nil _ _ _ _, fun x y _ _ _ _ _ q hq => by cases hq⟩
theorem PlM.skip {w : World} {lo : Nat} {dom : Int → Bool} {m : Int → Value} {ks : List Int} {j : Nat} (h : PlM w lo dom m (fun x => jsOf ks x j)) (hd : dom (ks[j]?.getD 0) = false) : PlM w lo dom m (fun x => jsOf ks x (j + 1)) :=
  ⟨fun x hx hdx => by
    have : jsOf ks x (j + 1) = jsOf ks x j := jsOf_no (fun e => by rw [e, hdx] at hd; cases hd)
    rw [this]
    exact h.own x hx hdx, h.ap⟩
/-- A place more for a number. -/
theorem PlM.step {w w7 : World} {MB n lo j gg cap : Nat} {dom : Int → Bool} {m : Int → Value} {ks : List Int} {x : Int} (hM : MpAt w MB n dom m) (hP : PlM w lo dom m (fun x => jsOf ks x j)) (hMl : MB < lo) (hlo : lo ≤ w.heap.size) (hn : n < maxLen) (hx : In64' x) (hd : dom x = true) (hk : ks[j]?.getD 0 = x) {o : Obj} {t : TypeId} {WA : World} (hWA : Pushd w WA o) (ht : Try.prog.underlying t = some (.map 3 23))
    (r1 : w7.ownsRow lo 3 1 (.slice (some ⟨gg, 0, none⟩) ((jsOf ks x j).length + 1) cap) ((jsOf ks x j).length + 1) ((jsOf ks x j).map mI ++ [.int .i64 (j : Nat)])) (r2 : WA.grownBy w7 (m x).ownBlock) (r3 : (m x).ownBlock = some gg ∨ gg = w.heap.size + 1) :
    ∃ w8, (Instr.mapUpdate t (.map (some MB)) (.int .i64 x) (.slice (some ⟨gg, 0, none⟩) ((jsOf ks x j).length + 1) cap)).run Try.prog w7 = .ok () w8 ∧ (∃ m', MpAt w8 MB (n + 1) dom m' ∧ PlM w8 lo dom m' (fun x => jsOf ks x (j + 1))) ∧ FrO (fun k => k = MB ∨ lo ≤ k) w w8 := by
  have hblk : ∀ k, k < w.heap.size → (m x).ownBlock ≠ some k → w7.heap[k]? = w.heap[k]? := fun k hk h => (r2.block k (by have := hWA.size; omega) (fun e => h e.symm)).trans (hWA.old hk)
  have hxo := hP.own x hx hd
  have hM7 : MpAt w7 MB n dom m := hM.keep (hblk MB (by omega) (fun e => by have := (hxo.lt MB e).1; omega))
  obtain ⟨w8, hp, hM8, hg⟩ := hM7.put (t := t) (e := 23) ht hn hx (.slice (some ⟨gg, 0, none⟩) ((jsOf ks x j).length + 1) cap)
  have hdd : (fun y => if y = x then true else dom y) = dom := by
    funext y
    by_cases e : y = x
    · rw [if_pos e, e, hd]
    · rw [if_neg e]
  rw [hdd] at hM8
  have hz7 := r2.size
  have hz8 := hg.size
  have hzA := hWA.size
  refine ⟨w8, hp, ⟨_, hM8, ⟨fun y hy hdy => ?_, fun y z hy hz hdy hdz hyz q hq => ?_⟩⟩, ?_⟩
  · by_cases e : y = x
    · subst e
      simp only [if_pos]
      rw [jsOf_yes hk, List.length_append, List.map_append]
      exact own_blk r1 (fun q hq => hg.block q (r1.lt q hq).2 (fun e9 => by
        have := (r1.lt q hq).1
        cases e9
        omega))
    · simp only [if_neg e]
      rw [jsOf_no (fun e9 => e (e9.symm.trans hk))]
      have hyo := hP.own y hy hdy
      refine own_blk hyo (fun q hq => ?_)
      have hql := hyo.lt q hq
      rw [hg.block q (by omega) (fun e9 => by cases e9; omega)]
      exact hblk q hql.2 (hP.ap y x hy hx hdy hd e q hq)
  · by_cases e : y = x
    · have e2 : z ≠ x := fun e9 => hyz (e.trans e9.symm)
      simp only [if_pos e] at hq
      simp only [if_neg e2]
      have : q = gg := by cases hq; rfl
      subst this
      intro h9
      rcases r3 with k | k
      · exact hP.ap z x hz hx hdz hd e2 q h9 k
      · have := ((hP.own z hz hdz).lt q h9).2; omega
    · simp only [if_neg e] at hq
      by_cases e2 : z = x
      · simp only [if_pos e2]
        intro h9
        have : q = gg := by cases h9; rfl
        subst this
        rcases r3 with k | k
        · exact hP.ap y x hy hx hdy hd e q hq k
        · have := ((hP.own y hy hdy).lt q hq).2; omega
      · simp only [if_neg e2]
        exact hP.ap y z hy hz hdy hdz hyz q hq
  · refine ⟨?_, ?_, ?_, by omega, fun k hk => ?_⟩
    · exact hg.os.trans (r2.os.trans hWA.os)
    · exact hg.tape.trans (r2.tape.trans hWA.tape)
    · exact hg.output.trans (r2.output.trans hWA.output)
    · have k1 : k ≠ MB := fun e => hk (.inl e)
      have k2 : k < lo := by apply Nat.lt_of_not_le; intro e; exact hk (.inr e)
      rw [hg.block k (by omega) (fun e => k1 (Option.some.inj e))]
      exact hblk k (by omega) (fun e => by have := (hxo.lt k e).1; omega)
theorem wf_in {x : Int} (h : (Lit.int .i64 x).wf = true) : In64' x := by
  simp [Lit.wf, IntKind.min, IntKind.max, IntKind.signed, IntKind.bits] at h
  unfold In64'
  omega
theorem ranges_le {w : World} {b r n : Nat} {D : DataW Value} {left : Lit → Bool} {cnt : Nat} (h : w.ranges Try.prog 3 rHold b r n D left cnt) : cnt ≤ n := by
  obtain ⟨es, cl, si, se, c0, -, -, h1, -, -, -, h2, -⟩ := h
  have : (leftOf es se).size ≤ es.size := by unfold leftOf; exact Array.size_filter_le
  omega
/-- The lists so far, in memory: left says what is still to come. -/
structure LsM (w : World) (lo : Nat) (base : Int) (n : Nat) (pss : List (List Int)) (dom left : Int → Bool) (js : Int → List Int) (mL : Int → Value) : Prop where
  yes : ∀ x, In64' x → dom x = true → left x = false → ∃ h, LnD base n h (plD pss (js x)) ∧ w.ownsRow lo 61 2 (mL x) (blkOf h 16).length (flB (blkOf h 16))
  no : ∀ x, In64' x → left x = true → dom x = true ∧ mL x = nilV
theorem LsM.start (w : World) (lo : Nat) (base : Int) (n : Nat) (pss : List (List Int)) (dom left : Int → Bool) (js : Int → List Int) (hl : ∀ x, In64' x → left x = dom x) : LsM w lo base n pss dom left js (fun _ => nilV) :=
  ⟨fun x hx hd hf => absurd hf (by rw [hl x hx, hd]; simp), fun x hx h => ⟨by rw [← hl x hx]; exact h, rfl⟩⟩
theorem LsM.keep {w w' : World} {lo : Nat} {base : Int} {n : Nat} {pss : List (List Int)} {dom left : Int → Bool} {js : Int → List Int} {mL : Int → Value} (h : LsM w lo base n pss dom left js mL) (hb : ∀ k, lo ≤ k → k < w.heap.size → w'.heap[k]? = w.heap[k]?) : LsM w' lo base n pss dom left js mL := by
  refine ⟨fun x hx hd hf => ?_, h.no⟩
  obtain ⟨g, h1, h2⟩ := h.yes x hx hd hf
  exact ⟨g, h1, own_blk h2 (fun q hq => hb q (h2.lt q hq).1 (h2.lt q hq).2)⟩
theorem same_i (x y : Int) : (Lit.int .i64 y).sameKey (.int .i64 x) = decide (y = x) := by
  by_cases e : y = x
  · subst e; simp [Lit.sameKey]
  · rw [Maps.sameKey_ne (by intro k; exact e (by simpa using k))]; simp [e]
theorem LsM.skip {w : World} {lo : Nat} {base : Int} {n : Nat} {pss : List (List Int)} {dom left left' : Int → Bool} {js : Int → List Int} {mL : Int → Value} {x : Int} (h : LsM w lo base n pss dom left js mL) (hx : In64' x) (hl : left x = true) (hj : js x = []) (hl' : ∀ y, left' y = (left y && !decide (y = x))) : LsM w lo base n pss dom left' js mL := by
  refine ⟨fun y hy hd hf => ?_, fun y hy hf => ?_⟩
  · by_cases e : y = x
    · subst e
      refine ⟨fun _ => 0, ?_, ?_⟩
      · rw [hj]; exact LnD.nil _ _
      · rw [(h.no y hx hl).2, blk_zero (fun _ _ => rfl)]; exact World.ownsRow_nil _ _ _ _
    · exact h.yes y hy hd (by rw [hl' y] at hf; simpa [e] using hf)
  · rw [hl' y] at hf
    exact h.no y hy (by simp at hf; exact hf.1)
theorem LsM.add {w : World} {lo : Nat} {base : Int} {n : Nat} {pss : List (List Int)} {dom left left' : Int → Bool} {js : Int → List Int} {mL : Int → Value} {x : Int} (h : LsM w lo base n pss dom left js mL) (hl' : ∀ y, left' y = (left y && !decide (y = x))) {v : Value} {g : Nat → Nat} (h1 : LnD base n g (plD pss (js x))) (h2 : w.ownsRow lo 61 2 v (blkOf g 16).length (flB (blkOf g 16))) : LsM w lo base n pss dom left' js (fun y => if y = x then v else mL y) := by
  refine ⟨fun y hy hd hf => ?_, fun y hy hf => ?_⟩
  · by_cases e : y = x
    · subst e
      exact ⟨g, h1, by simp only [if_pos]; exact h2⟩
    · simp only [if_neg e]
      exact h.yes y hy hd (by rw [hl' y] at hf; simpa [e] using hf)
  · rw [hl' y] at hf
    simp at hf
    rw [if_neg hf.2]
    exact h.no y hy hf.1
/-- What listedLines leaves. -/
def LlR (e : Ending) (w w' : World) (base : Int) (n : Nat) (ks : List Int) (pss qss : List (List Int)) : Prop :=
  ∃ (mb nn : Nat) (dom : Int → Bool) (mL : Int → Value) (hw : Int → Nat → Nat), e = .returned (.map (some mb)) ∧ MpAt w' mb nn dom mL ∧ w.heap.size ≤ mb ∧ Below w.heap.size w w' ∧ (∀ t, LnF (hw t)) ∧ ∀ c t, c < qss.length → t ∈ qss[c]?.getD [] → LnD base n (hw t) (plD pss (jsOf ks t (min ks.length pss.length))) ∧ w'.ownsRow w.heap.size 61 2 (mL t) (blkOf (hw t) 16).length (flB (blkOf (hw t) 16))
theorem LsM.fin {w w' : World} {lo mb nn : Nat} {base : Int} {n : Nat} {ks : List Int} {pss qss : List (List Int)} {dom left domL : Int → Bool} {mL : Int → Value} (h : LsM w' lo base n pss dom left (fun x => jsOf ks x (min ks.length pss.length)) mL) (hl : ∀ x, left x = false) (hdom : ∀ x, dom x = true ↔ ∃ c', c' < qss.length ∧ x ∈ qss[c']?.getD []) (hq : ∀ k i : Nat, In64' ((qss[k]?.getD [])[i]?.getD 0)) (hM : MpAt w' mb nn domL mL) (hlo : w.heap.size ≤ lo) (hmb : w.heap.size ≤ mb) (hB : Below w.heap.size w w') : LlR (.returned (.map (some mb))) w w' base n ks pss qss := by
  have H : ∀ t : Int, ∃ g : Nat → Nat, LnF g ∧ ∀ c, c < qss.length → t ∈ qss[c]?.getD [] → LnD base n g (plD pss (jsOf ks t (min ks.length pss.length))) ∧ w'.ownsRow w.heap.size 61 2 (mL t) (blkOf g 16).length (flB (blkOf g 16)) := fun t => by
    by_cases e : ∃ c', c' < qss.length ∧ t ∈ qss[c']?.getD []
    · obtain ⟨c, h1, h2⟩ := id e
      have ht : In64' t := by
        obtain ⟨i, hi, h3⟩ := List.getElem_of_mem h2
        have := hq c i
        rw [List.getElem?_eq_getElem hi] at this
        simpa [h3] using this
      obtain ⟨g, g1, g2⟩ := h.yes t ht ((hdom t).2 e) (hl t)
      exact ⟨g, g1.1, fun _ _ _ => ⟨g1, own_low g2 hlo⟩⟩
    · exact ⟨fun _ => 0, fun j => by simp, fun c h1 h2 => absurd ⟨c, h1, h2⟩ e⟩
  obtain ⟨hw, hh⟩ := Classical.axiomOfChoice H
  exact ⟨mb, nn, domL, mL, hw, rfl, hM, hmb, hB, fun t => (hh t).1, fun c t h1 h2 => (hh t).2 c h1 h2⟩

end Go.Proofs.Ytfjnhmgmcldidaa
