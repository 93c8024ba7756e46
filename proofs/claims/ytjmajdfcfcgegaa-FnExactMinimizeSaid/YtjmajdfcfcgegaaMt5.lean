import Derived.Test.YtjmajdfcfcgegaaMt4
namespace Go.Proofs.Ytjmajdfcfcgegaa
open Go.RowKit

theorem snoc_row {ns : List Nat} {i x : Nat} (hi : ns.length = i) : ∀ s, upd (fun s => ns[s]?.getD 0) i x s = (ns ++ [x])[s]?.getD 0 := fun s => by
  by_cases e : s = i
  · subst e; rw [upd_at, ← hi]; simp
  · rw [upd_ne _ e]
    by_cases h : s < ns.length
    · rw [List.getElem?_append_left h]
    · rw [List.getElem?_eq_none (by omega), List.getElem?_eq_none (by simp; omega)]
theorem NbAt.at7 {w4 w w7 : World} {mp nb n : Nat} {key : Nat → Nat} {ds ns fs : List Nat} {fv : Value} (h : NbAt w4 w mp nb n key ds ns fs fv) (hF : FrO (OneB w mp) w w7) : RowN w7 nb n (fun s => ns[s]?.getD 0) ∧ w7.ownsRow w4.heap.size 3 1 fv fs.length (fs.map mN) ∧ FrO (fun k => k = mp ∨ k = nb ∨ w4.heap.size ≤ k) w4 w7 := by
  have hz := h.fr.size
  obtain ⟨l1, l2, l3⟩ := h.lt
  refine ⟨h.nr.on (hF.block _ (by rintro (e | e) <;> omega)), own_blk h.fo (fun r hr => hF.block r ?_), h.fr.trans (hF.mono (fun k hk => by rcases hk with e | e; exact .inl e; exact .inr (.inr (by omega))))⟩
  have := h.fo.lt r hr
  rintro (e | e) <;> omega
/-- A number is stored. -/
theorem NbAt.store {w4 w8 : World} {mp nb n i x : Nat} {key : Nat → Nat} {ds ns fs : List Nat} {fv : Value} (hi : ns.length = i) (hl : mp < w4.heap.size ∧ nb < w4.heap.size ∧ mp ≠ nb) (h1 : NumAt 3 w8 mp (ds.map mN)) (h2 : RowN w8 nb n (fun s => ns[s]?.getD 0)) (h3 : w8.ownsRow w4.heap.size 3 1 fv fs.length (fs.map mN)) (h4 : FrO (fun k => k = mp ∨ k = nb ∨ w4.heap.size ≤ k) w4 w8) (h5 : NumL key ds (ns ++ [x]) fs) :
    NbAt w4 (w8.setCell ⟨nb, i, none⟩ (.int .i64 (x : Nat))) mp nb n key ds (ns ++ [x]) fs fv := by
  have ks : ∀ k, k ≠ nb → (w8.setCell ⟨nb, i, none⟩ (.int .i64 (x : Nat))).heap[k]? = w8.heap[k]? := fun k hk => Below.heap_setCell _ _ _ _ (by show k ≠ nb; exact hk)
  obtain ⟨l1, l2, l3⟩ := hl
  exact ⟨h1.keep (ks _ l3), (h2.put i x).congr (fun j _ => snoc_row hi j), own_blk h3 (fun r hr => ks r (by have := (h3.lt r hr).1; omega)), h5, h4.trans ((obk_put _ _).fro (.inr (.inl rfl))), l1, l2, l3⟩
/-- The cells of the table with its states merged. -/
def msY (A : Tb) (num F : Nat → Nat) (l : Nat) : List Nat := (List.range l).map (fun t => num (A.nx (F (t / A.k)) (t % A.k)))
def msZ (A : Tb) (F : Nat → Nat) (j : Nat) : List Bool := (List.range j).map (fun i => A.ac (F i))
theorem msY_next (A : Tb) (num F : Nat → Nat) {j c : Nat} (hc : c < A.k) : msY A num F (j * A.k + (c + 1)) = msY A num F (j * A.k + c) ++ [num (A.nx (F j) c)] := by
  unfold msY
  rw [← Nat.add_assoc, List.range_succ, List.map_append, List.map_singleton, (row_at hc).1, (row_at hc).2]
theorem msZ_next (A : Tb) (F : Nat → Nat) (j : Nat) : msZ A F (j + 1) = msZ A F j ++ [A.ac (F j)] := by simp [msZ, List.range_succ]

set_option maxHeartbeats 4000000 in
set_option maxRecDepth 100000 in
/-- One state for all that no line tells apart. -/
theorem mergeStates_any (A : Tb) (cl : Value) (b off cN ab ao ca : Nat) (w : World) (hw : A.Wf) (hf : A.Full) (hn : A.n ≤ 1024) (hk : 1 ≤ A.k ∧ A.k ≤ 256) (hcN : A.n * A.k ≤ cN) (hb : b < w.heap.size) (hx : NxAt w b off A.n A.k A.nx)
    (hab : ab < w.heap.size) (hac : ∀ q, q < A.n → w.cell? ⟨ab, ao + q, none⟩ = some (.bool (A.ac q))) (hcl : ∃ a n c, cl = .slice a n c) :
    Calls Try.prog 28 #[.agg #[cl, .int .i64 (A.k : Nat), .slice (some ⟨b, off, none⟩) (A.n * A.k) cN, .slice (some ⟨ab, ao, none⟩) A.n ca]] w fun e w' => ∃ nv av, e = .returned (.agg #[cl, .int .i64 (A.k : Nat), nv, av]) ∧ Below w.heap.size w w' ∧
      ∃ (m : Nat) (num F : Nat → Nat), Num1 A.n m num F ∧ (∀ p q, p < A.n → q < A.n → (num p = num q ↔ Tel A A p q)) ∧ m ≤ A.n ∧ w'.ownsRow w.heap.size 3 1 nv (m * A.k) ((msY A num F (m * A.k)).map mN) ∧ w'.ownsRow w.heap.size 4 1 av m ((msZ A F m).map mT) ∧ ∀ r, nv.ownBlock = some r → av.ownBlock ≠ some r := by
  obtain ⟨i0, hi0, hz0, hz1, hz2⟩ := info_parts Try.zinInt
  obtain ⟨ca0, cl0, cc0, rfl⟩ := hcl
  have hn1 : 1 ≤ A.n := hw.pos
  have hLn : A.n * A.k ≤ 1024 * 256 := Nat.mul_le_mul hn hk.2
  obtain ⟨W2, hW2⟩ : ∃ W2, W2 = (w.alloc (.cells #[.slice ca0 cl0 cc0, .int .i64 (A.k : Nat), .slice (some ⟨b, off, none⟩) (A.n * A.k) cN, .slice (some ⟨ab, ao, none⟩) A.n ca] 27)).alloc (.cells #[.slice none 0 0, .int .i64 0, .slice none 0 0, .slice none 0 0] 27) := ⟨_, rfl⟩
  have hB2 : Below w.heap.size w W2 := by rw [hW2]; exact below2 w _ _
  have hsz2 : W2.heap.size = w.heap.size + 2 := by rw [hW2, sz_alloc, sz_alloc]
  have hD2 : Row4 W2 w.heap.size 27 (.slice ca0 cl0 cc0) (.int .i64 (A.k : Nat)) (.slice (some ⟨b, off, none⟩) (A.n * A.k) cN) (.slice (some ⟨ab, ao, none⟩) A.n ca) := by rw [hW2]; exact (Row4.new w _ _ _ _ _).alloc _
  have hE2 : Row4 W2 (w.heap.size + 1) 27 (.slice none 0 0) (.int .i64 0) (.slice none 0 0) (.slice none 0 0) := by
    have := Row4.new (w.alloc (.cells #[.slice ca0 cl0 cc0, .int .i64 (A.k : Nat), .slice (some ⟨b, off, none⟩) (A.n * A.k) cN, .slice (some ⟨ab, ao, none⟩) A.n ca] 27)) 27 (.slice none 0 0) (.int .i64 0) (.slice none 0 0) (.slice none 0 0)
    rw [sz_alloc] at this
    rw [hW2]
    exact this
  have HTE := hide (tellApart_any A (.slice ca0 cl0 cc0) b off cN ab ao ca W2 hw hf hn hk hcN (by omega) (fun q c hq hc => ⟨(hx q c hq hc).1, by rw [hB2.cell (p := ⟨b, off + (q * A.k + c), none⟩) hb]; exact (hx q c hq hc).2⟩) (by omega) (fun q hq => by rw [hB2.cell (p := ⟨ab, ao + q, none⟩) hab]; exact hac q hq))
  obtain ⟨L, hL⟩ : ∃ L, L = A.n * A.k := ⟨_, rfl⟩
  rw [← hL] at hcN hLn hD2 hW2 ⊢
  rw [← hL] at HTE
  obtain ⟨f0, f1, f2, f3, -⟩ := hD2.facts
  have HL := hide hL
  have HX := hide hx
  have HAC := hide hac
  have HW2 := hide hW2
  have HB2 := hide hB2
  have HD2 := hide hD2
  have HE2 := hide hE2
  clear hL hx hac hW2 hB2 hD2 hE2
  go_enter Try.func28, Try.ntmps28
  go_wp2_with fail
  rw [← unhide HW2]
  refine (unhide HTE).mono ?_
  rintro e w3 ⟨bb, bc, rfl, hB3, hbb, bs, hRb, hTel, hbsn⟩
  have hz3 := hB3.size
  have hlb := hRb.lt
  obtain ⟨f0, f1, f2, f3, -⟩ := ((unhide HD2).below hB3 (by omega)).facts
  have HB3 := hide hB3
  have HRB := hide hRb
  have HTEL := hide hTel
  have HBN := hide hbsn
  obtain ⟨W4, hW4⟩ : ∃ W4, W4 = w3.alloc (.cells #[.slice ca0 cl0 cc0, .int .i64 (A.k : Nat), .slice none 0 0, .slice none 0 0] 27) := ⟨_, rfl⟩
  have HN := hide (newI_any W4)
  have HW4 := hide hW4
  have hsz4 : W4.heap.size = w3.heap.size + 1 := by rw [hW4, sz_alloc]
  have HO4 : Hid (Row4 W4 w3.heap.size 27 (.slice ca0 cl0 cc0) (.int .i64 (A.k : Nat)) (.slice none 0 0) (.slice none 0 0)) := by
    show Row4 _ _ _ _ _ _ _
    rw [hW4]; exact Row4.new w3 _ _ _ _ _
  have HB4 : Hid (Below w3.heap.size w3 W4) := by
    show Below _ _ _
    rw [hW4]; exact below1 w3 _
  clear hW4 HTE HW2 hB3 hRb hTel hbsn
  go_wp2_with fail
  rw [← unhide HW4]
  refine (unhide HN).mono ?_
  rintro e w5 ⟨rfl, hN5, hz5, hB5⟩
  rw [hsz4] at hN5 hz5 ⊢
  have hmk := run_make_row' (P := Try.prog) 22 3 (.int .i64 0) 8 Try.underlying22 Try.zinInt rfl .i64 .i64 A.n (by omega) (by omega)
  obtain ⟨W6, hW6⟩ : ∃ W6, W6 = (w5.alloc (.cells #[.map (some (w3.heap.size + 1 + 1))] 54)).alloc (.cells (madeCells #[.int .i64 0] A.n) 3) := ⟨_, rfl⟩
  have HW6 := hide hW6
  have hb56 : Below w5.heap.size w5 W6 := by rw [hW6]; exact below2 w5 _ _
  have hb46 : Below W4.heap.size W4 W6 := hB5.trans (hb56.mono (by omega))
  have hsz6 : W6.heap.size = w3.heap.size + 5 := by rw [hW6, sz_alloc, sz_alloc]; omega
  have hkb6 : W6.rowIs (w3.heap.size + 3) 54 1 (fun _ => .map (some (w3.heap.size + 2))) := by
    have := World.rowIs_alloc w5 #[.map (some (w3.heap.size + 1 + 1))] 54 (fun _ => .map (some (w3.heap.size + 1 + 1))) (fun j hj => by
      match j, hj with
      | 0, _ => rfl)
    rw [hz5] at this
    rw [hW6]
    exact this.alloc _
  have hnr6 : RowN W6 (w3.heap.size + 4) A.n (fun s => ([] : List Nat)[s]?.getD 0) := by
    have := World.rowIs_made (w5.alloc (.cells #[.map (some (w3.heap.size + 1 + 1))] 54)) (.int .i64 0) A.n 3
    rw [sz_alloc, hz5] at this
    rw [hW6]
    exact ⟨_, _, this, Nat.le_refl _, fun j hj => rfl⟩
  have hb36 : Below w3.heap.size w3 W6 := (unhide HB4).trans (hb46.mono (by omega))
  have hNb : NbAt W6 W6 (w3.heap.size + 2) (w3.heap.size + 4) A.n bs [] [] [] (.slice none 0 0) := ⟨hN5.keep (hb56.block _ (by omega)), hnr6, World.ownsRow_nil _ _ _ _, NumL.nil _, FrO.refl _ _, by omega, by omega, by omega⟩
  have HNB := hide hNb
  have HKB := hide hkb6
  have HRB6 := hide ((unhide HRB).on (hb36.block _ hlb))
  have HO6 := hide ((unhide HO4).below hb46 (by omega))
  have HB36 := hide hb36
  clear HN HW4 hW6 hN5 hB5 hb56 hb46 hkb6 hnr6 hb36 hNb HRB HO4 HB4
  go_wp2_with fail
  rw [← unhide HW6]
  clear HW6 hmk f0 f1 f2 f3
  simp only [Nat.add_assoc, Nat.reduceAdd]
  go_loopw [7, 29] (fun fv iv wr => ∃ (i : Nat) (ds ns fs : List Nat), i ≤ A.n ∧ iv = .int .i64 (i : Nat) ∧ ns.length = i ∧ NbAt W6 wr (w3.heap.size + 2) (w3.heap.size + 4) A.n bs ds ns fs fv) (fun _ iv _ => A.n - (intOf iv).toNat)
  case atStart => exact ⟨0, [], [], [], by omega, rfl, rfl, unhide HNB⟩
  case round =>
    clear HNB
    obtain ⟨i, ds, ns, fs, hi, rfl, hns, hNb⟩ := hrel
    by_cases hlt : i < A.n
    · have hlt' : (i : Int) < (A.n : Int) := by omega
      have hds := hNb.fl
      have hzr := hNb.fr.size
      have u0 : wr.cell? ⟨w3.heap.size + 3, 0, none⟩ = some (.map (some (w3.heap.size + 2))) := ((unhide HKB).of_block (hNb.fr.block _ (by rintro (h | h | h) <;> omega))).cell (by omega)
      have y0 : wr.cell? ⟨bb, i, none⟩ = some (.int .i64 (bs i : Nat)) := ((unhide HRB6).on (hNb.fr.block bb (by rintro (h | h | h) <;> omega))).cell hlt
      have hbi := unhide HBN i hlt
      have HOF := hide (ofI_any (w3.heap.size + 2) (bs i : Nat) (ds.map mN) wr hNb.num (by omega) (by omega) (by rw [List.length_map]; omega))
      have HNB := hide hNb
      have hfs : fs.length ≤ 1024 := by have := hNb.nl.fl; omega
      obtain ⟨fa, fc, e7⟩ := own_is hNb.fo
      subst e7
      clear hNb
      go_wp2_with fail
      refine (unhide HOF).mono ?_
      rintro e w7 ⟨num, ks', f, rfl, hR, hN7, hF7⟩
      obtain ⟨q1, q2, q3⟩ := (unhide HNB).at7 hF7
      have hz7 := hF7.size
      rcases hR with ⟨h1, rfl, h2, rfl⟩ | ⟨h1, rfl, rfl, rfl⟩
      · have hnum := mN_get h2
        have hST := NbAt.store (x := num) hns (unhide HNB).lt hN7 q1 q2 q3 ((unhide HNB).nl.old (by rw [hns]; exact hnum))
        have c1 := q1.cell hlt
        have c2 := q1.frozen i
        have HST := hide hST
        clear hST q1 q2 q3 hN7 hF7 hnum h1 h2 HOF u0 y0
        go_wp2
        go_roundw
        case rel => exact ⟨i + 1, ds, ns ++ [num], fs, by omega, by go_num, by rw [List.length_append, hns]; rfl, unhide HST⟩
        case measure => simp [intOf]; omega
      · have hnew : bs i ∉ ds := fun hm => h1 (mN_mem.2 hm)
        rw [List.length_map]
        have HQ1 := hide q1
        have HQ2 := hide q2
        have HQ3 := hide q3
        have HN7 := hide hN7
        have HNW := hide hnew
        clear q1 q2 q3 hN7 hF7 hnew h1 HOF u0 y0
        go_wp2_with (at_builtin; refine wpList_append_own_at _ rfl _ _ 22 rfl W6.heap.size 3 i0 (.int .i64 0) 1 8 Try.underlying22 hi0 hz0 hz1 hz2 rfl (by decide) _ _ _ rfl ((unhide HQ2).alloc _) ⟨w7.heap.size, 0, none⟩ 1 1 [.int .i64 (i : Nat)] rfl rfl ?_ ?_ ?_ ?_ ?_ ?_)
        · exact cell_1 (cell_new _ _ _)
        · intro u hu; simp at hu; subst hu; rfl
        · unfold maxLen; omega
        · omega
        · rw [sz_alloc]; omega
        intro v' w8 r1 r2 _ r3
        have hz8 := r2.size
        rw [sz_alloc] at hz8
        have k2 := grown_old (below1 w7 _) r2
        have nq : ∀ k, k < W6.heap.size → (Value.slice fa fs.length fc).ownBlock ≠ some k := fun k hk e => by have := ((unhide HQ2).lt k e).1; omega
        obtain ⟨l1, l2, l3⟩ := (unhide HNB).lt
        have q1 := (unhide HQ1).on (k2 _ (by omega) (nq _ l2))
        have hST := NbAt.store (x := ds.length) (ds := ds ++ [bs i]) (fs := fs ++ [i]) hns (unhide HNB).lt (by
            have := unhide HN7
            rw [List.map_append]
            exact this.keep (k2 _ (by omega) (nq _ l1))) q1 (by rw [List.length_append, List.map_append, hsz6]; exact r1) ((unhide HQ3).trans ⟨r2.os, r2.tape, r2.output, by omega, fun k hk => k2 k (by have := Nat.lt_of_not_le (fun e => hk (.inr (.inr e))); omega) (nq k (Nat.lt_of_not_le (fun e => hk (.inr (.inr e)))))⟩) (by
            have := (unhide HNB).nl.new (fun j hj e => by
              rw [hns] at e
              exact unhide HNW (List.mem_of_getElem? e))
            rw [hns] at this
            exact this)
        obtain ⟨va, vc, rfl⟩ := own_is r1
        have c1 := q1.cell hlt
        have c2 := q1.frozen i
        have HST := hide hST
        clear hST q1 r1 r2 r3 k2 nq HQ1 HQ2 HQ3 HN7
        go_wp2
        go_roundw
        case rel => exact ⟨i + 1, ds ++ [bs i], ns ++ [ds.length], fs ++ [i], by omega, by go_num, by rw [List.length_append, hns]; rfl, unhide HST⟩
        case measure => simp [intOf]; omega
    · have hlt' : ¬ (i : Int) < (A.n : Int) := by omega
      obtain rfl : i = A.n := by omega
      obtain ⟨w5', rfl⟩ : ∃ w5', w5' = wr := ⟨_, rfl⟩
      have hz5' := hNb.fr.size
      have hnum1 := hNb.nl.num1
      have hfl := hNb.nl.fl
      have hds := hNb.fl
      obtain ⟨fa, fc, e7⟩ := own_is hNb.fo
      subst e7
      have hb5 : ∀ k, k < w3.heap.size + 2 → w5'.heap[k]? = W6.heap[k]? := fun k hk => hNb.fr.block k (by rintro (h | h | h) <;> omega)
      have hOt : OtAt w5' w5' w3.heap.size (.slice ca0 cl0 cc0) (.int .i64 (A.k : Nat)) (.slice none 0 0) (.slice none 0 0) [] [] := ⟨World.rowIs.of_block (unhide HO6) (hb5 _ (by omega)), World.ownsRow_nil _ _ _ _, World.ownsRow_nil _ _ _ _, (fun r hr => by cases hr), FrO.refl _ _, by omega⟩
      have hlow : ∀ k, k < W2.heap.size → w5'.heap[k]? = W2.heap[k]? := fun k hk => (hb5 k (by omega)).trans (((unhide HB36).block k (by omega)).trans ((unhide HB3).block k hk))
      obtain ⟨m, hm⟩ : ∃ m, m = fs.length := ⟨_, rfl⟩
      obtain ⟨num, hnum⟩ : ∃ num : Nat → Nat, num = fun s => ns[s]?.getD 0 := ⟨_, rfl⟩
      obtain ⟨F, hF⟩ : ∃ F : Nat → Nat, F = fun j => fs[j]?.getD 0 := ⟨_, rfl⟩
      rw [hns, ← hfl, ← hm, ← hnum, ← hF] at hnum1
      have hmn : m ≤ A.n := by omega
      have htel : ∀ p q, p < A.n → q < A.n → (num p = num q ↔ Tel A A p q) := fun p q hp hq => by
        rw [hnum, hNb.nl.eq_iff (by omega) (by omega)]
        exact unhide HTEL p q hp hq
      have hnr := hNb.nr
      rw [← hnum] at hnr
      have hfo := hNb.fo
      rw [← hm] at hfo
      have hD5 := World.rowIs.of_block (unhide HD2) (hlow w.heap.size (by omega))
      have hE5 := World.rowIs.of_block (unhide HE2) (hlow (w.heap.size + 1) (by omega))
      have HT5 : Hid (∀ W, FrO (OneB w5' w3.heap.size) w5' W → Row4 W w.heap.size 27 (.slice ca0 cl0 cc0) (.int .i64 (A.k : Nat)) (.slice (some ⟨b, off, none⟩) L cN) (.slice (some ⟨ab, ao, none⟩) A.n ca) ∧ Below w.heap.size w W ∧ RowN W (w3.heap.size + 4) A.n num ∧ ∀ j, j < m → F j < A.n ∧ ∃ fb c2, fa = some ⟨fb, 0, none⟩ ∧ fc = c2 ∧ W.cell? ⟨fb, j, none⟩ = some (.int .i64 (F j : Nat))) := fun W hW => by
        have hk : ∀ k, k < w5'.heap.size → k ≠ w3.heap.size → W.heap[k]? = w5'.heap[k]? := fun k h1 h2 => hW.block k (by rintro (h | h) <;> omega)
        have hzW := hW.size
        refine ⟨World.rowIs.of_block hD5 (hk _ (by omega) (by omega)), ⟨?_, ?_, ?_, by have := (unhide HB2).size; omega, fun k h1 => ?_⟩, hnr.on (hk _ (by omega) (by omega)), fun j hj => ?_⟩
        · exact hW.os.trans (hNb.fr.os.trans ((unhide HB36).os.trans ((unhide HB3).os.trans (unhide HB2).os)))
        · exact hW.tape.trans (hNb.fr.tape.trans ((unhide HB36).tape.trans ((unhide HB3).tape.trans (unhide HB2).tape)))
        · exact hW.output.trans (hNb.fr.output.trans ((unhide HB36).output.trans ((unhide HB3).output.trans (unhide HB2).output)))
        · exact (hk k (by omega) (by omega)).trans ((hlow k (by omega)).trans ((unhide HB2).block k h1))
        · obtain ⟨g, cap, e, hc⟩ := own_at hfo (by omega)
          have hl := hfo.lt
          cases e
          have hg := hl g rfl
          refine ⟨by have := (hnum1.fst j hj).1; exact this, g, _, rfl, rfl, ?_⟩
          rw [World.cell?_of_block (a := ⟨g, j, none⟩) (hk g (by omega) (by omega)), hc j hj, List.getElem?_map, List.getElem?_eq_getElem (by omega), hF]
          simp [mN, mI, List.getElem?_eq_getElem (show j < fs.length by omega)]
      have HOT := hide hOt
      have HN1 := hide hnum1
      have HTL := hide htel
      have HE5 := hide hE5
      rw [← hm]
      clear hNb hb5 hOt hlow hnum1 htel hnr hfo hD5 hE5 hfl hm hnum hF HKB HRB6 HO6 HB36 HB3 HTEL HBN HD2 HE2 HB2
      go_wp2_with fail
      go_loopw [52] (fun jv wr => ∃ (j : Nat) (nv av : Value), j ≤ m ∧ jv = .int .i64 (j : Nat) ∧ OtAt w5' wr w3.heap.size (.slice ca0 cl0 cc0) (.int .i64 (A.k : Nat)) nv av (msY A num F (j * A.k)) (msZ A F j)) (fun jv _ => m - (intOf jv).toNat)
      case atStart => exact ⟨0, _, _, by omega, rfl, by rw [Nat.zero_mul]; exact unhide HOT⟩
      case round =>
        clear HOT
        obtain ⟨j, nv, av, hj, rfl, hO⟩ := hrel
        obtain ⟨w8, rfl⟩ : ∃ w8, w8 = wr := ⟨_, rfl⟩
        by_cases hjm : j < m
        · have hjm' : (j : Int) < (m : Int) := by omega
          obtain ⟨hD, hBw, hNr, hFj⟩ := unhide HT5 w8 hO.fr
          obtain ⟨hsn, fb, c2, rfl, rfl, y0⟩ := hFj j hjm
          obtain ⟨d0, d1, d2, d3, -⟩ := hD.facts
          obtain ⟨g0, g1, g2, g3, -⟩ := hO.out.facts
          have y1 : w8.cell? ⟨ab, ao + F j, none⟩ = some (.bool (A.ac (F j))) := by rw [hBw.cell (p := ⟨ab, ao + F j, none⟩) hab]; exact unhide HAC _ hsn
          obtain ⟨va, vc, e2⟩ := own_is hO.oa
          have hzl : (msZ A F j).length = j := by simp [msZ]
          rw [hzl] at e2
          have hoa := hO.oa
          rw [hzl, e2] at hoa
          rw [e2] at g3
          obtain ⟨sj, hsj⟩ : ∃ sj, sj = F j := ⟨_, rfl⟩
          rw [← hsj] at y0 y1 hsn
          have hz8 := hO.fr.size
          have HO := hide hO
          have HSJ := hide hsj
          have HE2' := hide e2
          have HZL := hide hzl
          have HG3 := hide g3
          have HD3 := hide d3
          have HY1 := hide y1
          have HOA := hide hoa
          clear hO hD hBw hNr hFj hsj e2 hzl g0 g1 g2 g3 d0 d1 d2 d3 y1 hoa
          go_wp2_with fail
          refine merge_acc w8 w.heap.size w3.heap.size ab ao A.n ca sj j vc w5'.heap.size va (A.ac sj) _ hsn (by omega) (by omega) (by omega) (unhide HG3) (unhide HD3) (by rw [unhide HSJ]; rw [unhide HSJ] at HY1; exact unhide HY1) (unhide HOA) (fun WA w9 gg cap r1 r2 r3 hP => ?_)
          have hA := (unhide HO).pushA (x := A.ac sj) (v' := .slice (some ⟨gg, 0, none⟩) (j + 1) cap) hP.below (by rw [List.length_append, unhide HZL, List.map_append]; exact r1) (by rw [unhide HE2']; exact r2) (fun q hq => by
            rw [unhide HE2']
            have hq' : gg = q := Option.some.inj hq
            subst hq'
            rcases r3 with e | e
            · exact .inl e
            · exact .inr (by omega))
          rw [unhide HE2'] at hA
          refine ⟨hA.1, hA.2.1, ?_⟩
          have hA3 := hA.2.2
          obtain ⟨w10, hw10⟩ : ∃ w10, w10 = w9.setCell ⟨w3.heap.size, 3, none⟩ (.slice (some ⟨gg, 0, none⟩) (j + 1) cap) := ⟨_, rfl⟩
          rw [← hw10] at hA3 ⊢
          have hzt : msZ A F j ++ [A.ac sj] = msZ A F (j + 1) := by rw [msZ_next, ← unhide HSJ]
          rw [hzt] at hA3
          clear hA hw10 r1 r2 r3 hP hzt HG3 HD3 HY1 HOA HE2' HZL HO y0
          obtain ⟨hD, -, -, -⟩ := unhide HT5 w10 hA3.fr
          obtain ⟨d0, d1, d2, d3, -⟩ := hD.facts
          have hsL : (sj + 1) * A.k ≤ L := by rw [unhide HL]; exact Nat.mul_le_mul_right _ hsn
          have hrw := row_any (.slice ca0 cl0 cc0) (.slice (some ⟨ab, ao, none⟩) A.n ca) b off L cN A.k sj w10 hsL (by omega) hcN (by omega) hk
          obtain ⟨rq, hrq⟩ : ∃ rq, rq = sj * A.k := ⟨_, rfl⟩
          rw [← hrq] at hrw
          have HRW := hide hrw
          have HRQ := hide hrq
          have HA3 := hide hA3
          clear hrw hrq hsL hA3 hD
          go_wp2_with fail
          refine (unhide HRW).mono ?_
          rintro e w11 ⟨rfl, hb11⟩
          have HR11 := hide ((unhide HA3).keep hb11)
          clear HA3 hb11 d0 d1 d2 d3 HRW
          go_wp2_with fail
          go_loopw [70] (fun cv wx => ∃ (c : Nat) (nv av : Value), c ≤ A.k ∧ cv = .int .i64 (c : Nat) ∧ OtAt w5' wx w3.heap.size (.slice ca0 cl0 cc0) (.int .i64 (A.k : Nat)) nv av (msY A num F (j * A.k + c)) (msZ A F (j + 1))) (fun cv _ => A.k - (intOf cv).toNat)
          case atStart => exact ⟨0, _, _, by omega, rfl, unhide HR11⟩
          case round =>
            clear HR11
            obtain ⟨c, nv, av, hc, rfl, hO⟩ := hrel
            by_cases hcl : c < A.k
            · have hcl' : (c : Int) < (A.k : Int) := by omega
              obtain ⟨hD, hBw, hNr, -⟩ := unhide HT5 wr hO.fr
              obtain ⟨x1, x2⟩ := unhide HX sj c hsn hcl
              have y0 : wr.cell? ⟨b, off + rq + c, none⟩ = some (.int .i64 (A.nx sj c : Nat)) := by rw [unhide HRQ, Nat.add_assoc, hBw.cell (p := ⟨b, off + (sj * A.k + c), none⟩) hb]; exact x2
              obtain ⟨g0, g1, g2, g3, -⟩ := hO.out.facts
              obtain ⟨na, nc, e1⟩ := own_is hO.on
              have hyb : (msY A num F (j * A.k + c)).length ≤ 262144 := by
                have h1 : (msY A num F (j * A.k + c)).length = j * A.k + c := by simp [msY]
                have h2 := row_in (k := A.k) (Nat.lt_of_lt_of_le hjm hmn) hcl
                rw [← unhide HL] at h2
                omega
              have hmY := msY_next A num F (j := j) hcl
              rw [← unhide HSJ] at hmY
              obtain ⟨Y, hY⟩ : ∃ Y, Y = msY A num F (j * A.k + c) := ⟨_, rfl⟩
              rw [← hY] at e1 hyb hmY
              have hon := hO.on
              rw [← hY, e1] at hon
              rw [e1] at g2
              obtain ⟨nxt, hnxt⟩ : ∃ y, y = A.nx sj c := ⟨_, rfl⟩
              rw [← hnxt] at y0 x1 hmY
              have k0 := hNr.cell x1
              have hzr := hO.fr.size
              have HO := hide hO
              have HE1 := hide e1
              have HMY := hide hmY
              have HG2 := hide g2
              have HK0 := hide k0
              have HON := hide hon
              have HYY := hide hY
              clear hO hD hBw hNr x2 g0 g1 g2 g3 e1 hmY hY hnxt k0 hon
              go_wp2_with fail
              refine merge_num wr w3.heap.size (w3.heap.size + 4) A.n A.n nxt (num nxt) Y.length nc w5'.heap.size na _ x1 (by omega) (by omega) (by omega) (unhide HG2) (unhide HK0) (unhide HON) (fun WA w12 gg2 cap2 r1 r2 r3 hP => ?_)
              have hP2 := unhide HO
              rw [← unhide HYY] at hP2
              have hA := hP2.pushN (x := num nxt) (v' := .slice (some ⟨gg2, 0, none⟩) (Y.length + 1) cap2) hP.below (by rw [List.length_append, List.map_append]; exact r1) (by rw [unhide HE1]; exact r2) (fun q hq => by
                rw [unhide HE1]
                have hq' : gg2 = q := Option.some.inj hq
                subst hq'
                rcases r3 with e | e
                · exact .inl e
                · exact .inr (by omega))
              rw [unhide HE1] at hA
              refine ⟨hA.1, hA.2.1, ?_⟩
              have HA := hide hA.2.2
              clear hA hP2 r1 r2 r3 hP HG2 HK0 HON HO y0
              go_wp2
              go_roundw
              case rel => exact ⟨c + 1, _, _, by omega, by go_num, by rw [unhide HMY]; exact unhide HA⟩
              case measure => simp [intOf]; omega
            · have hcl' : ¬ (c : Int) < (A.k : Int) := by omega
              obtain rfl : c = A.k := by omega
              have HO := hide hO
              clear hO
              go_wp2
              go_roundw
              case rel => exact ⟨j + 1, _, _, by omega, by go_num, by rw [Nat.add_mul, Nat.one_mul]; exact unhide HO⟩
              case measure => simp [intOf]; omega
        · have hjm' : ¬ (j : Int) < (m : Int) := by omega
          obtain rfl : j = m := by omega
          obtain ⟨hD, hBw, -, -⟩ := unhide HT5 w8 hO.fr
          obtain ⟨g0, g1, g2, g3, -⟩ := hO.out.facts
          have hz8 := hO.fr.size
          have hE8 : Row4 w8 (w.heap.size + 1) 27 (.slice none 0 0) (.int .i64 0) (.slice none 0 0) (.slice none 0 0) := World.rowIs.of_block (unhide HE5) (hO.fr.block _ (by rintro (h | h) <;> omega))
          obtain ⟨x0, x1, x2, x3, z0, z1, z2, z3⟩ := hE8.facts
          obtain ⟨na, nc, e1⟩ := own_is hO.on
          obtain ⟨va, vc, e2⟩ := own_is hO.oa
          have hyl : (msY A num F (j * A.k)).length = j * A.k := by simp [msY]
          have hzl : (msZ A F j).length = j := by simp [msZ]
          rw [hyl] at e1
          rw [hzl] at e2
          have hon := hO.on
          have hoa := hO.oa
          rw [hyl, e1] at hon
          rw [hzl, e2] at hoa
          have hna := hO.na
          rw [e1, e2] at hna
          rw [e1] at g2
          rw [e2] at g3
          obtain ⟨yl, hyl2⟩ : ∃ yl, yl = j * A.k := ⟨_, rfl⟩
          rw [← hyl2] at g2 hon hna
          have hR4 := (((hE8.put0 (u := .slice ca0 cl0 cc0)).put1 (u := .int .i64 (A.k : Nat))).put2 (u := .slice na yl nc)).put3' (u := .slice va j vc)
          have hob : Obk (w.heap.size + 1) w8 ((((w8.setCell ⟨w.heap.size + 1, 0, none⟩ (.slice ca0 cl0 cc0)).setCell ⟨w.heap.size + 1, 1, none⟩ (.int .i64 (A.k : Nat))).setCell ⟨w.heap.size + 1, 2, none⟩ (.slice na yl nc)).setCell ⟨w.heap.size + 1, 3, none⟩ (.slice va j vc)) := (((obk_put _ _).trans (obk_put _ _)).trans (obk_put _ _)).trans (obk_put _ _)
          have HR4 := hide hR4
          have HOB := hide hob
          have HBW := hide hBw
          have HON := hide hon
          have HOA := hide hoa
          have HNA := hide hna
          have HY2 := hide hyl2
          clear hO hD hBw hE8 e1 e2 hyl hzl hon hoa hna hR4 hob hyl2
          go_wp2
          refine bodyPost_ret (dfa_ret (unhide HR4) rfl _ rfl) rfl ?_
          have hob := unhide HOB
          have hbw := unhide HBW
          refine ⟨_, _, rfl, ⟨hob.os.trans hbw.os, hob.tape.trans hbw.tape, hob.output.trans hbw.output, by rw [hob.size]; exact hbw.size, fun k hk => (hob.block k (by omega)).trans (hbw.block k hk)⟩, j, num, F, unhide HN1, unhide HTL, hmn, ?_, own_low (own_blk (unhide HOA) (fun r hr => hob.block r (by have := ((unhide HOA).lt r hr).1; omega))) (by omega), unhide HNA⟩
          rw [← unhide HY2]
          exact own_low (own_blk (unhide HON) (fun r hr => hob.block r (by have := ((unhide HON).lt r hr).1; omega))) (by omega)

end Go.Proofs.Ytjmajdfcfcgegaa
