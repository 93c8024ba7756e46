import Derived.Test.YtfdkdjngeomcdaaDoorP10
import Derived.Test.YtfdkdjngeomcdaaDoorP9
namespace Go.Proofs.YtfdkdjngeomcdaaDoor
open Go.RowKit

set_option maxHeartbeats 16000000 in
set_option maxRecDepth 100000 in
theorem AddV.alt {u v : Value} {n m : Nat} {a b : It} {la lb : List Lk} {sa sb : List (List Int)} (hu : AddV u n a la sa) (hv : AddV v m b lb sb) (hbd : Bdd a n) : AddV (aV u v) (n + m) (itAlt a (b.sh n)) (la ++ shL n lb) (sa ++ sb) := by
  obtain ⟨⟨T, x, rfl⟩, hu⟩ := hu
  obtain ⟨⟨T', x', rfl⟩, hv⟩ := hv
  refine ⟨⟨_, _, rfl⟩, fun O A w N S K h hO htz hN => ?_⟩
  obtain ⟨W1, hW1⟩ : ∃ W1, W1 = (w.alloc oE0).alloc (.cells #[.iface T x, .iface T' x'] 106) := ⟨_, rfl⟩
  have hz : W1.heap.size = w.heap.size + 2 := by rw [hW1, sz_alloc, sz_alloc]
  have hb1 : Below w.heap.size w W1 := by
    rw [hW1]
    exact below2 w _ _
  have e1 : EndAt W1 w.heap.size false z8 z8 := by
    rw [hW1]
    exact World.rowIs.alloc (end_new0 w) _
  have k1 : W1.cell? ⟨w.heap.size + 1, 1, none⟩ = some (.iface T' x') := by
    have := (pushd_alloc (w.alloc oE0) (.cells #[.iface T x, .iface T' x'] 106)).news 1 _ rfl
    rw [sz_alloc] at this
    rw [hW1]
    exact this
  have hA := hu (Sk O w.heap.size W1.heap.size) A W1 N S K (h.skip hb1) (fun k hk => ⟨hO k (by omega), Or.inr hk⟩) ((htz.below hb1).less Sk.sub) (by omega)
  have HA := hide hA
  have HV := hide hv
  have HE := hide e1
  have HK := hide k1
  have HO := hide hO
  have HB := hide hb1
  have HZ := hide hz
  have HTZ := hide ((htz.below hb1).less (O' := (Sk O w.heap.size W1.heap.size)) Sk.sub)
  have HBD := hide hbd
  have HW1 := hide hW1
  clear hA e1 k1 hb1 hz hW1 h hO htz hu hbd hv
  unfold aV
  have t1 := tp_as
  have t2 := tp_ac
  have t3 := tp_aa
  go_enter Tryd.func31, Tryd.ntmps31
  go_wp2_with fail
  rw [← unhide HW1]
  clear HW1
  refine (unhide HA).mono ?_
  rintro e w2 ⟨f1, l1, rfl, hf1, hl1, ha, hfr⟩
  obtain ⟨W3, hW3⟩ : ∃ W3, W3 = w2.alloc (oE a.nl f1 l1) := ⟨_, rfl⟩
  have hz1 := unhide HZ
  have hz2 := hfr.size
  have hz3 : W3.heap.size = w2.heap.size + 1 := by rw [hW3, sz_alloc]
  have hb3 : Below w2.heap.size w2 W3 := by rw [hW3]; exact below1 w2 _
  have hb3d : Below w2.heap.size w2 W3.drew := hb3.drew
  have hO2 : ∀ k, w2.heap.size ≤ k → (Sk O w.heap.size W1.heap.size) k := fun k hk => ⟨unhide HO k (by omega), Or.inr (by omega)⟩
  have ha3 := (ha.skip hb3).keep (w' := W3.drew) (fun k _ _ => rfl)
  have htz3 : TzO (Sk (Sk O w.heap.size W1.heap.size) w2.heap.size W3.heap.size) W3.drew := (((unhide HTZ).fr hfr).below hb3d).less Sk.sub
  have hV := unhide HV (Sk (Sk O w.heap.size W1.heap.size) w2.heap.size W3.heap.size) A W3.drew (N + n) (S ++ sa) (K ++ shL N la) ha3 (fun k hk => ⟨hO2 k (by have : W3.heap.size ≤ k := hk; omega), Or.inr hk⟩) htz3 (by omega)
  have HNO : Hid (∀ (w4 : World) (k : Nat), FrO (Sk (Sk O w.heap.size W1.heap.size) w2.heap.size W3.heap.size) W3.drew w4 → w.heap.size ≤ k → k < w.heap.size + 2 → w4.heap[k]? = W1.heap[k]?) := fun w4 k h4 q1 q2 => by
    have n1 : ¬ (Sk O w.heap.size W1.heap.size) k := fun q => by rcases q.2 with q | q <;> omega
    exact ((h4.block k (fun q => n1 q.1)).trans (hb3.block k (by omega))).trans (hfr.block k n1)
  have HNG : Hid (∀ (w4 : World), FrO (Sk (Sk O w.heap.size W1.heap.size) w2.heap.size W3.heap.size) W3.drew w4 → w4.heap[w2.heap.size]? = W3.heap[w2.heap.size]?) := fun w4 h4 => h4.block _ (fun q => by rcases q.2 with q | q <;> omega)
  have HFIN : Hid (∀ (w4 wf : World), AuAt (Sk (Sk O w.heap.size W1.heap.size) w2.heap.size W3.heap.size) A w4 (N + n + m) (S ++ sa ++ sb) (K ++ shL N la ++ shL (N + n) lb) → FrO (Sk (Sk O w.heap.size W1.heap.size) w2.heap.size W3.heap.size) W3.drew w4 → Obk w.heap.size w4 wf →
      AuAt O A wf (N + (n + m)) (S ++ (sa ++ sb)) (K ++ shL N (la ++ shL n lb)) ∧ FrO O w wf) := fun w4 wf a4 f4 hob => by
    refine ⟨?_, (fro_of (unhide HB) (unhide HO)).trans ((hfr.mono Sk.sub).trans ((fro_of hb3d (fun k hk => unhide HO k (by omega))).trans (((f4.mono Sk.sub).mono Sk.sub).trans (hob.fro (unhide HO _ (Nat.le_refl _))))))⟩
    have := ((a4.keep (w' := wf) (fun k hk _ => hob.block k (fun e => by rcases hk.1.2 with q | q <;> omega))).mono Sk.sub).mono Sk.sub
    have e : K ++ shL N (la ++ shL n lb) = (K ++ shL N la ++ shL (N + n) lb) := by simp only [shL_app, shL_sh, List.append_assoc]
    rw [e, ← Nat.add_assoc, ← List.append_assoc]
    exact this
  have HEG : Hid (EndAt W3 w2.heap.size a.nl f1 l1) := by rw [hW3]; exact end_new w2 _ _ _
  have k2 := cell_keep (unhide HK) (hfr.block _ (fun q => by rcases q.2 with q | q <;> omega))
  have k3 : W3.cell? ⟨w.heap.size + 1, 1, none⟩ = some (.iface T' x') := cell_keep k2 (hb3.block _ (by omega))
  have HVV := hide hV
  have HF1 := hide hf1
  have HL1 := hide hl1
  have HTZ3 := hide htz3
  have HW3 := hide hW3
  have hz22 : w.heap.size + 2 ≤ w2.heap.size := by omega
  have HO3 : Hid (∀ (w4 : World), FrO (Sk (Sk O w.heap.size W1.heap.size) w2.heap.size W3.heap.size) W3.drew w4 → ∀ k, w4.heap.size ≤ k → (Sk (Sk O w.heap.size W1.heap.size) w2.heap.size W3.heap.size) k) := fun w4 h4 k hk => by
    have h5 : W3.heap.size ≤ w4.heap.size := h4.size
    exact ⟨hO2 k (by omega), Or.inr (by omega)⟩
  have HJJ : Hid (∀ (w4 : World) (f2 l2 : Nat → Nat), BitsOf f2 (b.sh (N + n)).fi → BitsOf l2 (b.sh (N + n)).la → AuAt (Sk (Sk O w.heap.size W1.heap.size) w2.heap.size W3.heap.size) A w4 (N + n + m) (S ++ sa ++ sb) (K ++ shL N la ++ shL (N + n) lb) → FrO (Sk (Sk O w.heap.size W1.heap.size) w2.heap.size W3.heap.size) W3.drew w4 →
      Calls Tryd.prog 53 #[.agg #[.bool a.nl, .int .u64 (f1 0 : Nat), .int .u64 (f1 1 : Nat), .int .u64 (f1 2 : Nat), .int .u64 (f1 3 : Nat), .int .u64 (f1 4 : Nat), .int .u64 (f1 5 : Nat), .int .u64 (f1 6 : Nat), .int .u64 (f1 7 : Nat), .int .u64 (l1 0 : Nat), .int .u64 (l1 1 : Nat), .int .u64 (l1 2 : Nat), .int .u64 (l1 3 : Nat), .int .u64 (l1 4 : Nat), .int .u64 (l1 5 : Nat), .int .u64 (l1 6 : Nat), .int .u64 (l1 7 : Nat)], .agg #[.bool b.nl, .int .u64 (f2 0 : Nat), .int .u64 (f2 1 : Nat), .int .u64 (f2 2 : Nat), .int .u64 (f2 3 : Nat), .int .u64 (f2 4 : Nat), .int .u64 (f2 5 : Nat), .int .u64 (f2 6 : Nat), .int .u64 (f2 7 : Nat), .int .u64 (l2 0 : Nat), .int .u64 (l2 1 : Nat), .int .u64 (l2 2 : Nat), .int .u64 (l2 3 : Nat), .int .u64 (l2 4 : Nat), .int .u64 (l2 5 : Nat), .int .u64 (l2 6 : Nat), .int .u64 (l2 7 : Nat)]] w4 fun e w' => ∃ B F L, e = .returned (.agg #[.bool B, .int .u64 (F 0 : Nat), .int .u64 (F 1 : Nat), .int .u64 (F 2 : Nat), .int .u64 (F 3 : Nat), .int .u64 (F 4 : Nat), .int .u64 (F 5 : Nat), .int .u64 (F 6 : Nat), .int .u64 (F 7 : Nat), .int .u64 (L 0 : Nat), .int .u64 (L 1 : Nat), .int .u64 (L 2 : Nat), .int .u64 (L 3 : Nat), .int .u64 (L 4 : Nat), .int .u64 (L 5 : Nat), .int .u64 (L 6 : Nat), .int .u64 (L 7 : Nat)]) ∧ B = (itAlt a (b.sh n)).nl ∧ BitsOf F ((itAlt a (b.sh n)).sh N).fi ∧ BitsOf L ((itAlt a (b.sh n)).sh N).la ∧ AuAt (Sk (Sk O w.heap.size W1.heap.size) w2.heap.size W3.heap.size) A w' (N + n + m) (S ++ sa ++ sb) (K ++ shL N la ++ shL (N + n) lb) ∧ FrO (Sk (Sk O w.heap.size W1.heap.size) w2.heap.size W3.heap.size) W3.drew w') := fun w4 f2 l2 hf2 hl2 ha4 hfr4 => by
    refine (joinAlt_any a.nl b.nl f1 l1 f2 l2 w4 hf1.1 hl1.1 hf2.1 hl2.1).mono ?_
    rintro e w' ⟨rfl, hb⟩
    refine ⟨_, _, _, rfl, rfl, ?_, ?_, ha4.keep (fun k _ hk => hb.block k hk), hfr4.trans (fro_of hb (unhide HO3 w4 hfr4))⟩
    · rw [alt_sh, It.sh_sh]; exact bits_app hf1 hf2
    · rw [alt_sh, It.sh_sh]; exact bits_app hl1 hl2
  clear hV hf1 hl1 ha hfr hW3 hb3 hO2 hz1 hz2 hz3 hb3d ha3 htz3 HA HB HTZ HV HZ
  unfold endV
  go_wp2_with fail
  rw [← unhide HW3]
  clear HW3 k2
  refine wp_region_any (by kernel_rfl) ?_
  change wpAny _ _ _ _ _ _ _ (World.drew _)
  refine wpAny_take (i := 1) (v := .pointer (some ⟨A, 0, none⟩)) rfl (by kernel_rfl) (by kernel_rfl) (by kernel_rfl) (fun _ _ _ h => h) (Or.inl ⟨by rfl, by intro w; go_simp⟩) ?_
  refine wpAny_take (i := 2) (v := .pointer (some ⟨w.heap.size + 1, 1, none⟩)) rfl (by kernel_rfl) (by kernel_rfl) (by kernel_rfl) (fun _ _ _ h => h) (Or.inl ⟨by rfl, by intro w; go_simp⟩) ?_
  refine wpAny_ready (rs := [0, 3]) (by kernel_rfl) (by simp) ?_
  refine AllReady.cons rfl (fun K hK => ?_) ?_
  ·
    refine step_load_end rfl (.tmp 9) rfl w2.heap.size (by first | (simp [Act.eval]; done) | (simp [Act.eval, Act.put]; done)) (EndAt.blk (unhide HEG)) ?_
    try go_simp
    refine hK _ _ ?_
    clear hK K
    refine wpAny_ready (rs := [3]) (by kernel_rfl) (by simp) ?_
    refine AllReady.cons rfl (fun K hK => ?_) AllReady.nil
    go_simp
    refine hK _ _ ?_
    clear hK K
    refine wpAny_ready (rs := [4]) (by kernel_rfl) (by simp) ?_
    refine AllReady.cons rfl (fun K hK => ?_) AllReady.nil
    go_simp
    refine (unhide HVV).mono ?_
    rintro e w4 ⟨f2, l2, rfl, hf2, hl2, ha4, hfr4⟩
    have HJ := hide (unhide HJJ w4 f2 l2 hf2 hl2 ha4 hfr4)
    have HEG4 := hide (EndAt.on (unhide HEG) (unhide HNG w4 hfr4))
    clear hf2 hl2 ha4 hfr4
    unfold endV
    refine hK _ _ ?_
    clear hK K
    refine wpAny_ready (rs := [5]) (by kernel_rfl) (by simp) ?_
    refine AllReady.cons rfl (fun K hK => ?_) AllReady.nil
    go_simp
    refine (unhide HJ).mono ?_
    rintro e w5 ⟨B, F, L, rfl, hB, hF, hL, ha5, hfr5⟩
    have HE5 := hide (EndAt.on (unhide HE) (unhide HNO w5 _ hfr5 (by omega) (by omega)))
    have HR := hide (And.intro hB (And.intro hF (And.intro hL (And.intro ha5 hfr5))))
    clear hB hF hL ha5 hfr5
    refine hK _ _ ?_
    clear hK K
    refine wpAny_ready (rs := [6]) (by kernel_rfl) (by simp) ?_
    refine AllReady.cons rfl (fun K hK => ?_) AllReady.nil
    refine step_store_row rfl 80 (.tmp 4) (.tmp 46) rfl w.heap.size #[.bool B, .int .u64 (F 0 : Nat), .int .u64 (F 1 : Nat), .int .u64 (F 2 : Nat), .int .u64 (F 3 : Nat), .int .u64 (F 4 : Nat), .int .u64 (F 5 : Nat), .int .u64 (F 6 : Nat), .int .u64 (F 7 : Nat), .int .u64 (L 0 : Nat), .int .u64 (L 1 : Nat), .int .u64 (L 2 : Nat), .int .u64 (L 3 : Nat), .int .u64 (L 4 : Nat), .int .u64 (L 5 : Nat), .int .u64 (L 6 : Nat), .int .u64 (L 7 : Nat)] (by first | (simp [Act.eval]; done) | (simp [Act.eval, Act.put]; done)) (by first | (simp [Act.eval]; done) | (simp [Act.eval, Act.put]; done)) 80 _ (EndAt.blk (unhide HE5)) (by kernel_rfl) rfl (all1 _ _ _) ?_
    refine hK _ _ ?_
    clear hK K
    refine wpAny_done (by kernel_rfl) ?_ _
    go_wp2
    refine bodyPost_ret (end_ret (EndAt.row (unhide HE5) B F L) rfl _ rfl) rfl ?_
    obtain ⟨hB, hF, hL, ha5, hfr5⟩ := unhide HR
    have hfin := unhide HFIN w5 (w5.setRow w.heap.size #[.bool B, .int .u64 (F 0 : Nat), .int .u64 (F 1 : Nat), .int .u64 (F 2 : Nat), .int .u64 (F 3 : Nat), .int .u64 (F 4 : Nat), .int .u64 (F 5 : Nat), .int .u64 (F 6 : Nat), .int .u64 (F 7 : Nat), .int .u64 (L 0 : Nat), .int .u64 (L 1 : Nat), .int .u64 (L 2 : Nat), .int .u64 (L 3 : Nat), .int .u64 (L 4 : Nat), .int .u64 (L 5 : Nat), .int .u64 (L 6 : Nat), .int .u64 (L 7 : Nat)]) ha5 hfr5 (row_obk _ _ _)
    exact ⟨F, L, by rw [hB], hF, hL, hfin.1, hfin.2⟩
  refine AllReady.cons rfl (fun K hK => ?_) AllReady.nil
  go_simp
  refine hK _ _ ?_
  clear hK K
  refine wpAny_ready (rs := [0, 4]) (by kernel_rfl) (by simp) ?_
  refine AllReady.cons rfl (fun K hK => ?_) ?_
  ·
    refine step_load_end rfl (.tmp 9) rfl w2.heap.size (by first | (simp [Act.eval]; done) | (simp [Act.eval, Act.put]; done)) (EndAt.blk (unhide HEG)) ?_
    try go_simp
    refine hK _ _ ?_
    clear hK K
    refine wpAny_ready (rs := [4]) (by kernel_rfl) (by simp) ?_
    refine AllReady.cons rfl (fun K hK => ?_) AllReady.nil
    go_simp
    refine (unhide HVV).mono ?_
    rintro e w4 ⟨f2, l2, rfl, hf2, hl2, ha4, hfr4⟩
    have HJ := hide (unhide HJJ w4 f2 l2 hf2 hl2 ha4 hfr4)
    have HEG4 := hide (EndAt.on (unhide HEG) (unhide HNG w4 hfr4))
    clear hf2 hl2 ha4 hfr4
    unfold endV
    refine hK _ _ ?_
    clear hK K
    refine wpAny_ready (rs := [5]) (by kernel_rfl) (by simp) ?_
    refine AllReady.cons rfl (fun K hK => ?_) AllReady.nil
    go_simp
    refine (unhide HJ).mono ?_
    rintro e w5 ⟨B, F, L, rfl, hB, hF, hL, ha5, hfr5⟩
    have HE5 := hide (EndAt.on (unhide HE) (unhide HNO w5 _ hfr5 (by omega) (by omega)))
    have HR := hide (And.intro hB (And.intro hF (And.intro hL (And.intro ha5 hfr5))))
    clear hB hF hL ha5 hfr5
    refine hK _ _ ?_
    clear hK K
    refine wpAny_ready (rs := [6]) (by kernel_rfl) (by simp) ?_
    refine AllReady.cons rfl (fun K hK => ?_) AllReady.nil
    refine step_store_row rfl 80 (.tmp 4) (.tmp 46) rfl w.heap.size #[.bool B, .int .u64 (F 0 : Nat), .int .u64 (F 1 : Nat), .int .u64 (F 2 : Nat), .int .u64 (F 3 : Nat), .int .u64 (F 4 : Nat), .int .u64 (F 5 : Nat), .int .u64 (F 6 : Nat), .int .u64 (F 7 : Nat), .int .u64 (L 0 : Nat), .int .u64 (L 1 : Nat), .int .u64 (L 2 : Nat), .int .u64 (L 3 : Nat), .int .u64 (L 4 : Nat), .int .u64 (L 5 : Nat), .int .u64 (L 6 : Nat), .int .u64 (L 7 : Nat)] (by first | (simp [Act.eval]; done) | (simp [Act.eval, Act.put]; done)) (by first | (simp [Act.eval]; done) | (simp [Act.eval, Act.put]; done)) 80 _ (EndAt.blk (unhide HE5)) (by kernel_rfl) rfl (all1 _ _ _) ?_
    refine hK _ _ ?_
    clear hK K
    refine wpAny_done (by kernel_rfl) ?_ _
    go_wp2
    refine bodyPost_ret (end_ret (EndAt.row (unhide HE5) B F L) rfl _ rfl) rfl ?_
    obtain ⟨hB, hF, hL, ha5, hfr5⟩ := unhide HR
    have hfin := unhide HFIN w5 (w5.setRow w.heap.size #[.bool B, .int .u64 (F 0 : Nat), .int .u64 (F 1 : Nat), .int .u64 (F 2 : Nat), .int .u64 (F 3 : Nat), .int .u64 (F 4 : Nat), .int .u64 (F 5 : Nat), .int .u64 (F 6 : Nat), .int .u64 (F 7 : Nat), .int .u64 (L 0 : Nat), .int .u64 (L 1 : Nat), .int .u64 (L 2 : Nat), .int .u64 (L 3 : Nat), .int .u64 (L 4 : Nat), .int .u64 (L 5 : Nat), .int .u64 (L 6 : Nat), .int .u64 (L 7 : Nat)]) ha5 hfr5 (row_obk _ _ _)
    exact ⟨F, L, by rw [hB], hF, hL, hfin.1, hfin.2⟩
  refine AllReady.cons rfl (fun K hK => ?_) AllReady.nil
  go_simp
  refine (unhide HVV).mono ?_
  rintro e w4 ⟨f2, l2, rfl, hf2, hl2, ha4, hfr4⟩
  have HJ := hide (unhide HJJ w4 f2 l2 hf2 hl2 ha4 hfr4)
  have HEG4 := hide (EndAt.on (unhide HEG) (unhide HNG w4 hfr4))
  clear hf2 hl2 ha4 hfr4
  unfold endV
  refine hK _ _ ?_
  clear hK K
  refine wpAny_ready (rs := [0]) (by kernel_rfl) (by simp) ?_
  refine AllReady.cons rfl (fun K hK => ?_) AllReady.nil
  refine step_load_end rfl (.tmp 9) rfl w2.heap.size (by first | (simp [Act.eval]; done) | (simp [Act.eval, Act.put]; done)) (EndAt.blk (unhide HEG4)) ?_
  try go_simp
  refine hK _ _ ?_
  clear hK K
  refine wpAny_ready (rs := [5]) (by kernel_rfl) (by simp) ?_
  refine AllReady.cons rfl (fun K hK => ?_) AllReady.nil
  go_simp
  refine (unhide HJ).mono ?_
  rintro e w5 ⟨B, F, L, rfl, hB, hF, hL, ha5, hfr5⟩
  have HE5 := hide (EndAt.on (unhide HE) (unhide HNO w5 _ hfr5 (by omega) (by omega)))
  have HR := hide (And.intro hB (And.intro hF (And.intro hL (And.intro ha5 hfr5))))
  clear hB hF hL ha5 hfr5
  refine hK _ _ ?_
  clear hK K
  refine wpAny_ready (rs := [6]) (by kernel_rfl) (by simp) ?_
  refine AllReady.cons rfl (fun K hK => ?_) AllReady.nil
  refine step_store_row rfl 80 (.tmp 4) (.tmp 46) rfl w.heap.size #[.bool B, .int .u64 (F 0 : Nat), .int .u64 (F 1 : Nat), .int .u64 (F 2 : Nat), .int .u64 (F 3 : Nat), .int .u64 (F 4 : Nat), .int .u64 (F 5 : Nat), .int .u64 (F 6 : Nat), .int .u64 (F 7 : Nat), .int .u64 (L 0 : Nat), .int .u64 (L 1 : Nat), .int .u64 (L 2 : Nat), .int .u64 (L 3 : Nat), .int .u64 (L 4 : Nat), .int .u64 (L 5 : Nat), .int .u64 (L 6 : Nat), .int .u64 (L 7 : Nat)] (by first | (simp [Act.eval]; done) | (simp [Act.eval, Act.put]; done)) (by first | (simp [Act.eval]; done) | (simp [Act.eval, Act.put]; done)) 80 _ (EndAt.blk (unhide HE5)) (by kernel_rfl) rfl (all1 _ _ _) ?_
  refine hK _ _ ?_
  clear hK K
  refine wpAny_done (by kernel_rfl) ?_ _
  go_wp2
  refine bodyPost_ret (end_ret (EndAt.row (unhide HE5) B F L) rfl _ rfl) rfl ?_
  obtain ⟨hB, hF, hL, ha5, hfr5⟩ := unhide HR
  have hfin := unhide HFIN w5 (w5.setRow w.heap.size #[.bool B, .int .u64 (F 0 : Nat), .int .u64 (F 1 : Nat), .int .u64 (F 2 : Nat), .int .u64 (F 3 : Nat), .int .u64 (F 4 : Nat), .int .u64 (F 5 : Nat), .int .u64 (F 6 : Nat), .int .u64 (F 7 : Nat), .int .u64 (L 0 : Nat), .int .u64 (L 1 : Nat), .int .u64 (L 2 : Nat), .int .u64 (L 3 : Nat), .int .u64 (L 4 : Nat), .int .u64 (L 5 : Nat), .int .u64 (L 6 : Nat), .int .u64 (L 7 : Nat)]) ha5 hfr5 (row_obk _ _ _)
  exact ⟨F, L, by rw [hB], hF, hL, hfin.1, hfin.2⟩

end Go.Proofs.YtfdkdjngeomcdaaDoor

namespace Go.Proofs.YtfdkdjngeomcdaaDoor
open Go.RowKit

set_option maxHeartbeats 8000000 in
set_option maxRecDepth 100000 in
theorem joinCat_false_false (O : Nat → Prop) (A N : Nat) (S : List (List Int)) (K : List Lk) (f1 l1 f2 l2 : Nat → Nat) (xs ys : List Nat) (w : World) (h : AuAt O A w N S K) (hO : ∀ k, w.heap.size ≤ k → O k) (htz : TzO O w)
    (h1 : Fit f1) (h2 : BitsOf l1 xs) (h3 : BitsOf f2 ys) (h4 : Fit l2) (hx : ∀ x ∈ xs, x < N) (hN : N ≤ 512) :
    Calls Tryd.prog 52 #[.pointer (some ⟨A, 0, none⟩), endV false f1 l1, endV false f2 l2] w fun e w' => e = .returned (endV false f1 l2) ∧ AuAt O A w' N S (K ++ [(xs, ys)]) ∧ FrO O w w' := by
  obtain ⟨W1, hW1⟩ : ∃ W1, W1 = ((w.alloc (oE false f1 l1)).alloc (oE false f2 l2)).alloc oE0 := ⟨_, rfl⟩
  have hz : W1.heap.size = w.heap.size + 3 := by rw [hW1, sz_alloc, sz_alloc, sz_alloc]
  have hb1 : Below w.heap.size w W1 := by
    rw [hW1]
    exact (below2 w _ _).trans ((below1 _ _).mono (by rw [sz_alloc, sz_alloc]; omega))
  have e1 : EndAt W1 w.heap.size false f1 l1 := by
    rw [hW1]
    exact World.rowIs.alloc (World.rowIs.alloc (end_new w false f1 l1) _) _
  have e2 : EndAt W1 (w.heap.size + 1) false f2 l2 := by
    have := end_new (w.alloc (oE false f1 l1)) false f2 l2
    rw [sz_alloc] at this
    rw [hW1]
    exact World.rowIs.alloc this _
  have e3 : EndAt W1 (w.heap.size + 2) false z8 z8 := by
    have := end_new0 ((w.alloc (oE false f1 l1)).alloc (oE false f2 l2))
    rw [sz_alloc, sz_alloc] at this
    rw [hW1]
    exact this
  have hL := link_any (Sk O w.heap.size W1.heap.size) A N S K l1 f2 xs ys W1 (h.skip hb1) (fun k hk => ⟨hO k (by omega), Or.inr hk⟩) ((htz.below hb1).less Sk.sub) h2 h3 hx hN
  have HL := hide hL
  have HE1 := hide e1
  have HE2 := hide e2
  have HE3 := hide e3
  have H1 := hide h1
  have H2 := hide h2.1
  have H3 := hide h3.1
  have H4 := hide h4
  have HO := hide hO
  have HW1 := hide hW1
  have HB1 := hide hb1
  have HZ1 := hide hz
  clear e1 e2 e3 hz hb1 hW1 h1 h2 h3 h4 hL hx hO htz h
  have HFIN : Hid (∀ (w2 wf : World) (cs : Array Value), AuAt (Sk O w.heap.size W1.heap.size) A w2 N S (K ++ [(xs, ys)]) → FrO (Sk O w.heap.size W1.heap.size) W1 w2 → Below w2.heap.size w2 wf → AuAt O A (wf.setRow (w.heap.size + 2) cs) N S (K ++ [(xs, ys)]) ∧ FrO O w (wf.setRow (w.heap.size + 2) cs)) := fun w2 wf cs ha hf hb => by
    have hz := unhide HZ1
    have hs1 := hf.size
    have hs2 := hb.size
    refine ⟨(ha.keep (w' := wf.setRow (w.heap.size + 2) cs) (fun k hk hk2 => ?_)).mono Sk.sub, (fro_of (unhide HB1) (unhide HO)).trans ((hf.mono Sk.sub).trans ⟨hb.os, hb.tape, hb.output, by rw [setRow_size]; exact hb.size, fun k hk => ?_⟩)⟩
    · rw [setRow_other _ _ _ _ (by rcases hk.2 with q | q <;> omega)]
      exact hb.block k hk2
    · have hk2 : k < w.heap.size := by apply Nat.lt_of_not_le; intro e; exact hk (unhide HO k e)
      rw [setRow_other _ _ _ _ (by omega)]
      exact hb.block k (by omega)
  have HNO : Hid (∀ (w2 : World) (k : Nat), FrO (Sk O w.heap.size W1.heap.size) W1 w2 → w.heap.size ≤ k → k < w.heap.size + 3 → w2.heap[k]? = W1.heap[k]?) := fun w2 k hf q1 q2 => hf.block k (fun q => by
    have := unhide HZ1
    rcases q.2 with q | q <;> omega)
  unfold endV
  · go_enter Tryd.func52, Tryd.ntmps52
    go_wp2_with fail
    rw [← unhide HW1]
    clear HW1
    refine (unhide HL).mono ?_
    rintro e w2 ⟨rfl, ha, hf⟩
    have Ha := hide (EndAt.on (unhide HE1) (unhide HNO w2 _ hf (by omega) (by omega)))
    have Hc := hide (EndAt.on (unhide HE2) (unhide HNO w2 _ hf (by omega) (by omega)))
    have Hd := hide (EndAt.on (unhide HE3) (unhide HNO w2 _ hf (by omega) (by omega)))
    have a0 : w2.cell? ⟨w.heap.size, 0, none⟩ = some (.bool false) := EndAt.cell (unhide Ha) 0 (by omega)
    have a1 : w2.cell? ⟨w.heap.size, 1, none⟩ = some (.int .u64 (f1 0 : Nat)) := EndAt.cell (unhide Ha) 1 (by omega)
    have a2 : w2.cell? ⟨w.heap.size, 2, none⟩ = some (.int .u64 (f1 1 : Nat)) := EndAt.cell (unhide Ha) 2 (by omega)
    have a3 : w2.cell? ⟨w.heap.size, 3, none⟩ = some (.int .u64 (f1 2 : Nat)) := EndAt.cell (unhide Ha) 3 (by omega)
    have a4 : w2.cell? ⟨w.heap.size, 4, none⟩ = some (.int .u64 (f1 3 : Nat)) := EndAt.cell (unhide Ha) 4 (by omega)
    have a5 : w2.cell? ⟨w.heap.size, 5, none⟩ = some (.int .u64 (f1 4 : Nat)) := EndAt.cell (unhide Ha) 5 (by omega)
    have a6 : w2.cell? ⟨w.heap.size, 6, none⟩ = some (.int .u64 (f1 5 : Nat)) := EndAt.cell (unhide Ha) 6 (by omega)
    have a7 : w2.cell? ⟨w.heap.size, 7, none⟩ = some (.int .u64 (f1 6 : Nat)) := EndAt.cell (unhide Ha) 7 (by omega)
    have a8 : w2.cell? ⟨w.heap.size, 8, none⟩ = some (.int .u64 (f1 7 : Nat)) := EndAt.cell (unhide Ha) 8 (by omega)
    have c0 : w2.cell? ⟨w.heap.size + 1, 0, none⟩ = some (.bool false) := EndAt.cell (unhide Hc) 0 (by omega)
    have c9 : w2.cell? ⟨w.heap.size + 1, 9, none⟩ = some (.int .u64 (l2 0 : Nat)) := EndAt.cell (unhide Hc) 9 (by omega)
    have c10 : w2.cell? ⟨w.heap.size + 1, 10, none⟩ = some (.int .u64 (l2 1 : Nat)) := EndAt.cell (unhide Hc) 10 (by omega)
    have c11 : w2.cell? ⟨w.heap.size + 1, 11, none⟩ = some (.int .u64 (l2 2 : Nat)) := EndAt.cell (unhide Hc) 11 (by omega)
    have c12 : w2.cell? ⟨w.heap.size + 1, 12, none⟩ = some (.int .u64 (l2 3 : Nat)) := EndAt.cell (unhide Hc) 12 (by omega)
    have c13 : w2.cell? ⟨w.heap.size + 1, 13, none⟩ = some (.int .u64 (l2 4 : Nat)) := EndAt.cell (unhide Hc) 13 (by omega)
    have c14 : w2.cell? ⟨w.heap.size + 1, 14, none⟩ = some (.int .u64 (l2 5 : Nat)) := EndAt.cell (unhide Hc) 14 (by omega)
    have c15 : w2.cell? ⟨w.heap.size + 1, 15, none⟩ = some (.int .u64 (l2 6 : Nat)) := EndAt.cell (unhide Hc) 15 (by omega)
    have c16 : w2.cell? ⟨w.heap.size + 1, 16, none⟩ = some (.int .u64 (l2 7 : Nat)) := EndAt.cell (unhide Hc) 16 (by omega)
    have HA := hide ha
    have HF := hide hf
    have hz2 : w.heap.size + 3 ≤ w2.heap.size := by have h1 := hf.size; have h2 := unhide HZ1; omega
    clear ha hf HL HE1 HE2 HE3
    obtain ⟨W3, hW3⟩ : ∃ W3, W3 = w2.alloc (oE false f1 l2) := ⟨_, rfl⟩
    have HG : Hid (EndAt W3 w2.heap.size false f1 l2) := by rw [hW3]; exact end_new w2 _ _ _
    have HX : Hid (EndAt W3 w.heap.size false f1 l1) := by rw [hW3]; exact World.rowIs.alloc (unhide Ha) _
    have HY : Hid (EndAt W3 (w.heap.size + 1) false f2 l2) := by rw [hW3]; exact World.rowIs.alloc (unhide Hc) _
    have HR : Hid (EndAt W3 (w.heap.size + 2) false z8 z8) := by rw [hW3]; exact World.rowIs.alloc (unhide Hd) _
    have HBB : Hid (Below w2.heap.size w2 W3) := by rw [hW3]; exact below1 w2 _
    have x0 : (w2.alloc (.cells #[.bool false, .int .u64 (f1 0 : Nat), .int .u64 (f1 1 : Nat), .int .u64 (f1 2 : Nat), .int .u64 (f1 3 : Nat), .int .u64 (f1 4 : Nat), .int .u64 (f1 5 : Nat), .int .u64 (f1 6 : Nat), .int .u64 (f1 7 : Nat), .int .u64 (l2 0 : Nat), .int .u64 (l2 1 : Nat), .int .u64 (l2 2 : Nat), .int .u64 (l2 3 : Nat), .int .u64 (l2 4 : Nat), .int .u64 (l2 5 : Nat), .int .u64 (l2 6 : Nat), .int .u64 (l2 7 : Nat)] 80)).cell? ⟨w.heap.size, 0, none⟩ = some (.bool false) := by rw [← hW3]; exact EndAt.cell (unhide HX) 0 (by omega)
    have y0 : (w2.alloc (.cells #[.bool false, .int .u64 (f1 0 : Nat), .int .u64 (f1 1 : Nat), .int .u64 (f1 2 : Nat), .int .u64 (f1 3 : Nat), .int .u64 (f1 4 : Nat), .int .u64 (f1 5 : Nat), .int .u64 (f1 6 : Nat), .int .u64 (f1 7 : Nat), .int .u64 (l2 0 : Nat), .int .u64 (l2 1 : Nat), .int .u64 (l2 2 : Nat), .int .u64 (l2 3 : Nat), .int .u64 (l2 4 : Nat), .int .u64 (l2 5 : Nat), .int .u64 (l2 6 : Nat), .int .u64 (l2 7 : Nat)] 80)).cell? ⟨w.heap.size + 1, 0, none⟩ = some (.bool false) := by rw [← hW3]; exact EndAt.cell (unhide HY) 0 (by omega)
    have HW3 := hide hW3
    clear hW3
    rw [unhide HW3] at HG HR
    go_wp2_with (first | (refine wpList_load_row rfl 80 (.tmp 7) rfl (w2.heap.size) (by first | (simp [Act.eval]; done) | (simp [Act.eval, Act.put]; done)) 80 _ _ _ (EndAt.blk (unhide HG)) Tryd.underlying80 rfl (by kernel_rfl) ?_) | (refine wpList_store_row rfl 80 (.tmp 6) (.tmp 35) rfl (w.heap.size + 1 + 1) #[.bool false, .int .u64 (f1 0 : Nat), .int .u64 (f1 1 : Nat), .int .u64 (f1 2 : Nat), .int .u64 (f1 3 : Nat), .int .u64 (f1 4 : Nat), .int .u64 (f1 5 : Nat), .int .u64 (f1 6 : Nat), .int .u64 (f1 7 : Nat), .int .u64 (l2 0 : Nat), .int .u64 (l2 1 : Nat), .int .u64 (l2 2 : Nat), .int .u64 (l2 3 : Nat), .int .u64 (l2 4 : Nat), .int .u64 (l2 5 : Nat), .int .u64 (l2 6 : Nat), .int .u64 (l2 7 : Nat)] (by first | (simp [Act.eval]; done) | (simp [Act.eval, Act.put]; done)) (by first | (simp [Act.eval]; done) | (simp [Act.eval, Act.put]; done)) 80 _ (EndAt.blk (unhide HR)) (by kernel_rfl) rfl (all1 _ _ _) ?_))
    refine bodyPost_ret (end_ret (EndAt.row (unhide HR) _ _ _) rfl _ rfl) rfl ?_
    exact ⟨rfl, unhide HFIN w2 _ _ (unhide HA) (unhide HF) (below1 w2 _)⟩
set_option maxHeartbeats 8000000 in
set_option maxRecDepth 100000 in
theorem joinCat_false_true (O : Nat → Prop) (A N : Nat) (S : List (List Int)) (K : List Lk) (f1 l1 f2 l2 : Nat → Nat) (xs ys : List Nat) (w : World) (h : AuAt O A w N S K) (hO : ∀ k, w.heap.size ≤ k → O k) (htz : TzO O w)
    (h1 : Fit f1) (h2 : BitsOf l1 xs) (h3 : BitsOf f2 ys) (h4 : Fit l2) (hx : ∀ x ∈ xs, x < N) (hN : N ≤ 512) :
    Calls Tryd.prog 52 #[.pointer (some ⟨A, 0, none⟩), endV false f1 l1, endV true f2 l2] w fun e w' => e = .returned (endV false f1 (orW l2 l1)) ∧ AuAt O A w' N S (K ++ [(xs, ys)]) ∧ FrO O w w' := by
  obtain ⟨W1, hW1⟩ : ∃ W1, W1 = ((w.alloc (oE false f1 l1)).alloc (oE true f2 l2)).alloc oE0 := ⟨_, rfl⟩
  have hz : W1.heap.size = w.heap.size + 3 := by rw [hW1, sz_alloc, sz_alloc, sz_alloc]
  have hb1 : Below w.heap.size w W1 := by
    rw [hW1]
    exact (below2 w _ _).trans ((below1 _ _).mono (by rw [sz_alloc, sz_alloc]; omega))
  have e1 : EndAt W1 w.heap.size false f1 l1 := by
    rw [hW1]
    exact World.rowIs.alloc (World.rowIs.alloc (end_new w false f1 l1) _) _
  have e2 : EndAt W1 (w.heap.size + 1) true f2 l2 := by
    have := end_new (w.alloc (oE false f1 l1)) true f2 l2
    rw [sz_alloc] at this
    rw [hW1]
    exact World.rowIs.alloc this _
  have e3 : EndAt W1 (w.heap.size + 2) false z8 z8 := by
    have := end_new0 ((w.alloc (oE false f1 l1)).alloc (oE true f2 l2))
    rw [sz_alloc, sz_alloc] at this
    rw [hW1]
    exact this
  have hL := link_any (Sk O w.heap.size W1.heap.size) A N S K l1 f2 xs ys W1 (h.skip hb1) (fun k hk => ⟨hO k (by omega), Or.inr hk⟩) ((htz.below hb1).less Sk.sub) h2 h3 hx hN
  have HL := hide hL
  have HE1 := hide e1
  have HE2 := hide e2
  have HE3 := hide e3
  have H1 := hide h1
  have H2 := hide h2.1
  have H3 := hide h3.1
  have H4 := hide h4
  have HO := hide hO
  have HW1 := hide hW1
  have HB1 := hide hb1
  have HZ1 := hide hz
  clear e1 e2 e3 hz hb1 hW1 h1 h2 h3 h4 hL hx hO htz h
  have HFIN : Hid (∀ (w2 wf : World) (cs : Array Value), AuAt (Sk O w.heap.size W1.heap.size) A w2 N S (K ++ [(xs, ys)]) → FrO (Sk O w.heap.size W1.heap.size) W1 w2 → Below w2.heap.size w2 wf → AuAt O A (wf.setRow (w.heap.size + 2) cs) N S (K ++ [(xs, ys)]) ∧ FrO O w (wf.setRow (w.heap.size + 2) cs)) := fun w2 wf cs ha hf hb => by
    have hz := unhide HZ1
    have hs1 := hf.size
    have hs2 := hb.size
    refine ⟨(ha.keep (w' := wf.setRow (w.heap.size + 2) cs) (fun k hk hk2 => ?_)).mono Sk.sub, (fro_of (unhide HB1) (unhide HO)).trans ((hf.mono Sk.sub).trans ⟨hb.os, hb.tape, hb.output, by rw [setRow_size]; exact hb.size, fun k hk => ?_⟩)⟩
    · rw [setRow_other _ _ _ _ (by rcases hk.2 with q | q <;> omega)]
      exact hb.block k hk2
    · have hk2 : k < w.heap.size := by apply Nat.lt_of_not_le; intro e; exact hk (unhide HO k e)
      rw [setRow_other _ _ _ _ (by omega)]
      exact hb.block k (by omega)
  have HNO : Hid (∀ (w2 : World) (k : Nat), FrO (Sk O w.heap.size W1.heap.size) W1 w2 → w.heap.size ≤ k → k < w.heap.size + 3 → w2.heap[k]? = W1.heap[k]?) := fun w2 k hf q1 q2 => hf.block k (fun q => by
    have := unhide HZ1
    rcases q.2 with q | q <;> omega)
  unfold endV
  · go_enter Tryd.func52, Tryd.ntmps52
    go_wp2_with fail
    rw [← unhide HW1]
    clear HW1
    refine (unhide HL).mono ?_
    rintro e w2 ⟨rfl, ha, hf⟩
    have Ha := hide (EndAt.on (unhide HE1) (unhide HNO w2 _ hf (by omega) (by omega)))
    have Hc := hide (EndAt.on (unhide HE2) (unhide HNO w2 _ hf (by omega) (by omega)))
    have Hd := hide (EndAt.on (unhide HE3) (unhide HNO w2 _ hf (by omega) (by omega)))
    have a0 : w2.cell? ⟨w.heap.size, 0, none⟩ = some (.bool false) := EndAt.cell (unhide Ha) 0 (by omega)
    have a1 : w2.cell? ⟨w.heap.size, 1, none⟩ = some (.int .u64 (f1 0 : Nat)) := EndAt.cell (unhide Ha) 1 (by omega)
    have a2 : w2.cell? ⟨w.heap.size, 2, none⟩ = some (.int .u64 (f1 1 : Nat)) := EndAt.cell (unhide Ha) 2 (by omega)
    have a3 : w2.cell? ⟨w.heap.size, 3, none⟩ = some (.int .u64 (f1 2 : Nat)) := EndAt.cell (unhide Ha) 3 (by omega)
    have a4 : w2.cell? ⟨w.heap.size, 4, none⟩ = some (.int .u64 (f1 3 : Nat)) := EndAt.cell (unhide Ha) 4 (by omega)
    have a5 : w2.cell? ⟨w.heap.size, 5, none⟩ = some (.int .u64 (f1 4 : Nat)) := EndAt.cell (unhide Ha) 5 (by omega)
    have a6 : w2.cell? ⟨w.heap.size, 6, none⟩ = some (.int .u64 (f1 5 : Nat)) := EndAt.cell (unhide Ha) 6 (by omega)
    have a7 : w2.cell? ⟨w.heap.size, 7, none⟩ = some (.int .u64 (f1 6 : Nat)) := EndAt.cell (unhide Ha) 7 (by omega)
    have a8 : w2.cell? ⟨w.heap.size, 8, none⟩ = some (.int .u64 (f1 7 : Nat)) := EndAt.cell (unhide Ha) 8 (by omega)
    have c0 : w2.cell? ⟨w.heap.size + 1, 0, none⟩ = some (.bool true) := EndAt.cell (unhide Hc) 0 (by omega)
    have c9 : w2.cell? ⟨w.heap.size + 1, 9, none⟩ = some (.int .u64 (l2 0 : Nat)) := EndAt.cell (unhide Hc) 9 (by omega)
    have c10 : w2.cell? ⟨w.heap.size + 1, 10, none⟩ = some (.int .u64 (l2 1 : Nat)) := EndAt.cell (unhide Hc) 10 (by omega)
    have c11 : w2.cell? ⟨w.heap.size + 1, 11, none⟩ = some (.int .u64 (l2 2 : Nat)) := EndAt.cell (unhide Hc) 11 (by omega)
    have c12 : w2.cell? ⟨w.heap.size + 1, 12, none⟩ = some (.int .u64 (l2 3 : Nat)) := EndAt.cell (unhide Hc) 12 (by omega)
    have c13 : w2.cell? ⟨w.heap.size + 1, 13, none⟩ = some (.int .u64 (l2 4 : Nat)) := EndAt.cell (unhide Hc) 13 (by omega)
    have c14 : w2.cell? ⟨w.heap.size + 1, 14, none⟩ = some (.int .u64 (l2 5 : Nat)) := EndAt.cell (unhide Hc) 14 (by omega)
    have c15 : w2.cell? ⟨w.heap.size + 1, 15, none⟩ = some (.int .u64 (l2 6 : Nat)) := EndAt.cell (unhide Hc) 15 (by omega)
    have c16 : w2.cell? ⟨w.heap.size + 1, 16, none⟩ = some (.int .u64 (l2 7 : Nat)) := EndAt.cell (unhide Hc) 16 (by omega)
    have HA := hide ha
    have HF := hide hf
    have hz2 : w.heap.size + 3 ≤ w2.heap.size := by have h1 := hf.size; have h2 := unhide HZ1; omega
    clear ha hf HL HE1 HE2 HE3
    obtain ⟨W3, hW3⟩ : ∃ W3, W3 = w2.alloc (oE false f1 l2) := ⟨_, rfl⟩
    have HG : Hid (EndAt W3 w2.heap.size false f1 l2) := by rw [hW3]; exact end_new w2 _ _ _
    have HX : Hid (EndAt W3 w.heap.size false f1 l1) := by rw [hW3]; exact World.rowIs.alloc (unhide Ha) _
    have HY : Hid (EndAt W3 (w.heap.size + 1) true f2 l2) := by rw [hW3]; exact World.rowIs.alloc (unhide Hc) _
    have HR : Hid (EndAt W3 (w.heap.size + 2) false z8 z8) := by rw [hW3]; exact World.rowIs.alloc (unhide Hd) _
    have HBB : Hid (Below w2.heap.size w2 W3) := by rw [hW3]; exact below1 w2 _
    have x0 : (w2.alloc (.cells #[.bool false, .int .u64 (f1 0 : Nat), .int .u64 (f1 1 : Nat), .int .u64 (f1 2 : Nat), .int .u64 (f1 3 : Nat), .int .u64 (f1 4 : Nat), .int .u64 (f1 5 : Nat), .int .u64 (f1 6 : Nat), .int .u64 (f1 7 : Nat), .int .u64 (l2 0 : Nat), .int .u64 (l2 1 : Nat), .int .u64 (l2 2 : Nat), .int .u64 (l2 3 : Nat), .int .u64 (l2 4 : Nat), .int .u64 (l2 5 : Nat), .int .u64 (l2 6 : Nat), .int .u64 (l2 7 : Nat)] 80)).cell? ⟨w.heap.size, 0, none⟩ = some (.bool false) := by rw [← hW3]; exact EndAt.cell (unhide HX) 0 (by omega)
    have y0 : (w2.alloc (.cells #[.bool false, .int .u64 (f1 0 : Nat), .int .u64 (f1 1 : Nat), .int .u64 (f1 2 : Nat), .int .u64 (f1 3 : Nat), .int .u64 (f1 4 : Nat), .int .u64 (f1 5 : Nat), .int .u64 (f1 6 : Nat), .int .u64 (f1 7 : Nat), .int .u64 (l2 0 : Nat), .int .u64 (l2 1 : Nat), .int .u64 (l2 2 : Nat), .int .u64 (l2 3 : Nat), .int .u64 (l2 4 : Nat), .int .u64 (l2 5 : Nat), .int .u64 (l2 6 : Nat), .int .u64 (l2 7 : Nat)] 80)).cell? ⟨w.heap.size + 1, 0, none⟩ = some (.bool true) := by rw [← hW3]; exact EndAt.cell (unhide HY) 0 (by omega)
    have HW3 := hide hW3
    clear hW3
    go_wp2_with fail
    rw [← unhide HW3]
    clear HW3
    refine (join_ll (unhide HG) (unhide HX) (by omega) (unhide H4) (unhide H2)).mono ?_
    rintro e w5 ⟨rfl, q1, q2⟩
    have HG := hide q1
    have HR := hide (EndAt.on (unhide HR) (q2.block _ (by omega)))
    have HBB := hide ((unhide HBB).trans (q2.below (Nat.le_refl _)))
    clear q1 q2
    go_wp2_with (first | (refine wpList_load_row rfl 80 (.tmp 7) rfl (w2.heap.size) (by first | (simp [Act.eval]; done) | (simp [Act.eval, Act.put]; done)) 80 _ _ _ (EndAt.blk (unhide HG)) Tryd.underlying80 rfl (by kernel_rfl) ?_) | (refine wpList_store_row rfl 80 (.tmp 6) (.tmp 35) rfl (w.heap.size + 1 + 1) #[.bool false, .int .u64 (f1 0 : Nat), .int .u64 (f1 1 : Nat), .int .u64 (f1 2 : Nat), .int .u64 (f1 3 : Nat), .int .u64 (f1 4 : Nat), .int .u64 (f1 5 : Nat), .int .u64 (f1 6 : Nat), .int .u64 (f1 7 : Nat), .int .u64 ((orW l2 l1) 0 : Nat), .int .u64 ((orW l2 l1) 1 : Nat), .int .u64 ((orW l2 l1) 2 : Nat), .int .u64 ((orW l2 l1) 3 : Nat), .int .u64 ((orW l2 l1) 4 : Nat), .int .u64 ((orW l2 l1) 5 : Nat), .int .u64 ((orW l2 l1) 6 : Nat), .int .u64 ((orW l2 l1) 7 : Nat)] (by first | (simp [Act.eval]; done) | (simp [Act.eval, Act.put]; done)) (by first | (simp [Act.eval]; done) | (simp [Act.eval, Act.put]; done)) 80 _ (EndAt.blk (unhide HR)) (by kernel_rfl) rfl (all1 _ _ _) ?_))
    refine bodyPost_ret (end_ret (EndAt.row (unhide HR) _ _ _) rfl _ rfl) rfl ?_
    exact ⟨rfl, unhide HFIN w2 _ _ (unhide HA) (unhide HF) (unhide HBB)⟩
set_option maxHeartbeats 8000000 in
set_option maxRecDepth 100000 in
theorem joinCat_true_false (O : Nat → Prop) (A N : Nat) (S : List (List Int)) (K : List Lk) (f1 l1 f2 l2 : Nat → Nat) (xs ys : List Nat) (w : World) (h : AuAt O A w N S K) (hO : ∀ k, w.heap.size ≤ k → O k) (htz : TzO O w)
    (h1 : Fit f1) (h2 : BitsOf l1 xs) (h3 : BitsOf f2 ys) (h4 : Fit l2) (hx : ∀ x ∈ xs, x < N) (hN : N ≤ 512) :
    Calls Tryd.prog 52 #[.pointer (some ⟨A, 0, none⟩), endV true f1 l1, endV false f2 l2] w fun e w' => e = .returned (endV false (orW f1 f2) l2) ∧ AuAt O A w' N S (K ++ [(xs, ys)]) ∧ FrO O w w' := by
  obtain ⟨W1, hW1⟩ : ∃ W1, W1 = ((w.alloc (oE true f1 l1)).alloc (oE false f2 l2)).alloc oE0 := ⟨_, rfl⟩
  have hz : W1.heap.size = w.heap.size + 3 := by rw [hW1, sz_alloc, sz_alloc, sz_alloc]
  have hb1 : Below w.heap.size w W1 := by
    rw [hW1]
    exact (below2 w _ _).trans ((below1 _ _).mono (by rw [sz_alloc, sz_alloc]; omega))
  have e1 : EndAt W1 w.heap.size true f1 l1 := by
    rw [hW1]
    exact World.rowIs.alloc (World.rowIs.alloc (end_new w true f1 l1) _) _
  have e2 : EndAt W1 (w.heap.size + 1) false f2 l2 := by
    have := end_new (w.alloc (oE true f1 l1)) false f2 l2
    rw [sz_alloc] at this
    rw [hW1]
    exact World.rowIs.alloc this _
  have e3 : EndAt W1 (w.heap.size + 2) false z8 z8 := by
    have := end_new0 ((w.alloc (oE true f1 l1)).alloc (oE false f2 l2))
    rw [sz_alloc, sz_alloc] at this
    rw [hW1]
    exact this
  have hL := link_any (Sk O w.heap.size W1.heap.size) A N S K l1 f2 xs ys W1 (h.skip hb1) (fun k hk => ⟨hO k (by omega), Or.inr hk⟩) ((htz.below hb1).less Sk.sub) h2 h3 hx hN
  have HL := hide hL
  have HE1 := hide e1
  have HE2 := hide e2
  have HE3 := hide e3
  have H1 := hide h1
  have H2 := hide h2.1
  have H3 := hide h3.1
  have H4 := hide h4
  have HO := hide hO
  have HW1 := hide hW1
  have HB1 := hide hb1
  have HZ1 := hide hz
  clear e1 e2 e3 hz hb1 hW1 h1 h2 h3 h4 hL hx hO htz h
  have HFIN : Hid (∀ (w2 wf : World) (cs : Array Value), AuAt (Sk O w.heap.size W1.heap.size) A w2 N S (K ++ [(xs, ys)]) → FrO (Sk O w.heap.size W1.heap.size) W1 w2 → Below w2.heap.size w2 wf → AuAt O A (wf.setRow (w.heap.size + 2) cs) N S (K ++ [(xs, ys)]) ∧ FrO O w (wf.setRow (w.heap.size + 2) cs)) := fun w2 wf cs ha hf hb => by
    have hz := unhide HZ1
    have hs1 := hf.size
    have hs2 := hb.size
    refine ⟨(ha.keep (w' := wf.setRow (w.heap.size + 2) cs) (fun k hk hk2 => ?_)).mono Sk.sub, (fro_of (unhide HB1) (unhide HO)).trans ((hf.mono Sk.sub).trans ⟨hb.os, hb.tape, hb.output, by rw [setRow_size]; exact hb.size, fun k hk => ?_⟩)⟩
    · rw [setRow_other _ _ _ _ (by rcases hk.2 with q | q <;> omega)]
      exact hb.block k hk2
    · have hk2 : k < w.heap.size := by apply Nat.lt_of_not_le; intro e; exact hk (unhide HO k e)
      rw [setRow_other _ _ _ _ (by omega)]
      exact hb.block k (by omega)
  have HNO : Hid (∀ (w2 : World) (k : Nat), FrO (Sk O w.heap.size W1.heap.size) W1 w2 → w.heap.size ≤ k → k < w.heap.size + 3 → w2.heap[k]? = W1.heap[k]?) := fun w2 k hf q1 q2 => hf.block k (fun q => by
    have := unhide HZ1
    rcases q.2 with q | q <;> omega)
  unfold endV
  · go_enter Tryd.func52, Tryd.ntmps52
    go_wp2_with fail
    rw [← unhide HW1]
    clear HW1
    refine (unhide HL).mono ?_
    rintro e w2 ⟨rfl, ha, hf⟩
    have Ha := hide (EndAt.on (unhide HE1) (unhide HNO w2 _ hf (by omega) (by omega)))
    have Hc := hide (EndAt.on (unhide HE2) (unhide HNO w2 _ hf (by omega) (by omega)))
    have Hd := hide (EndAt.on (unhide HE3) (unhide HNO w2 _ hf (by omega) (by omega)))
    have a0 : w2.cell? ⟨w.heap.size, 0, none⟩ = some (.bool true) := EndAt.cell (unhide Ha) 0 (by omega)
    have a1 : w2.cell? ⟨w.heap.size, 1, none⟩ = some (.int .u64 (f1 0 : Nat)) := EndAt.cell (unhide Ha) 1 (by omega)
    have a2 : w2.cell? ⟨w.heap.size, 2, none⟩ = some (.int .u64 (f1 1 : Nat)) := EndAt.cell (unhide Ha) 2 (by omega)
    have a3 : w2.cell? ⟨w.heap.size, 3, none⟩ = some (.int .u64 (f1 2 : Nat)) := EndAt.cell (unhide Ha) 3 (by omega)
    have a4 : w2.cell? ⟨w.heap.size, 4, none⟩ = some (.int .u64 (f1 3 : Nat)) := EndAt.cell (unhide Ha) 4 (by omega)
    have a5 : w2.cell? ⟨w.heap.size, 5, none⟩ = some (.int .u64 (f1 4 : Nat)) := EndAt.cell (unhide Ha) 5 (by omega)
    have a6 : w2.cell? ⟨w.heap.size, 6, none⟩ = some (.int .u64 (f1 5 : Nat)) := EndAt.cell (unhide Ha) 6 (by omega)
    have a7 : w2.cell? ⟨w.heap.size, 7, none⟩ = some (.int .u64 (f1 6 : Nat)) := EndAt.cell (unhide Ha) 7 (by omega)
    have a8 : w2.cell? ⟨w.heap.size, 8, none⟩ = some (.int .u64 (f1 7 : Nat)) := EndAt.cell (unhide Ha) 8 (by omega)
    have c0 : w2.cell? ⟨w.heap.size + 1, 0, none⟩ = some (.bool false) := EndAt.cell (unhide Hc) 0 (by omega)
    have c9 : w2.cell? ⟨w.heap.size + 1, 9, none⟩ = some (.int .u64 (l2 0 : Nat)) := EndAt.cell (unhide Hc) 9 (by omega)
    have c10 : w2.cell? ⟨w.heap.size + 1, 10, none⟩ = some (.int .u64 (l2 1 : Nat)) := EndAt.cell (unhide Hc) 10 (by omega)
    have c11 : w2.cell? ⟨w.heap.size + 1, 11, none⟩ = some (.int .u64 (l2 2 : Nat)) := EndAt.cell (unhide Hc) 11 (by omega)
    have c12 : w2.cell? ⟨w.heap.size + 1, 12, none⟩ = some (.int .u64 (l2 3 : Nat)) := EndAt.cell (unhide Hc) 12 (by omega)
    have c13 : w2.cell? ⟨w.heap.size + 1, 13, none⟩ = some (.int .u64 (l2 4 : Nat)) := EndAt.cell (unhide Hc) 13 (by omega)
    have c14 : w2.cell? ⟨w.heap.size + 1, 14, none⟩ = some (.int .u64 (l2 5 : Nat)) := EndAt.cell (unhide Hc) 14 (by omega)
    have c15 : w2.cell? ⟨w.heap.size + 1, 15, none⟩ = some (.int .u64 (l2 6 : Nat)) := EndAt.cell (unhide Hc) 15 (by omega)
    have c16 : w2.cell? ⟨w.heap.size + 1, 16, none⟩ = some (.int .u64 (l2 7 : Nat)) := EndAt.cell (unhide Hc) 16 (by omega)
    have HA := hide ha
    have HF := hide hf
    have hz2 : w.heap.size + 3 ≤ w2.heap.size := by have h1 := hf.size; have h2 := unhide HZ1; omega
    clear ha hf HL HE1 HE2 HE3
    obtain ⟨W3, hW3⟩ : ∃ W3, W3 = w2.alloc (oE false f1 l2) := ⟨_, rfl⟩
    have HG : Hid (EndAt W3 w2.heap.size false f1 l2) := by rw [hW3]; exact end_new w2 _ _ _
    have HX : Hid (EndAt W3 w.heap.size true f1 l1) := by rw [hW3]; exact World.rowIs.alloc (unhide Ha) _
    have HY : Hid (EndAt W3 (w.heap.size + 1) false f2 l2) := by rw [hW3]; exact World.rowIs.alloc (unhide Hc) _
    have HR : Hid (EndAt W3 (w.heap.size + 2) false z8 z8) := by rw [hW3]; exact World.rowIs.alloc (unhide Hd) _
    have HBB : Hid (Below w2.heap.size w2 W3) := by rw [hW3]; exact below1 w2 _
    have x0 : (w2.alloc (.cells #[.bool false, .int .u64 (f1 0 : Nat), .int .u64 (f1 1 : Nat), .int .u64 (f1 2 : Nat), .int .u64 (f1 3 : Nat), .int .u64 (f1 4 : Nat), .int .u64 (f1 5 : Nat), .int .u64 (f1 6 : Nat), .int .u64 (f1 7 : Nat), .int .u64 (l2 0 : Nat), .int .u64 (l2 1 : Nat), .int .u64 (l2 2 : Nat), .int .u64 (l2 3 : Nat), .int .u64 (l2 4 : Nat), .int .u64 (l2 5 : Nat), .int .u64 (l2 6 : Nat), .int .u64 (l2 7 : Nat)] 80)).cell? ⟨w.heap.size, 0, none⟩ = some (.bool true) := by rw [← hW3]; exact EndAt.cell (unhide HX) 0 (by omega)
    have y0 : (w2.alloc (.cells #[.bool false, .int .u64 (f1 0 : Nat), .int .u64 (f1 1 : Nat), .int .u64 (f1 2 : Nat), .int .u64 (f1 3 : Nat), .int .u64 (f1 4 : Nat), .int .u64 (f1 5 : Nat), .int .u64 (f1 6 : Nat), .int .u64 (f1 7 : Nat), .int .u64 (l2 0 : Nat), .int .u64 (l2 1 : Nat), .int .u64 (l2 2 : Nat), .int .u64 (l2 3 : Nat), .int .u64 (l2 4 : Nat), .int .u64 (l2 5 : Nat), .int .u64 (l2 6 : Nat), .int .u64 (l2 7 : Nat)] 80)).cell? ⟨w.heap.size + 1, 0, none⟩ = some (.bool false) := by rw [← hW3]; exact EndAt.cell (unhide HY) 0 (by omega)
    have HW3 := hide hW3
    clear hW3
    go_wp2_with fail
    rw [← unhide HW3]
    clear HW3
    refine (join_ff (unhide HG) (unhide HY) (by omega) (unhide H1) (unhide H3)).mono ?_
    rintro e w4 ⟨rfl, q1, q2⟩
    have HG := hide q1
    have HX := hide (EndAt.on (unhide HX) (q2.block _ (by omega)))
    have HY := hide (EndAt.on (unhide HY) (q2.block _ (by omega)))
    have HR := hide (EndAt.on (unhide HR) (q2.block _ (by omega)))
    have HBB := hide ((unhide HBB).trans (q2.below (Nat.le_refl _)))
    have y0 : w4.cell? ⟨w.heap.size + 1, 0, none⟩ = some (.bool false) := EndAt.cell (unhide HY) 0 (by omega)
    clear q1 q2
    go_wp2_with (first | (refine wpList_load_row rfl 80 (.tmp 7) rfl (w2.heap.size) (by first | (simp [Act.eval]; done) | (simp [Act.eval, Act.put]; done)) 80 _ _ _ (EndAt.blk (unhide HG)) Tryd.underlying80 rfl (by kernel_rfl) ?_) | (refine wpList_store_row rfl 80 (.tmp 6) (.tmp 35) rfl (w.heap.size + 1 + 1) #[.bool false, .int .u64 ((orW f1 f2) 0 : Nat), .int .u64 ((orW f1 f2) 1 : Nat), .int .u64 ((orW f1 f2) 2 : Nat), .int .u64 ((orW f1 f2) 3 : Nat), .int .u64 ((orW f1 f2) 4 : Nat), .int .u64 ((orW f1 f2) 5 : Nat), .int .u64 ((orW f1 f2) 6 : Nat), .int .u64 ((orW f1 f2) 7 : Nat), .int .u64 (l2 0 : Nat), .int .u64 (l2 1 : Nat), .int .u64 (l2 2 : Nat), .int .u64 (l2 3 : Nat), .int .u64 (l2 4 : Nat), .int .u64 (l2 5 : Nat), .int .u64 (l2 6 : Nat), .int .u64 (l2 7 : Nat)] (by first | (simp [Act.eval]; done) | (simp [Act.eval, Act.put]; done)) (by first | (simp [Act.eval]; done) | (simp [Act.eval, Act.put]; done)) 80 _ (EndAt.blk (unhide HR)) (by kernel_rfl) rfl (all1 _ _ _) ?_))
    refine bodyPost_ret (end_ret (EndAt.row (unhide HR) _ _ _) rfl _ rfl) rfl ?_
    exact ⟨rfl, unhide HFIN w2 _ _ (unhide HA) (unhide HF) (unhide HBB)⟩
set_option maxHeartbeats 8000000 in
set_option maxRecDepth 100000 in
theorem joinCat_true_true (O : Nat → Prop) (A N : Nat) (S : List (List Int)) (K : List Lk) (f1 l1 f2 l2 : Nat → Nat) (xs ys : List Nat) (w : World) (h : AuAt O A w N S K) (hO : ∀ k, w.heap.size ≤ k → O k) (htz : TzO O w)
    (h1 : Fit f1) (h2 : BitsOf l1 xs) (h3 : BitsOf f2 ys) (h4 : Fit l2) (hx : ∀ x ∈ xs, x < N) (hN : N ≤ 512) :
    Calls Tryd.prog 52 #[.pointer (some ⟨A, 0, none⟩), endV true f1 l1, endV true f2 l2] w fun e w' => e = .returned (endV true (orW f1 f2) (orW l2 l1)) ∧ AuAt O A w' N S (K ++ [(xs, ys)]) ∧ FrO O w w' := by
  obtain ⟨W1, hW1⟩ : ∃ W1, W1 = ((w.alloc (oE true f1 l1)).alloc (oE true f2 l2)).alloc oE0 := ⟨_, rfl⟩
  have hz : W1.heap.size = w.heap.size + 3 := by rw [hW1, sz_alloc, sz_alloc, sz_alloc]
  have hb1 : Below w.heap.size w W1 := by
    rw [hW1]
    exact (below2 w _ _).trans ((below1 _ _).mono (by rw [sz_alloc, sz_alloc]; omega))
  have e1 : EndAt W1 w.heap.size true f1 l1 := by
    rw [hW1]
    exact World.rowIs.alloc (World.rowIs.alloc (end_new w true f1 l1) _) _
  have e2 : EndAt W1 (w.heap.size + 1) true f2 l2 := by
    have := end_new (w.alloc (oE true f1 l1)) true f2 l2
    rw [sz_alloc] at this
    rw [hW1]
    exact World.rowIs.alloc this _
  have e3 : EndAt W1 (w.heap.size + 2) false z8 z8 := by
    have := end_new0 ((w.alloc (oE true f1 l1)).alloc (oE true f2 l2))
    rw [sz_alloc, sz_alloc] at this
    rw [hW1]
    exact this
  have hL := link_any (Sk O w.heap.size W1.heap.size) A N S K l1 f2 xs ys W1 (h.skip hb1) (fun k hk => ⟨hO k (by omega), Or.inr hk⟩) ((htz.below hb1).less Sk.sub) h2 h3 hx hN
  have HL := hide hL
  have HE1 := hide e1
  have HE2 := hide e2
  have HE3 := hide e3
  have H1 := hide h1
  have H2 := hide h2.1
  have H3 := hide h3.1
  have H4 := hide h4
  have HO := hide hO
  have HW1 := hide hW1
  have HB1 := hide hb1
  have HZ1 := hide hz
  clear e1 e2 e3 hz hb1 hW1 h1 h2 h3 h4 hL hx hO htz h
  have HFIN : Hid (∀ (w2 wf : World) (cs : Array Value), AuAt (Sk O w.heap.size W1.heap.size) A w2 N S (K ++ [(xs, ys)]) → FrO (Sk O w.heap.size W1.heap.size) W1 w2 → Below w2.heap.size w2 wf → AuAt O A (wf.setRow (w.heap.size + 2) cs) N S (K ++ [(xs, ys)]) ∧ FrO O w (wf.setRow (w.heap.size + 2) cs)) := fun w2 wf cs ha hf hb => by
    have hz := unhide HZ1
    have hs1 := hf.size
    have hs2 := hb.size
    refine ⟨(ha.keep (w' := wf.setRow (w.heap.size + 2) cs) (fun k hk hk2 => ?_)).mono Sk.sub, (fro_of (unhide HB1) (unhide HO)).trans ((hf.mono Sk.sub).trans ⟨hb.os, hb.tape, hb.output, by rw [setRow_size]; exact hb.size, fun k hk => ?_⟩)⟩
    · rw [setRow_other _ _ _ _ (by rcases hk.2 with q | q <;> omega)]
      exact hb.block k hk2
    · have hk2 : k < w.heap.size := by apply Nat.lt_of_not_le; intro e; exact hk (unhide HO k e)
      rw [setRow_other _ _ _ _ (by omega)]
      exact hb.block k (by omega)
  have HNO : Hid (∀ (w2 : World) (k : Nat), FrO (Sk O w.heap.size W1.heap.size) W1 w2 → w.heap.size ≤ k → k < w.heap.size + 3 → w2.heap[k]? = W1.heap[k]?) := fun w2 k hf q1 q2 => hf.block k (fun q => by
    have := unhide HZ1
    rcases q.2 with q | q <;> omega)
  unfold endV
  · go_enter Tryd.func52, Tryd.ntmps52
    go_wp2_with fail
    rw [← unhide HW1]
    clear HW1
    refine (unhide HL).mono ?_
    rintro e w2 ⟨rfl, ha, hf⟩
    have Ha := hide (EndAt.on (unhide HE1) (unhide HNO w2 _ hf (by omega) (by omega)))
    have Hc := hide (EndAt.on (unhide HE2) (unhide HNO w2 _ hf (by omega) (by omega)))
    have Hd := hide (EndAt.on (unhide HE3) (unhide HNO w2 _ hf (by omega) (by omega)))
    have a0 : w2.cell? ⟨w.heap.size, 0, none⟩ = some (.bool true) := EndAt.cell (unhide Ha) 0 (by omega)
    have a1 : w2.cell? ⟨w.heap.size, 1, none⟩ = some (.int .u64 (f1 0 : Nat)) := EndAt.cell (unhide Ha) 1 (by omega)
    have a2 : w2.cell? ⟨w.heap.size, 2, none⟩ = some (.int .u64 (f1 1 : Nat)) := EndAt.cell (unhide Ha) 2 (by omega)
    have a3 : w2.cell? ⟨w.heap.size, 3, none⟩ = some (.int .u64 (f1 2 : Nat)) := EndAt.cell (unhide Ha) 3 (by omega)
    have a4 : w2.cell? ⟨w.heap.size, 4, none⟩ = some (.int .u64 (f1 3 : Nat)) := EndAt.cell (unhide Ha) 4 (by omega)
    have a5 : w2.cell? ⟨w.heap.size, 5, none⟩ = some (.int .u64 (f1 4 : Nat)) := EndAt.cell (unhide Ha) 5 (by omega)
    have a6 : w2.cell? ⟨w.heap.size, 6, none⟩ = some (.int .u64 (f1 5 : Nat)) := EndAt.cell (unhide Ha) 6 (by omega)
    have a7 : w2.cell? ⟨w.heap.size, 7, none⟩ = some (.int .u64 (f1 6 : Nat)) := EndAt.cell (unhide Ha) 7 (by omega)
    have a8 : w2.cell? ⟨w.heap.size, 8, none⟩ = some (.int .u64 (f1 7 : Nat)) := EndAt.cell (unhide Ha) 8 (by omega)
    have c0 : w2.cell? ⟨w.heap.size + 1, 0, none⟩ = some (.bool true) := EndAt.cell (unhide Hc) 0 (by omega)
    have c9 : w2.cell? ⟨w.heap.size + 1, 9, none⟩ = some (.int .u64 (l2 0 : Nat)) := EndAt.cell (unhide Hc) 9 (by omega)
    have c10 : w2.cell? ⟨w.heap.size + 1, 10, none⟩ = some (.int .u64 (l2 1 : Nat)) := EndAt.cell (unhide Hc) 10 (by omega)
    have c11 : w2.cell? ⟨w.heap.size + 1, 11, none⟩ = some (.int .u64 (l2 2 : Nat)) := EndAt.cell (unhide Hc) 11 (by omega)
    have c12 : w2.cell? ⟨w.heap.size + 1, 12, none⟩ = some (.int .u64 (l2 3 : Nat)) := EndAt.cell (unhide Hc) 12 (by omega)
    have c13 : w2.cell? ⟨w.heap.size + 1, 13, none⟩ = some (.int .u64 (l2 4 : Nat)) := EndAt.cell (unhide Hc) 13 (by omega)
    have c14 : w2.cell? ⟨w.heap.size + 1, 14, none⟩ = some (.int .u64 (l2 5 : Nat)) := EndAt.cell (unhide Hc) 14 (by omega)
    have c15 : w2.cell? ⟨w.heap.size + 1, 15, none⟩ = some (.int .u64 (l2 6 : Nat)) := EndAt.cell (unhide Hc) 15 (by omega)
    have c16 : w2.cell? ⟨w.heap.size + 1, 16, none⟩ = some (.int .u64 (l2 7 : Nat)) := EndAt.cell (unhide Hc) 16 (by omega)
    have HA := hide ha
    have HF := hide hf
    have hz2 : w.heap.size + 3 ≤ w2.heap.size := by have h1 := hf.size; have h2 := unhide HZ1; omega
    clear ha hf HL HE1 HE2 HE3
    obtain ⟨W3, hW3⟩ : ∃ W3, W3 = w2.alloc (oE true f1 l2) := ⟨_, rfl⟩
    have HG : Hid (EndAt W3 w2.heap.size true f1 l2) := by rw [hW3]; exact end_new w2 _ _ _
    have HX : Hid (EndAt W3 w.heap.size true f1 l1) := by rw [hW3]; exact World.rowIs.alloc (unhide Ha) _
    have HY : Hid (EndAt W3 (w.heap.size + 1) true f2 l2) := by rw [hW3]; exact World.rowIs.alloc (unhide Hc) _
    have HR : Hid (EndAt W3 (w.heap.size + 2) false z8 z8) := by rw [hW3]; exact World.rowIs.alloc (unhide Hd) _
    have HBB : Hid (Below w2.heap.size w2 W3) := by rw [hW3]; exact below1 w2 _
    have x0 : (w2.alloc (.cells #[.bool true, .int .u64 (f1 0 : Nat), .int .u64 (f1 1 : Nat), .int .u64 (f1 2 : Nat), .int .u64 (f1 3 : Nat), .int .u64 (f1 4 : Nat), .int .u64 (f1 5 : Nat), .int .u64 (f1 6 : Nat), .int .u64 (f1 7 : Nat), .int .u64 (l2 0 : Nat), .int .u64 (l2 1 : Nat), .int .u64 (l2 2 : Nat), .int .u64 (l2 3 : Nat), .int .u64 (l2 4 : Nat), .int .u64 (l2 5 : Nat), .int .u64 (l2 6 : Nat), .int .u64 (l2 7 : Nat)] 80)).cell? ⟨w.heap.size, 0, none⟩ = some (.bool true) := by rw [← hW3]; exact EndAt.cell (unhide HX) 0 (by omega)
    have y0 : (w2.alloc (.cells #[.bool true, .int .u64 (f1 0 : Nat), .int .u64 (f1 1 : Nat), .int .u64 (f1 2 : Nat), .int .u64 (f1 3 : Nat), .int .u64 (f1 4 : Nat), .int .u64 (f1 5 : Nat), .int .u64 (f1 6 : Nat), .int .u64 (f1 7 : Nat), .int .u64 (l2 0 : Nat), .int .u64 (l2 1 : Nat), .int .u64 (l2 2 : Nat), .int .u64 (l2 3 : Nat), .int .u64 (l2 4 : Nat), .int .u64 (l2 5 : Nat), .int .u64 (l2 6 : Nat), .int .u64 (l2 7 : Nat)] 80)).cell? ⟨w.heap.size + 1, 0, none⟩ = some (.bool true) := by rw [← hW3]; exact EndAt.cell (unhide HY) 0 (by omega)
    have HW3 := hide hW3
    clear hW3
    go_wp2_with fail
    rw [← unhide HW3]
    clear HW3
    refine (join_ff (unhide HG) (unhide HY) (by omega) (unhide H1) (unhide H3)).mono ?_
    rintro e w4 ⟨rfl, q1, q2⟩
    have HG := hide q1
    have HX := hide (EndAt.on (unhide HX) (q2.block _ (by omega)))
    have HY := hide (EndAt.on (unhide HY) (q2.block _ (by omega)))
    have HR := hide (EndAt.on (unhide HR) (q2.block _ (by omega)))
    have HBB := hide ((unhide HBB).trans (q2.below (Nat.le_refl _)))
    have y0 : w4.cell? ⟨w.heap.size + 1, 0, none⟩ = some (.bool true) := EndAt.cell (unhide HY) 0 (by omega)
    clear q1 q2
    go_wp2_with fail
    refine (join_ll (unhide HG) (unhide HX) (by omega) (unhide H4) (unhide H2)).mono ?_
    rintro e w5 ⟨rfl, q1, q2⟩
    have HG := hide q1
    have HR := hide (EndAt.on (unhide HR) (q2.block _ (by omega)))
    have HBB := hide ((unhide HBB).trans (q2.below (Nat.le_refl _)))
    clear q1 q2
    go_wp2_with (first | (refine wpList_load_row rfl 80 (.tmp 7) rfl (w2.heap.size) (by first | (simp [Act.eval]; done) | (simp [Act.eval, Act.put]; done)) 80 _ _ _ (EndAt.blk (unhide HG)) Tryd.underlying80 rfl (by kernel_rfl) ?_) | (refine wpList_store_row rfl 80 (.tmp 6) (.tmp 35) rfl (w.heap.size + 1 + 1) #[.bool true, .int .u64 ((orW f1 f2) 0 : Nat), .int .u64 ((orW f1 f2) 1 : Nat), .int .u64 ((orW f1 f2) 2 : Nat), .int .u64 ((orW f1 f2) 3 : Nat), .int .u64 ((orW f1 f2) 4 : Nat), .int .u64 ((orW f1 f2) 5 : Nat), .int .u64 ((orW f1 f2) 6 : Nat), .int .u64 ((orW f1 f2) 7 : Nat), .int .u64 ((orW l2 l1) 0 : Nat), .int .u64 ((orW l2 l1) 1 : Nat), .int .u64 ((orW l2 l1) 2 : Nat), .int .u64 ((orW l2 l1) 3 : Nat), .int .u64 ((orW l2 l1) 4 : Nat), .int .u64 ((orW l2 l1) 5 : Nat), .int .u64 ((orW l2 l1) 6 : Nat), .int .u64 ((orW l2 l1) 7 : Nat)] (by first | (simp [Act.eval]; done) | (simp [Act.eval, Act.put]; done)) (by first | (simp [Act.eval]; done) | (simp [Act.eval, Act.put]; done)) 80 _ (EndAt.blk (unhide HR)) (by kernel_rfl) rfl (all1 _ _ _) ?_))
    refine bodyPost_ret (end_ret (EndAt.row (unhide HR) _ _ _) rfl _ rfl) rfl ?_
    exact ⟨rfl, unhide HFIN w2 _ _ (unhide HA) (unhide HF) (unhide HBB)⟩
theorem joinCat_any (O : Nat → Prop) (A N : Nat) (S : List (List Int)) (K : List Lk) (b1 b2 : Bool) (f1 l1 f2 l2 : Nat → Nat) (xs ys : List Nat) (w : World) (h : AuAt O A w N S K) (hO : ∀ k, w.heap.size ≤ k → O k) (htz : TzO O w)
    (h1 : Fit f1) (h2 : BitsOf l1 xs) (h3 : BitsOf f2 ys) (h4 : Fit l2) (hx : ∀ x ∈ xs, x < N) (hN : N ≤ 512) :
    Calls Tryd.prog 52 #[.pointer (some ⟨A, 0, none⟩), endV b1 f1 l1, endV b2 f2 l2] w fun e w' => e = .returned (endV (b1 && b2) (if b1 then orW f1 f2 else f1) (if b2 then orW l2 l1 else l2)) ∧ AuAt O A w' N S (K ++ [(xs, ys)]) ∧ FrO O w w' := by
  cases b1 <;> cases b2
  · exact joinCat_false_false O A N S K f1 l1 f2 l2 xs ys w h hO htz h1 h2 h3 h4 hx hN
  · exact joinCat_false_true O A N S K f1 l1 f2 l2 xs ys w h hO htz h1 h2 h3 h4 hx hN
  · exact joinCat_true_false O A N S K f1 l1 f2 l2 xs ys w h hO htz h1 h2 h3 h4 hx hN
  · exact joinCat_true_true O A N S K f1 l1 f2 l2 xs ys w h hO htz h1 h2 h3 h4 hx hN

end Go.Proofs.YtfdkdjngeomcdaaDoor

namespace Go.Proofs.YtfdkdjngeomcdaaDoor
open Go.RowKit

set_option maxHeartbeats 16000000 in
set_option maxRecDepth 100000 in
theorem AddV.cat {u v : Value} {n m : Nat} {a b : It} {la lb : List Lk} {sa sb : List (List Int)} (hu : AddV u n a la sa) (hv : AddV v m b lb sb) (hbd : Bdd a n) : AddV (cV u v) (n + m) (itCat a (b.sh n)) (la ++ shL n lb ++ [(a.la, (b.sh n).fi)]) (sa ++ sb) := by
  obtain ⟨⟨T, x, rfl⟩, hu⟩ := hu
  obtain ⟨⟨T', x', rfl⟩, hv⟩ := hv
  refine ⟨⟨_, _, rfl⟩, fun O A w N S K h hO htz hN => ?_⟩
  obtain ⟨W1, hW1⟩ : ∃ W1, W1 = (w.alloc oE0).alloc (.cells #[.iface T x, .iface T' x'] 71) := ⟨_, rfl⟩
  have hz : W1.heap.size = w.heap.size + 2 := by rw [hW1, sz_alloc, sz_alloc]
  have hb1 : Below w.heap.size w W1 := by
    rw [hW1]
    exact below2 w _ _
  have e1 : EndAt W1 w.heap.size false z8 z8 := by
    rw [hW1]
    exact World.rowIs.alloc (end_new0 w) _
  have k1 : W1.cell? ⟨w.heap.size + 1, 1, none⟩ = some (.iface T' x') := by
    have := (pushd_alloc (w.alloc oE0) (.cells #[.iface T x, .iface T' x'] 71)).news 1 _ rfl
    rw [sz_alloc] at this
    rw [hW1]
    exact this
  have hA := hu (Sk O w.heap.size W1.heap.size) A W1 N S K (h.skip hb1) (fun k hk => ⟨hO k (by omega), Or.inr hk⟩) ((htz.below hb1).less Sk.sub) (by omega)
  have HA := hide hA
  have HV := hide hv
  have HE := hide e1
  have HK := hide k1
  have HO := hide hO
  have HB := hide hb1
  have HZ := hide hz
  have HTZ := hide ((htz.below hb1).less (O' := (Sk O w.heap.size W1.heap.size)) Sk.sub)
  have HBD := hide hbd
  have HW1 := hide hW1
  clear hA e1 k1 hb1 hz hW1 h hO htz hu hbd hv
  unfold cV
  have t1 := tp_cs
  have t2 := tp_cc
  go_enter Tryd.func31, Tryd.ntmps31
  go_wp2_with fail
  rw [← unhide HW1]
  clear HW1
  refine (unhide HA).mono ?_
  rintro e w2 ⟨f1, l1, rfl, hf1, hl1, ha, hfr⟩
  obtain ⟨W3, hW3⟩ : ∃ W3, W3 = w2.alloc (oE a.nl f1 l1) := ⟨_, rfl⟩
  have hz1 := unhide HZ
  have hz2 := hfr.size
  have hz3 : W3.heap.size = w2.heap.size + 1 := by rw [hW3, sz_alloc]
  have hb3 : Below w2.heap.size w2 W3 := by rw [hW3]; exact below1 w2 _
  have hb3d : Below w2.heap.size w2 W3.drew := hb3.drew
  have hO2 : ∀ k, w2.heap.size ≤ k → (Sk O w.heap.size W1.heap.size) k := fun k hk => ⟨unhide HO k (by omega), Or.inr (by omega)⟩
  have ha3 := (ha.skip hb3).keep (w' := W3.drew) (fun k _ _ => rfl)
  have htz3 : TzO (Sk (Sk O w.heap.size W1.heap.size) w2.heap.size W3.heap.size) W3.drew := (((unhide HTZ).fr hfr).below hb3d).less Sk.sub
  have hV := unhide HV (Sk (Sk O w.heap.size W1.heap.size) w2.heap.size W3.heap.size) A W3.drew (N + n) (S ++ sa) (K ++ shL N la) ha3 (fun k hk => ⟨hO2 k (by have : W3.heap.size ≤ k := hk; omega), Or.inr hk⟩) htz3 (by omega)
  have HNO : Hid (∀ (w4 : World) (k : Nat), FrO (Sk (Sk O w.heap.size W1.heap.size) w2.heap.size W3.heap.size) W3.drew w4 → w.heap.size ≤ k → k < w.heap.size + 2 → w4.heap[k]? = W1.heap[k]?) := fun w4 k h4 q1 q2 => by
    have n1 : ¬ (Sk O w.heap.size W1.heap.size) k := fun q => by rcases q.2 with q | q <;> omega
    exact ((h4.block k (fun q => n1 q.1)).trans (hb3.block k (by omega))).trans (hfr.block k n1)
  have HNG : Hid (∀ (w4 : World), FrO (Sk (Sk O w.heap.size W1.heap.size) w2.heap.size W3.heap.size) W3.drew w4 → w4.heap[w2.heap.size]? = W3.heap[w2.heap.size]?) := fun w4 h4 => h4.block _ (fun q => by rcases q.2 with q | q <;> omega)
  have HFIN : Hid (∀ (w4 wf : World), AuAt (Sk (Sk O w.heap.size W1.heap.size) w2.heap.size W3.heap.size) A w4 (N + n + m) (S ++ sa ++ sb) ((K ++ shL N la ++ shL (N + n) lb) ++ [((a.sh N).la, (b.sh (N + n)).fi)]) → FrO (Sk (Sk O w.heap.size W1.heap.size) w2.heap.size W3.heap.size) W3.drew w4 → Obk w.heap.size w4 wf →
      AuAt O A wf (N + (n + m)) (S ++ (sa ++ sb)) (K ++ shL N (la ++ shL n lb ++ [(a.la, (b.sh n).fi)])) ∧ FrO O w wf) := fun w4 wf a4 f4 hob => by
    refine ⟨?_, (fro_of (unhide HB) (unhide HO)).trans ((hfr.mono Sk.sub).trans ((fro_of hb3d (fun k hk => unhide HO k (by omega))).trans (((f4.mono Sk.sub).mono Sk.sub).trans (hob.fro (unhide HO _ (Nat.le_refl _))))))⟩
    have := ((a4.keep (w' := wf) (fun k hk _ => hob.block k (fun e => by rcases hk.1.2 with q | q <;> omega))).mono Sk.sub).mono Sk.sub
    have e : K ++ shL N (la ++ shL n lb ++ [(a.la, (b.sh n).fi)]) = ((K ++ shL N la ++ shL (N + n) lb) ++ [((a.sh N).la, (b.sh (N + n)).fi)]) := by simp only [shL_app, shL_sh, List.append_assoc]; simp [shL, It.sh, Nat.add_assoc]
    rw [e, ← Nat.add_assoc, ← List.append_assoc]
    exact this
  have HEG : Hid (EndAt W3 w2.heap.size a.nl f1 l1) := by rw [hW3]; exact end_new w2 _ _ _
  have k2 := cell_keep (unhide HK) (hfr.block _ (fun q => by rcases q.2 with q | q <;> omega))
  have k3 : W3.cell? ⟨w.heap.size + 1, 1, none⟩ = some (.iface T' x') := cell_keep k2 (hb3.block _ (by omega))
  have HVV := hide hV
  have HF1 := hide hf1
  have HL1 := hide hl1
  have HTZ3 := hide htz3
  have HW3 := hide hW3
  have hz22 : w.heap.size + 2 ≤ w2.heap.size := by omega
  have HO3 : Hid (∀ (w4 : World), FrO (Sk (Sk O w.heap.size W1.heap.size) w2.heap.size W3.heap.size) W3.drew w4 → ∀ k, w4.heap.size ≤ k → (Sk (Sk O w.heap.size W1.heap.size) w2.heap.size W3.heap.size) k) := fun w4 h4 k hk => by
    have h5 : W3.heap.size ≤ w4.heap.size := h4.size
    exact ⟨hO2 k (by omega), Or.inr (by omega)⟩
  have HJJ : Hid (∀ (w4 : World) (f2 l2 : Nat → Nat), BitsOf f2 (b.sh (N + n)).fi → BitsOf l2 (b.sh (N + n)).la → AuAt (Sk (Sk O w.heap.size W1.heap.size) w2.heap.size W3.heap.size) A w4 (N + n + m) (S ++ sa ++ sb) (K ++ shL N la ++ shL (N + n) lb) → FrO (Sk (Sk O w.heap.size W1.heap.size) w2.heap.size W3.heap.size) W3.drew w4 →
      Calls Tryd.prog 52 #[.pointer (some ⟨A, 0, none⟩), .agg #[.bool a.nl, .int .u64 (f1 0 : Nat), .int .u64 (f1 1 : Nat), .int .u64 (f1 2 : Nat), .int .u64 (f1 3 : Nat), .int .u64 (f1 4 : Nat), .int .u64 (f1 5 : Nat), .int .u64 (f1 6 : Nat), .int .u64 (f1 7 : Nat), .int .u64 (l1 0 : Nat), .int .u64 (l1 1 : Nat), .int .u64 (l1 2 : Nat), .int .u64 (l1 3 : Nat), .int .u64 (l1 4 : Nat), .int .u64 (l1 5 : Nat), .int .u64 (l1 6 : Nat), .int .u64 (l1 7 : Nat)], .agg #[.bool b.nl, .int .u64 (f2 0 : Nat), .int .u64 (f2 1 : Nat), .int .u64 (f2 2 : Nat), .int .u64 (f2 3 : Nat), .int .u64 (f2 4 : Nat), .int .u64 (f2 5 : Nat), .int .u64 (f2 6 : Nat), .int .u64 (f2 7 : Nat), .int .u64 (l2 0 : Nat), .int .u64 (l2 1 : Nat), .int .u64 (l2 2 : Nat), .int .u64 (l2 3 : Nat), .int .u64 (l2 4 : Nat), .int .u64 (l2 5 : Nat), .int .u64 (l2 6 : Nat), .int .u64 (l2 7 : Nat)]] w4 fun e w' => ∃ B F L, e = .returned (.agg #[.bool B, .int .u64 (F 0 : Nat), .int .u64 (F 1 : Nat), .int .u64 (F 2 : Nat), .int .u64 (F 3 : Nat), .int .u64 (F 4 : Nat), .int .u64 (F 5 : Nat), .int .u64 (F 6 : Nat), .int .u64 (F 7 : Nat), .int .u64 (L 0 : Nat), .int .u64 (L 1 : Nat), .int .u64 (L 2 : Nat), .int .u64 (L 3 : Nat), .int .u64 (L 4 : Nat), .int .u64 (L 5 : Nat), .int .u64 (L 6 : Nat), .int .u64 (L 7 : Nat)]) ∧ B = (itCat a (b.sh n)).nl ∧ BitsOf F ((itCat a (b.sh n)).sh N).fi ∧ BitsOf L ((itCat a (b.sh n)).sh N).la ∧ AuAt (Sk (Sk O w.heap.size W1.heap.size) w2.heap.size W3.heap.size) A w' (N + n + m) (S ++ sa ++ sb) ((K ++ shL N la ++ shL (N + n) lb) ++ [((a.sh N).la, (b.sh (N + n)).fi)]) ∧ FrO (Sk (Sk O w.heap.size W1.heap.size) w2.heap.size W3.heap.size) W3.drew w') := fun w4 f2 l2 hf2 hl2 ha4 hfr4 => by
    refine (joinCat_any (Sk (Sk O w.heap.size W1.heap.size) w2.heap.size W3.heap.size) A (N + n + m) (S ++ sa ++ sb) (K ++ shL N la ++ shL (N + n) lb) a.nl b.nl f1 l1 f2 l2 _ _ w4 ha4 (unhide HO3 w4 hfr4) ((unhide HTZ3).fr hfr4) hf1.1 hl1 hf2 hl2.1 (fun y hy => Nat.lt_of_lt_of_le (((unhide HBD).sh N).2 y hy) (Nat.le_add_right _ _)) (by omega)).mono ?_
    rintro e w' ⟨rfl, ha5, hfr5⟩
    refine ⟨_, _, _, rfl, rfl, ?_, ?_, ha5, hfr4.trans hfr5⟩
    · rw [cat_sh, It.sh_sh]
      show BitsOf _ ((a.sh N).fi ++ (if a.nl then (b.sh (N + n)).fi else []))
      cases a.nl
      · rw [if_neg (by simp), if_neg (by simp), List.append_nil]; exact hf1
      · rw [if_pos rfl, if_pos rfl]; exact bits_app hf1 hf2
    · rw [cat_sh, It.sh_sh]
      show BitsOf _ ((if b.nl then (a.sh N).la else []) ++ (b.sh (N + n)).la)
      cases b.nl
      · rw [if_neg (by simp), if_neg (by simp), List.nil_append]; exact hl2
      · rw [if_pos rfl, if_pos rfl]; exact bits_swap (bits_app hl2 hl1)
  clear hV hf1 hl1 ha hfr hW3 hb3 hO2 hz1 hz2 hz3 hb3d ha3 htz3 HA HB HTZ HV HZ
  unfold endV
  go_wp2_with fail
  rw [← unhide HW3]
  clear HW3 k2
  refine wp_region_any (by kernel_rfl) ?_
  change wpAny _ _ _ _ _ _ _ (World.drew _)
  refine wpAny_take (i := 0) (v := .pointer (some ⟨A, 0, none⟩)) rfl (by kernel_rfl) (by kernel_rfl) (by kernel_rfl) (fun _ _ _ h => h) (Or.inl ⟨by rfl, by intro w; go_simp⟩) ?_
  refine wpAny_take (i := 2) (v := .pointer (some ⟨A, 0, none⟩)) rfl (by kernel_rfl) (by kernel_rfl) (by kernel_rfl) (fun _ _ _ h => h) (Or.inl ⟨by rfl, by intro w; go_simp⟩) ?_
  refine wpAny_take (i := 3) (v := .pointer (some ⟨w.heap.size + 1, 1, none⟩)) rfl (by kernel_rfl) (by kernel_rfl) (by kernel_rfl) (fun _ _ _ h => h) (Or.inl ⟨by rfl, by intro w; go_simp⟩) ?_
  refine wpAny_ready (rs := [1, 4]) (by kernel_rfl) (by simp) ?_
  refine AllReady.cons rfl (fun K hK => ?_) ?_
  ·
    refine step_load_end rfl (.tmp 7) rfl w2.heap.size (by first | (simp [Act.eval]; done) | (simp [Act.eval, Act.put]; done)) (EndAt.blk (unhide HEG)) ?_
    try go_simp
    refine hK _ _ ?_
    clear hK K
    refine wpAny_ready (rs := [4]) (by kernel_rfl) (by simp) ?_
    refine AllReady.cons rfl (fun K hK => ?_) AllReady.nil
    go_simp
    refine hK _ _ ?_
    clear hK K
    refine wpAny_ready (rs := [5]) (by kernel_rfl) (by simp) ?_
    refine AllReady.cons rfl (fun K hK => ?_) AllReady.nil
    go_simp
    refine (unhide HVV).mono ?_
    rintro e w4 ⟨f2, l2, rfl, hf2, hl2, ha4, hfr4⟩
    have HJ := hide (unhide HJJ w4 f2 l2 hf2 hl2 ha4 hfr4)
    have HEG4 := hide (EndAt.on (unhide HEG) (unhide HNG w4 hfr4))
    clear hf2 hl2 ha4 hfr4
    unfold endV
    refine hK _ _ ?_
    clear hK K
    refine wpAny_ready (rs := [6]) (by kernel_rfl) (by simp) ?_
    refine AllReady.cons rfl (fun K hK => ?_) AllReady.nil
    go_simp
    refine (unhide HJ).mono ?_
    rintro e w5 ⟨B, F, L, rfl, hB, hF, hL, ha5, hfr5⟩
    have HE5 := hide (EndAt.on (unhide HE) (unhide HNO w5 _ hfr5 (by omega) (by omega)))
    have HR := hide (And.intro hB (And.intro hF (And.intro hL (And.intro ha5 hfr5))))
    clear hB hF hL ha5 hfr5
    refine hK _ _ ?_
    clear hK K
    refine wpAny_ready (rs := [7]) (by kernel_rfl) (by simp) ?_
    refine AllReady.cons rfl (fun K hK => ?_) AllReady.nil
    refine step_store_row rfl 80 (.tmp 4) (.tmp 33) rfl w.heap.size #[.bool B, .int .u64 (F 0 : Nat), .int .u64 (F 1 : Nat), .int .u64 (F 2 : Nat), .int .u64 (F 3 : Nat), .int .u64 (F 4 : Nat), .int .u64 (F 5 : Nat), .int .u64 (F 6 : Nat), .int .u64 (F 7 : Nat), .int .u64 (L 0 : Nat), .int .u64 (L 1 : Nat), .int .u64 (L 2 : Nat), .int .u64 (L 3 : Nat), .int .u64 (L 4 : Nat), .int .u64 (L 5 : Nat), .int .u64 (L 6 : Nat), .int .u64 (L 7 : Nat)] (by first | (simp [Act.eval]; done) | (simp [Act.eval, Act.put]; done)) (by first | (simp [Act.eval]; done) | (simp [Act.eval, Act.put]; done)) 80 _ (EndAt.blk (unhide HE5)) (by kernel_rfl) rfl (all1 _ _ _) ?_
    refine hK _ _ ?_
    clear hK K
    refine wpAny_done (by kernel_rfl) ?_ _
    go_wp2
    refine bodyPost_ret (end_ret (EndAt.row (unhide HE5) B F L) rfl _ rfl) rfl ?_
    obtain ⟨hB, hF, hL, ha5, hfr5⟩ := unhide HR
    have hfin := unhide HFIN w5 (w5.setRow w.heap.size #[.bool B, .int .u64 (F 0 : Nat), .int .u64 (F 1 : Nat), .int .u64 (F 2 : Nat), .int .u64 (F 3 : Nat), .int .u64 (F 4 : Nat), .int .u64 (F 5 : Nat), .int .u64 (F 6 : Nat), .int .u64 (F 7 : Nat), .int .u64 (L 0 : Nat), .int .u64 (L 1 : Nat), .int .u64 (L 2 : Nat), .int .u64 (L 3 : Nat), .int .u64 (L 4 : Nat), .int .u64 (L 5 : Nat), .int .u64 (L 6 : Nat), .int .u64 (L 7 : Nat)]) ha5 hfr5 (row_obk _ _ _)
    exact ⟨F, L, by rw [hB], hF, hL, hfin.1, hfin.2⟩
  refine AllReady.cons rfl (fun K hK => ?_) AllReady.nil
  go_simp
  refine hK _ _ ?_
  clear hK K
  refine wpAny_ready (rs := [1, 5]) (by kernel_rfl) (by simp) ?_
  refine AllReady.cons rfl (fun K hK => ?_) ?_
  ·
    refine step_load_end rfl (.tmp 7) rfl w2.heap.size (by first | (simp [Act.eval]; done) | (simp [Act.eval, Act.put]; done)) (EndAt.blk (unhide HEG)) ?_
    try go_simp
    refine hK _ _ ?_
    clear hK K
    refine wpAny_ready (rs := [5]) (by kernel_rfl) (by simp) ?_
    refine AllReady.cons rfl (fun K hK => ?_) AllReady.nil
    go_simp
    refine (unhide HVV).mono ?_
    rintro e w4 ⟨f2, l2, rfl, hf2, hl2, ha4, hfr4⟩
    have HJ := hide (unhide HJJ w4 f2 l2 hf2 hl2 ha4 hfr4)
    have HEG4 := hide (EndAt.on (unhide HEG) (unhide HNG w4 hfr4))
    clear hf2 hl2 ha4 hfr4
    unfold endV
    refine hK _ _ ?_
    clear hK K
    refine wpAny_ready (rs := [6]) (by kernel_rfl) (by simp) ?_
    refine AllReady.cons rfl (fun K hK => ?_) AllReady.nil
    go_simp
    refine (unhide HJ).mono ?_
    rintro e w5 ⟨B, F, L, rfl, hB, hF, hL, ha5, hfr5⟩
    have HE5 := hide (EndAt.on (unhide HE) (unhide HNO w5 _ hfr5 (by omega) (by omega)))
    have HR := hide (And.intro hB (And.intro hF (And.intro hL (And.intro ha5 hfr5))))
    clear hB hF hL ha5 hfr5
    refine hK _ _ ?_
    clear hK K
    refine wpAny_ready (rs := [7]) (by kernel_rfl) (by simp) ?_
    refine AllReady.cons rfl (fun K hK => ?_) AllReady.nil
    refine step_store_row rfl 80 (.tmp 4) (.tmp 33) rfl w.heap.size #[.bool B, .int .u64 (F 0 : Nat), .int .u64 (F 1 : Nat), .int .u64 (F 2 : Nat), .int .u64 (F 3 : Nat), .int .u64 (F 4 : Nat), .int .u64 (F 5 : Nat), .int .u64 (F 6 : Nat), .int .u64 (F 7 : Nat), .int .u64 (L 0 : Nat), .int .u64 (L 1 : Nat), .int .u64 (L 2 : Nat), .int .u64 (L 3 : Nat), .int .u64 (L 4 : Nat), .int .u64 (L 5 : Nat), .int .u64 (L 6 : Nat), .int .u64 (L 7 : Nat)] (by first | (simp [Act.eval]; done) | (simp [Act.eval, Act.put]; done)) (by first | (simp [Act.eval]; done) | (simp [Act.eval, Act.put]; done)) 80 _ (EndAt.blk (unhide HE5)) (by kernel_rfl) rfl (all1 _ _ _) ?_
    refine hK _ _ ?_
    clear hK K
    refine wpAny_done (by kernel_rfl) ?_ _
    go_wp2
    refine bodyPost_ret (end_ret (EndAt.row (unhide HE5) B F L) rfl _ rfl) rfl ?_
    obtain ⟨hB, hF, hL, ha5, hfr5⟩ := unhide HR
    have hfin := unhide HFIN w5 (w5.setRow w.heap.size #[.bool B, .int .u64 (F 0 : Nat), .int .u64 (F 1 : Nat), .int .u64 (F 2 : Nat), .int .u64 (F 3 : Nat), .int .u64 (F 4 : Nat), .int .u64 (F 5 : Nat), .int .u64 (F 6 : Nat), .int .u64 (F 7 : Nat), .int .u64 (L 0 : Nat), .int .u64 (L 1 : Nat), .int .u64 (L 2 : Nat), .int .u64 (L 3 : Nat), .int .u64 (L 4 : Nat), .int .u64 (L 5 : Nat), .int .u64 (L 6 : Nat), .int .u64 (L 7 : Nat)]) ha5 hfr5 (row_obk _ _ _)
    exact ⟨F, L, by rw [hB], hF, hL, hfin.1, hfin.2⟩
  refine AllReady.cons rfl (fun K hK => ?_) AllReady.nil
  go_simp
  refine (unhide HVV).mono ?_
  rintro e w4 ⟨f2, l2, rfl, hf2, hl2, ha4, hfr4⟩
  have HJ := hide (unhide HJJ w4 f2 l2 hf2 hl2 ha4 hfr4)
  have HEG4 := hide (EndAt.on (unhide HEG) (unhide HNG w4 hfr4))
  clear hf2 hl2 ha4 hfr4
  unfold endV
  refine hK _ _ ?_
  clear hK K
  refine wpAny_ready (rs := [1]) (by kernel_rfl) (by simp) ?_
  refine AllReady.cons rfl (fun K hK => ?_) AllReady.nil
  refine step_load_end rfl (.tmp 7) rfl w2.heap.size (by first | (simp [Act.eval]; done) | (simp [Act.eval, Act.put]; done)) (EndAt.blk (unhide HEG4)) ?_
  try go_simp
  refine hK _ _ ?_
  clear hK K
  refine wpAny_ready (rs := [6]) (by kernel_rfl) (by simp) ?_
  refine AllReady.cons rfl (fun K hK => ?_) AllReady.nil
  go_simp
  refine (unhide HJ).mono ?_
  rintro e w5 ⟨B, F, L, rfl, hB, hF, hL, ha5, hfr5⟩
  have HE5 := hide (EndAt.on (unhide HE) (unhide HNO w5 _ hfr5 (by omega) (by omega)))
  have HR := hide (And.intro hB (And.intro hF (And.intro hL (And.intro ha5 hfr5))))
  clear hB hF hL ha5 hfr5
  refine hK _ _ ?_
  clear hK K
  refine wpAny_ready (rs := [7]) (by kernel_rfl) (by simp) ?_
  refine AllReady.cons rfl (fun K hK => ?_) AllReady.nil
  refine step_store_row rfl 80 (.tmp 4) (.tmp 33) rfl w.heap.size #[.bool B, .int .u64 (F 0 : Nat), .int .u64 (F 1 : Nat), .int .u64 (F 2 : Nat), .int .u64 (F 3 : Nat), .int .u64 (F 4 : Nat), .int .u64 (F 5 : Nat), .int .u64 (F 6 : Nat), .int .u64 (F 7 : Nat), .int .u64 (L 0 : Nat), .int .u64 (L 1 : Nat), .int .u64 (L 2 : Nat), .int .u64 (L 3 : Nat), .int .u64 (L 4 : Nat), .int .u64 (L 5 : Nat), .int .u64 (L 6 : Nat), .int .u64 (L 7 : Nat)] (by first | (simp [Act.eval]; done) | (simp [Act.eval, Act.put]; done)) (by first | (simp [Act.eval]; done) | (simp [Act.eval, Act.put]; done)) 80 _ (EndAt.blk (unhide HE5)) (by kernel_rfl) rfl (all1 _ _ _) ?_
  refine hK _ _ ?_
  clear hK K
  refine wpAny_done (by kernel_rfl) ?_ _
  go_wp2
  refine bodyPost_ret (end_ret (EndAt.row (unhide HE5) B F L) rfl _ rfl) rfl ?_
  obtain ⟨hB, hF, hL, ha5, hfr5⟩ := unhide HR
  have hfin := unhide HFIN w5 (w5.setRow w.heap.size #[.bool B, .int .u64 (F 0 : Nat), .int .u64 (F 1 : Nat), .int .u64 (F 2 : Nat), .int .u64 (F 3 : Nat), .int .u64 (F 4 : Nat), .int .u64 (F 5 : Nat), .int .u64 (F 6 : Nat), .int .u64 (F 7 : Nat), .int .u64 (L 0 : Nat), .int .u64 (L 1 : Nat), .int .u64 (L 2 : Nat), .int .u64 (L 3 : Nat), .int .u64 (L 4 : Nat), .int .u64 (L 5 : Nat), .int .u64 (L 6 : Nat), .int .u64 (L 7 : Nat)]) ha5 hfr5 (row_obk _ _ _)
  exact ⟨F, L, by rw [hB], hF, hL, hfin.1, hfin.2⟩

end Go.Proofs.YtfdkdjngeomcdaaDoor

namespace Go.Proofs.YtfdkdjngeomcdaaDoor
open Go.RowKit

/-- The cells of the ends within an automaton's box, written one behind the other. -/
abbrev sA17 (w : World) (A : Nat) (b : Bool) (f l : Nat → Nat) : World := (((((((((((((((((w).setCell ⟨A, 2, none⟩ (.bool b)).setCell ⟨A, 3, none⟩ (.int .u64 (f 0 : Nat))).setCell ⟨A, 4, none⟩ (.int .u64 (f 1 : Nat))).setCell ⟨A, 5, none⟩ (.int .u64 (f 2 : Nat))).setCell ⟨A, 6, none⟩ (.int .u64 (f 3 : Nat))).setCell ⟨A, 7, none⟩ (.int .u64 (f 4 : Nat))).setCell ⟨A, 8, none⟩ (.int .u64 (f 5 : Nat))).setCell ⟨A, 9, none⟩ (.int .u64 (f 6 : Nat))).setCell ⟨A, 10, none⟩ (.int .u64 (f 7 : Nat))).setCell ⟨A, 11, none⟩ (.int .u64 (l 0 : Nat))).setCell ⟨A, 12, none⟩ (.int .u64 (l 1 : Nat))).setCell ⟨A, 13, none⟩ (.int .u64 (l 2 : Nat))).setCell ⟨A, 14, none⟩ (.int .u64 (l 3 : Nat))).setCell ⟨A, 15, none⟩ (.int .u64 (l 4 : Nat))).setCell ⟨A, 16, none⟩ (.int .u64 (l 5 : Nat))).setCell ⟨A, 17, none⟩ (.int .u64 (l 6 : Nat))).setCell ⟨A, 18, none⟩ (.int .u64 (l 7 : Nat))
def autF (F : Nat → Value) (b : Bool) (f l : Nat → Nat) : Nat → Value := fun k => if k < 2 then F k else endF b f l (k - 2)
theorem sA17_row {w : World} {A : Nat} {F : Nat → Value} (h : w.rowIs A 82 19 F) (b : Bool) (f l : Nat → Nat) : (sA17 w A b f l).rowIs A 82 19 (autF F b f l) := by
  have h2 := (((((((((((((((((h).set 2 (.bool b)).set 3 (.int .u64 (f 0 : Nat))).set 4 (.int .u64 (f 1 : Nat))).set 5 (.int .u64 (f 2 : Nat))).set 6 (.int .u64 (f 3 : Nat))).set 7 (.int .u64 (f 4 : Nat))).set 8 (.int .u64 (f 5 : Nat))).set 9 (.int .u64 (f 6 : Nat))).set 10 (.int .u64 (f 7 : Nat))).set 11 (.int .u64 (l 0 : Nat))).set 12 (.int .u64 (l 1 : Nat))).set 13 (.int .u64 (l 2 : Nat))).set 14 (.int .u64 (l 3 : Nat))).set 15 (.int .u64 (l 4 : Nat))).set 16 (.int .u64 (l 5 : Nat))).set 17 (.int .u64 (l 6 : Nat))).set 18 (.int .u64 (l 7 : Nat))
  refine h2.congr (fun k hk => ?_)
  match k, hk with
  | 0, _ => simp [autF]
  | 1, _ => simp [autF]
  | 2, _ => simp [autF, endF]
  | 3, _ => simp [autF, endF, wd]
  | 4, _ => simp [autF, endF, wd]
  | 5, _ => simp [autF, endF, wd]
  | 6, _ => simp [autF, endF, wd]
  | 7, _ => simp [autF, endF, wd]
  | 8, _ => simp [autF, endF, wd]
  | 9, _ => simp [autF, endF, wd]
  | 10, _ => simp [autF, endF, wd]
  | 11, _ => simp [autF, endF, wd]
  | 12, _ => simp [autF, endF, wd]
  | 13, _ => simp [autF, endF, wd]
  | 14, _ => simp [autF, endF, wd]
  | 15, _ => simp [autF, endF, wd]
  | 16, _ => simp [autF, endF, wd]
  | 17, _ => simp [autF, endF, wd]
  | 18, _ => simp [autF, endF, wd]
  | n + 19, h => exact absurd h (by omega)
theorem sA17_ob (w : World) (A : Nat) (b : Bool) (f l : Nat → Nat) : Obk A w (sA17 w A b f l) := (((((((((((((((((Obk.refl _ _).trans (obk_put _ _)).trans (obk_put _ _)).trans (obk_put _ _)).trans (obk_put _ _)).trans (obk_put _ _)).trans (obk_put _ _)).trans (obk_put _ _)).trans (obk_put _ _)).trans (obk_put _ _)).trans (obk_put _ _)).trans (obk_put _ _)).trans (obk_put _ _)).trans (obk_put _ _)).trans (obk_put _ _)).trans (obk_put _ _)).trans (obk_put _ _)).trans (obk_put _ _)
/-- An automaton that is made: its positions, sets and links, and what it shows. -/
def AutAt (O : Nat → Prop) (A : Nat) (w : World) (N : Nat) (S : List (List Int)) (K : List Lk) (b : Bool) (f l : Nat → Nat) : Prop :=
  AuAt O A w N S K ∧ ∃ F, w.rowIs A 82 19 F ∧ ∀ k, k < 17 → F (2 + k) = endF b f l k
theorem AutAt.of {O : Nat → Prop} {A N : Nat} {w : World} {S : List (List Int)} {K : List Lk} (h : AuAt O A w N S K) (b : Bool) (f l : Nat → Nat) : AutAt O A (sA17 w A b f l) N S K b f l := by
  obtain ⟨sv, fv, gs, hs, hM, rest⟩ := h
  obtain ⟨F, hF, h0, h1⟩ := hM.box
  have hr := sA17_row hF b f l
  have hob := sA17_ob w A b f l
  refine ⟨⟨sv, fv, gs, hs, ⟨⟨_, hr, by simp [autF, h0], by simp [autF, h1]⟩, hM.oA, own_blk hM.so (fun q hq => hob.block q (hM.sb q hq).2), own_blk hM.fo (fun q hq => hob.block q (hM.fb q hq).2), hM.sb, hM.fb, hM.sf⟩, rest⟩, _, hr, fun k hk => ?_⟩
  unfold autF
  rw [if_neg (by omega), show 2 + k - 2 = k by omega]
theorem aut_start (w : World) : AuAt (fun k => w.heap.size ≤ k) w.heap.size (w.alloc (.cells #[.slice none 0 0, .slice none 0 0, .bool false, .int .u64 0, .int .u64 0, .int .u64 0, .int .u64 0, .int .u64 0, .int .u64 0, .int .u64 0, .int .u64 0, .int .u64 0, .int .u64 0, .int .u64 0, .int .u64 0, .int .u64 0, .int .u64 0, .int .u64 0, .int .u64 0] 82)) 0 [] [] := by
  refine ⟨.slice none 0 0, .slice none 0 0, fun _ => z8, fun _ => z8, ⟨⟨fun k => (#[.slice none 0 0, .slice none 0 0, .bool false, .int .u64 0, .int .u64 0, .int .u64 0, .int .u64 0, .int .u64 0, .int .u64 0, .int .u64 0, .int .u64 0, .int .u64 0, .int .u64 0, .int .u64 0, .int .u64 0, .int .u64 0, .int .u64 0, .int .u64 0, .int .u64 0] : Array Value)[k]?.getD undef, ?_, rfl, rfl⟩, Nat.le_refl _, World.ownsRow_nil _ _ _ _, World.ownsRow_nil _ _ _ _, fun q hq => (by cases hq), fun q hq => (by cases hq), fun q hq => (by cases hq)⟩, rfl, fun i hi => absurd hi (Nat.not_lt_zero _), fun _ => z8_fit, fun i j => by simp [Bt, z8, mkd], fun _ _ => rfl⟩
  refine World.rowIs_alloc w #[.slice none 0 0, .slice none 0 0, .bool false, .int .u64 0, .int .u64 0, .int .u64 0, .int .u64 0, .int .u64 0, .int .u64 0, .int .u64 0, .int .u64 0, .int .u64 0, .int .u64 0, .int .u64 0, .int .u64 0, .int .u64 0, .int .u64 0, .int .u64 0, .int .u64 0] 82 _ ?_
  intro i hi
  simp [Array.getElem?_eq_getElem hi]
theorem AuM.cells {O : Nat → Prop} {A : Nat} {w : World} {sv fv : Value} {n m : Nat} {gs hs : Nat → Nat → Nat} (h : AuM O A w sv fv n m gs hs) : ∃ F, w.rowIs A 82 19 F := by
  obtain ⟨F, hF, -⟩ := h.box
  exact ⟨F, hF⟩

set_option maxHeartbeats 8000000 in
set_option maxRecDepth 100000 in
theorem automatonOf_any {U : Value} {n : Nat} {a : It} {ln : List Lk} {ss : List (List Int)} (hu : AddV U n a ln ss) (hn : n ≤ 512) (w : World) (htz : TZ w) (hlt : Tryd.laysTZ_ren.g 1 < w.heap.size) :
    Calls Tryd.prog 17 #[U] w fun e w' => ∃ f l, e = .returned (.pointer (some ⟨w.heap.size, 0, none⟩)) ∧ AutAt (fun k => w.heap.size ≤ k) w.heap.size w' n ss ln a.nl f l ∧ BitsOf f a.fi ∧ BitsOf l a.la ∧ Below w.heap.size w w' := by
  obtain ⟨⟨T, x, rfl⟩, hu⟩ := hu
  have hb1 := below1 w (.cells #[.slice none 0 0, .slice none 0 0, .bool false, .int .u64 0, .int .u64 0, .int .u64 0, .int .u64 0, .int .u64 0, .int .u64 0, .int .u64 0, .int .u64 0, .int .u64 0, .int .u64 0, .int .u64 0, .int .u64 0, .int .u64 0, .int .u64 0, .int .u64 0, .int .u64 0] 82)
  have hz : (w.alloc (.cells #[.slice none 0 0, .slice none 0 0, .bool false, .int .u64 0, .int .u64 0, .int .u64 0, .int .u64 0, .int .u64 0, .int .u64 0, .int .u64 0, .int .u64 0, .int .u64 0, .int .u64 0, .int .u64 0, .int .u64 0, .int .u64 0, .int .u64 0, .int .u64 0, .int .u64 0] 82)).heap.size = w.heap.size + 1 := sz_alloc _ _
  have hA := hu (fun k => w.heap.size ≤ k) w.heap.size _ 0 [] [] (aut_start w) (fun k hk => by omega) ⟨htz.below hb1 hlt, by omega, by omega⟩ (by omega)
  have HA := hide hA
  have HB := hide hb1
  clear hu hA hb1 hz htz
  go_enter Tryd.func17, Tryd.ntmps17
  go_wp2_with fail
  refine (unhide HA).mono ?_
  rintro e w2 ⟨f, l, rfl, hf, hl, ha, hfr⟩
  have hAUT := hide (AutAt.of ha a.nl f l)
  obtain ⟨sv, fv, gs, hs, hM, -⟩ := ha
  obtain ⟨F, hF⟩ := hM.cells
  have q2 := hF.cell (i := 2) (by omega)
  have y2 := hF.frozen 2
  have q3 := hF.cell (i := 3) (by omega)
  have y3 := hF.frozen 3
  have q4 := hF.cell (i := 4) (by omega)
  have y4 := hF.frozen 4
  have q5 := hF.cell (i := 5) (by omega)
  have y5 := hF.frozen 5
  have q6 := hF.cell (i := 6) (by omega)
  have y6 := hF.frozen 6
  have q7 := hF.cell (i := 7) (by omega)
  have y7 := hF.frozen 7
  have q8 := hF.cell (i := 8) (by omega)
  have y8 := hF.frozen 8
  have q9 := hF.cell (i := 9) (by omega)
  have y9 := hF.frozen 9
  have q10 := hF.cell (i := 10) (by omega)
  have y10 := hF.frozen 10
  have q11 := hF.cell (i := 11) (by omega)
  have y11 := hF.frozen 11
  have q12 := hF.cell (i := 12) (by omega)
  have y12 := hF.frozen 12
  have q13 := hF.cell (i := 13) (by omega)
  have y13 := hF.frozen 13
  have q14 := hF.cell (i := 14) (by omega)
  have y14 := hF.frozen 14
  have q15 := hF.cell (i := 15) (by omega)
  have y15 := hF.frozen 15
  have q16 := hF.cell (i := 16) (by omega)
  have y16 := hF.frozen 16
  have q17 := hF.cell (i := 17) (by omega)
  have y17 := hF.frozen 17
  have q18 := hF.cell (i := 18) (by omega)
  have y18 := hF.frozen 18
  have HFi := hide hf
  have HLa := hide hl
  have HFr := hide (hfr.below (m := w.heap.size) (fun k hk e => by omega))
  clear hF hM hf hl hfr HA
  unfold endV
  go_wp2
  go_ret
  refine ⟨f, l, rfl, ?_, ?_, ?_, ?_⟩
  · have := unhide hAUT
    simp only [Nat.zero_add, List.nil_append] at this
    have e : shL 0 ln = ln := by unfold shL; simp
    rw [e] at this
    exact this
  · have := unhide HFi; simpa [It.sh] using this
  · have := unhide HLa; simpa [It.sh] using this
  · exact ((unhide HB).trans (unhide HFr)).trans ((sA17_ob _ _ _ _ _).below (Nat.le_refl _))

end Go.Proofs.YtfdkdjngeomcdaaDoor

namespace Go.Proofs.YtfdkdjngeomcdaaDoor
open Go.RowKit

set_option maxHeartbeats 4000000 in
set_option maxRecDepth 100000 in
theorem eqPs (a0 a1 a2 a3 a4 a5 a6 a7 c0 c1 c2 c3 c4 c5 c6 c7 : Int) (w : World) : (Op.equalIn 10000 78 (.agg #[.int .u64 a0, .int .u64 a1, .int .u64 a2, .int .u64 a3, .int .u64 a4, .int .u64 a5, .int .u64 a6, .int .u64 a7]) (.agg #[.int .u64 c0, .int .u64 c1, .int .u64 c2, .int .u64 c3, .int .u64 c4, .int .u64 c5, .int .u64 c6, .int .u64 c7])).run Tryd.prog w = .ok (a0 == c0 && (a1 == c1 && (a2 == c2 && (a3 == c3 && (a4 == c4 && (a5 == c5 && (a6 == c6 && a7 == c7))))))) w := by
  have u3 := Tryd.underlying62
  have a3' := Tryd.isAgg62
  have z3 := Tryd.sizeOf62
  rw [show (10000 : Nat) = 9999 + 1 from rfl, Op.equalIn]
  simp only [Sem.run_bind, run_underlying Tryd.underlying78, Result.andThen_ok]
  simp only [Std.Legacy.Range.forIn_eq_forIn_range', Std.Legacy.Range.size, Nat.sub_zero, Nat.add_sub_cancel, Nat.div_one, List.range'_succ, List.range'_zero, List.forIn_cons, List.forIn_nil]
  go_simp
  by_cases h0 : a0 = c0
  · by_cases h1 : a1 = c1
    · by_cases h2 : a2 = c2
      · by_cases h3 : a3 = c3
        · by_cases h4 : a4 = c4
          · by_cases h5 : a5 = c5
            · by_cases h6 : a6 = c6
              · by_cases h7 : a7 = c7 <;> simp [h0, h1, h2, h3, h4, h5, h6, h7]
              · simp [h0, h1, h2, h3, h4, h5, h6]
            · simp [h0, h1, h2, h3, h4, h5]
          · simp [h0, h1, h2, h3, h4]
        · simp [h0, h1, h2, h3]
      · simp [h0, h1, h2]
    · simp [h0, h1]
  · simp [h0]
/-- A walker's box. -/
def WkBox (w : World) (B A : Nat) (cv hv : Value) : Prop := w.heap[B]? = some (.cells #[.pointer (some ⟨A, 0, none⟩), cv, hv] 47 (0, 0))
theorem WkBox.cells {w : World} {B A : Nat} {cv hv : Value} (h : WkBox w B A cv hv) : w.cell? ⟨B, 0, none⟩ = some (.pointer (some ⟨A, 0, none⟩)) ∧ w.cell? ⟨B, 1, none⟩ = some cv ∧ w.cell? ⟨B, 2, none⟩ = some hv :=
  ⟨World.news_of_block h 0 _ rfl, World.news_of_block h 1 _ rfl, World.news_of_block h 2 _ rfl⟩
theorem WkBox.keep {w w' : World} {B A : Nat} {cv hv : Value} (h : WkBox w B A cv hv) (e : w'.heap[B]? = w.heap[B]?) : WkBox w' B A cv hv := e.trans h
theorem WkBox.lt {w : World} {B A : Nat} {cv hv : Value} (h : WkBox w B A cv hv) : B < w.heap.size := (Array.getElem?_eq_some_iff.1 h).1
/-- What is read of an automaton that is made. -/
def AutR (w : World) (A N : Nat) (fv : Value) (fs : Nat → Nat → Nat) (b : Bool) (f l : Nat → Nat) : Prop :=
  (∃ F, w.rowIs A 82 19 F ∧ F 1 = fv ∧ ∀ k, k < 17 → F (2 + k) = endF b f l k) ∧ RsP w fv N fs
theorem AutR.keep {w w' : World} {A N m : Nat} {fv : Value} {fs : Nat → Nat → Nat} {b : Bool} {f l : Nat → Nat} (h : AutR w A N fv fs b f l) (hb : Below m w w') (hm : w.heap.size ≤ m) : AutR w' A N fv fs b f l := by
  obtain ⟨⟨F, h1, h2⟩, h3⟩ := h
  exact ⟨⟨F, h1.of_block (hb.block A (Nat.lt_of_lt_of_le h1.lt hm)), h2⟩, own_keep h3 hb hm⟩
theorem AutR.cells {w : World} {A N : Nat} {fv : Value} {fs : Nat → Nat → Nat} {b : Bool} {f l : Nat → Nat} (h : AutR w A N fv fs b f l) : w.cell? ⟨A, 1, none⟩ = some fv ∧ w.cell? ⟨A, 2, none⟩ = some (.bool b) ∧ (∀ k, k < 8 → w.cell? ⟨A, 3 + k, none⟩ = some (.int .u64 (f k : Nat))) ∧ ∀ k, k < 8 → w.cell? ⟨A, 11 + k, none⟩ = some (.int .u64 (l k : Nat)) := by
  obtain ⟨⟨F, h1, h2, h3⟩, -⟩ := h
  refine ⟨?_, ?_, fun k hk => ?_, fun k hk => ?_⟩
  · rw [h1.cell (by omega), h2]
  · rw [h1.cell (by omega)]; exact congrArg some (h3 0 (by omega))
  · rw [h1.cell (by omega), show 3 + k = 2 + (k + 1) by omega, h3 (k + 1) (by omega)]
    simp only [endF]
    rw [if_neg (by omega), if_pos (by omega), show k + 1 - 1 = k by omega]
    rfl
  · rw [h1.cell (by omega), show 11 + k = 2 + (k + 9) by omega, h3 (k + 9) (by omega)]
    simp only [endF]
    rw [if_neg (by omega), if_neg (by omega), show k + 9 - 9 = k by omega]
    rfl
/-- A pending set as a value, as a box. -/
def pd (g : Nat → Nat) (e : Bool) : Value := .agg #[.int .u64 (g 0 : Nat), .int .u64 (g 1 : Nat), .int .u64 (g 2 : Nat), .int .u64 (g 3 : Nat), .int .u64 (g 4 : Nat), .int .u64 (g 5 : Nat), .int .u64 (g 6 : Nat), .int .u64 (g 7 : Nat), .bool e]
abbrev c9 (g : Nat → Nat) (e : Bool) : Array Value := #[.int .u64 (g 0 : Nat), .int .u64 (g 1 : Nat), .int .u64 (g 2 : Nat), .int .u64 (g 3 : Nat), .int .u64 (g 4 : Nat), .int .u64 (g 5 : Nat), .int .u64 (g 6 : Nat), .int .u64 (g 7 : Nat), .bool e]
def pdF (g : Nat → Nat) (e : Bool) : Nat → Value := fun k => if k < 8 then wd g k else .bool e
theorem row9_blk {w : World} {B : Nat} {t : TypeId} {g : Nat → Nat} {e : Bool} (h : w.rowIs B t 9 (pdF g e)) : w.heap[B]? = some (.cells (c9 g e) t (0, 0)) := by
  obtain ⟨c, hc, hs, hf⟩ := h
  rw [hc]
  congr 2
  refine Array.ext (by simp [hs]) (fun i h1 h2 => ?_)
  have h3 := hf i (by omega)
  rw [Array.getElem?_eq_getElem h1] at h3
  have h4 := Option.some.inj h3
  rw [h4]
  have h5 : i < 9 := by omega
  match i, h5 with
  | 0, _ => rfl
  | 1, _ => rfl
  | 2, _ => rfl
  | 3, _ => rfl
  | 4, _ => rfl
  | 5, _ => rfl
  | 6, _ => rfl
  | 7, _ => rfl
  | 8, _ => rfl
theorem blk_row9 {w : World} {B : Nat} {t : TypeId} {g : Nat → Nat} {e : Bool} (h : w.heap[B]? = some (.cells (c9 g e) t (0, 0))) : w.rowIs B t 9 (pdF g e) := by
  refine ⟨_, h, rfl, fun i hi => ?_⟩
  match i, hi with
  | 0, _ => rfl
  | 1, _ => rfl
  | 2, _ => rfl
  | 3, _ => rfl
  | 4, _ => rfl
  | 5, _ => rfl
  | 6, _ => rfl
  | 7, _ => rfl
  | 8, _ => rfl
theorem all9 (g : Nat → Nat) (e : Bool) : (c9 g e).all (·.oneCell') = true := by simp [Value.oneCell']
theorem pd_ret {w : World} {B : Nat} {g : Nat → Nat} {e : Bool} (h : w.heap[B]? = some (.cells (c9 g e) 90 (0, 0))) {fn : Func} {p : Tmp} (hr : fn.results = #[.cell p 90]) (tmps : Array Value) (hp : tmps.getD p undef = .pointer (some ⟨B, 0, none⟩)) : (results fn tmps).run Tryd.prog w = .ok (pd g e) w :=
  results_cell_row hr tmps w B _ _ _ _ hp h Tryd.underlying90 rfl (by kernel_rfl)

set_option maxHeartbeats 4000000 in
set_option maxRecDepth 100000 in
theorem start_any (B A N : Nat) (cv hv fv : Value) (fs : Nat → Nat → Nat) (b : Bool) (f l : Nat → Nat) (w : World) (hB : WkBox w B A cv hv) (hA : AutR w A N fv fs b f l) :
    Calls Tryd.prog 32 #[.pointer (some ⟨B, 0, none⟩)] w fun e w' => e = .returned (pd f b) ∧ Below w.heap.size w w' := by
  have hlt := hB.lt
  have hltA : A < w.heap.size := by obtain ⟨⟨F, h1, -⟩, -⟩ := hA; exact h1.lt
  have hb1 := below1 w (.cells #[.int .u64 0, .int .u64 0, .int .u64 0, .int .u64 0, .int .u64 0, .int .u64 0, .int .u64 0, .int .u64 0, .bool false] 90)
  obtain ⟨c0, -, -⟩ := (hB.keep (hb1.block B hlt)).cells
  obtain ⟨-, d2, d3, -⟩ := (hA.keep hb1 (Nat.le_refl _)).cells
  have e0 := d3 0 (by omega)
  have e1 := d3 1 (by omega)
  have e2 := d3 2 (by omega)
  have e3 := d3 3 (by omega)
  have e4 := d3 4 (by omega)
  have e5 := d3 5 (by omega)
  have e6 := d3 6 (by omega)
  have e7 := d3 7 (by omega)
  simp only [Nat.reduceAdd] at e0 e1 e2 e3 e4 e5 e6 e7
  clear hB hA d3 hb1
  go_enter Tryd.func32, Tryd.ntmps32
  go_wp2_with fail
  refine wp_region_quiet_tail 17 (by kernel_rfl) (by kernel_rfl) ?_
  simp only [List.take_succ_cons, List.take_zero, List.drop_succ_cons, List.drop_zero]
  repeat (first | go_big_quiet_skip | (go_big_quiet_want; go_big_quiet_op; go_big_quiet_on))
  refine wpQuiet_nil ?_
  go_wp2
  refine bodyPost_ret (pd_ret (g := f) (e := b) (by exact (pushd_alloc w _).new) rfl _ rfl) rfl ?_
  exact ⟨rfl, (below1 w _).drew⟩

end Go.Proofs.YtfdkdjngeomcdaaDoor
