import Derived.Test.YtjmajdfcfcgegaaMu3
namespace Go.Proofs.Ytjmajdfcfcgegaa
open Go.RowKit

set_option maxHeartbeats 4000000 in
set_option maxRecDepth 100000 in
/-- One class for all that go the same way. -/
theorem mergeClasses_any (A : Tb) (xb xo xc b off cN ab ao ca : Nat) (w : World) (hw : A.Wf) (hn : A.n ≤ 1024) (hk : 1 ≤ A.k ∧ A.k ≤ 256) (hcN : A.n * A.k ≤ cN) (hb : b < w.heap.size) (hx : NxAt w b off A.n A.k A.nx)
    (hxb : xb < w.heap.size) (hcl : ∀ q, q < 256 → w.cell? ⟨xb, xo + q, none⟩ = some (.int .i64 (A.cl q : Nat))) :
    Calls Try.prog 27 #[.agg #[.slice (some ⟨xb, xo, none⟩) 256 xc, .int .i64 (A.k : Nat), .slice (some ⟨b, off, none⟩) (A.n * A.k) cN, .slice (some ⟨ab, ao, none⟩) A.n ca]] w fun e w' => ∃ (xv nv : Value) (m : Nat), e = .returned (.agg #[xv, .int .i64 (m : Nat), nv, .slice (some ⟨ab, ao, none⟩) A.n ca]) ∧ Below w.heap.size w w' ∧
      ∃ (mg G : Nat → Nat), MgC A A.n m mg G ∧ m ≤ A.k ∧ w'.ownsRow w.heap.size 3 1 xv 256 ((mcX A mg 256).map mN) ∧ w'.ownsRow w.heap.size 3 1 nv (A.n * m) ((mcY A G m (A.n * m)).map mN) ∧ ∀ r, xv.ownBlock = some r → nv.ownBlock ≠ some r := by
  obtain ⟨i0, hi0, hz0, hz1, hz2⟩ := info_parts Try.zinInt
  have hn1 : 1 ≤ A.n := hw.pos
  have hLn : A.n * A.k ≤ 1024 * 256 := Nat.mul_le_mul hn hk.2
  obtain ⟨L, hL⟩ : ∃ L, L = A.n * A.k := ⟨_, rfl⟩
  rw [← hL] at hcN hLn ⊢
  have hmk := run_make_row' (P := Try.prog) 22 3 (.int .i64 0) 8 Try.underlying22 Try.zinInt rfl .i64 .i64 A.k (by omega) (by omega)
  obtain ⟨W2, hW2⟩ : ∃ W2, W2 = (w.alloc (.cells #[.slice (some ⟨xb, xo, none⟩) 256 xc, .int .i64 (A.k : Nat), .slice (some ⟨b, off, none⟩) L cN, .slice (some ⟨ab, ao, none⟩) A.n ca] 27)).alloc (.cells #[.slice none 0 0, .int .i64 0, .slice none 0 0, .slice none 0 0] 27) := ⟨_, rfl⟩
  have hsz2 : W2.heap.size = w.heap.size + 2 := by rw [hW2, sz_alloc, sz_alloc]
  have hD2 : Row4 W2 w.heap.size 27 (.slice (some ⟨xb, xo, none⟩) 256 xc) (.int .i64 (A.k : Nat)) (.slice (some ⟨b, off, none⟩) L cN) (.slice (some ⟨ab, ao, none⟩) A.n ca) := by rw [hW2]; exact (Row4.new w _ _ _ _ _).alloc _
  have hE2 : Row4 W2 (w.heap.size + 1) 27 (.slice none 0 0) (.int .i64 0) (.slice none 0 0) (.slice none 0 0) := by
    have := Row4.new (w.alloc (.cells #[.slice (some ⟨xb, xo, none⟩) 256 xc, .int .i64 (A.k : Nat), .slice (some ⟨b, off, none⟩) L cN, .slice (some ⟨ab, ao, none⟩) A.n ca] 27)) 27 (.slice none 0 0) (.int .i64 0) (.slice none 0 0) (.slice none 0 0)
    rw [sz_alloc] at this
    rw [hW2]
    exact this
  obtain ⟨W3, hW3⟩ : ∃ W3, W3 = W2.alloc (.cells (madeCells #[.int .i64 0] A.k) 3) := ⟨_, rfl⟩
  have hsz3 : W3.heap.size = w.heap.size + 3 := by rw [hW3, sz_alloc, hsz2]
  have hD3 : Row4 W3 w.heap.size 27 (.slice (some ⟨xb, xo, none⟩) 256 xc) (.int .i64 (A.k : Nat)) (.slice (some ⟨b, off, none⟩) L cN) (.slice (some ⟨ab, ao, none⟩) A.n ca) := by rw [hW3]; exact hD2.alloc _
  have hE3 : Row4 W3 (w.heap.size + 1) 27 (.slice none 0 0) (.int .i64 0) (.slice none 0 0) (.slice none 0 0) := by rw [hW3]; exact hE2.alloc _
  have hM3 : RowN W3 (w.heap.size + 2) A.k (fun _ => 0) := by
    have := World.rowIs_made W2 (.int .i64 0) A.k 3
    rw [hsz2] at this
    rw [hW3]
    exact ⟨_, _, this, Nat.le_refl _, fun j hj => rfl⟩
  have hB3 : Below w.heap.size w W3 := by rw [hW3, hW2]; exact (below2 w _ _).trans ((below1 _ _).mono (by rw [sz_alloc, sz_alloc]; omega))
  obtain ⟨e0, e1, e2, e3, -⟩ := hD2.facts
  obtain ⟨f0, f1, f2, f3, -⟩ := hD3.facts
  have HL := hide hL
  have HX := hide hx
  have HCL := hide hcl
  have HW2 := hide hW2
  have HW3 := hide hW3
  have HD3 := hide hD3
  have HE3 := hide hE3
  have HM3 := hide hM3
  have HB3 := hide hB3
  clear hL hx hcl hW2 hW3 hD2 hD3 hE2 hE3 hM3 hB3
  go_enter Try.func27, Try.ntmps27
  go_wp2_with fail
  rw [← unhide HW2, ← unhide HW3]
  clear HW2 HW3 e0 e1 e2 e3 f0 f1 f2 f3 hmk
  simp only [Nat.add_assoc, Nat.reduceAdd]
  go_loopw [4, 22] (fun nv qv wr => ∃ (q m : Nat) (mg G : Nat → Nat), q ≤ A.n ∧ qv = .int .i64 (q : Nat) ∧ nv = .int .i64 (m : Nat) ∧ m ≤ A.k ∧ MgC A q m mg G ∧ RowN wr (w.heap.size + 2) A.k mg ∧ FrO (OneB W3 (w.heap.size + 2)) W3 wr) (fun _ qv _ => A.n - (intOf qv).toNat)
  case atStart => exact ⟨0, 1, _, _, by omega, rfl, rfl, hk.1, MgC.start hk.1, unhide HM3, FrO.refl _ _⟩
  case round =>
    clear HM3
    obtain ⟨q, m, mg, G, hq, rfl, rfl, hmk, hMg, hRm, hF⟩ := hrel
    obtain ⟨w4, rfl⟩ : ∃ w4, w4 = wr := ⟨_, rfl⟩
    have hz4 := hF.size
    have hD4 : Row4 w4 w.heap.size 27 (.slice (some ⟨xb, xo, none⟩) 256 xc) (.int .i64 (A.k : Nat)) (.slice (some ⟨b, off, none⟩) L cN) (.slice (some ⟨ab, ao, none⟩) A.n ca) := World.rowIs.of_block (unhide HD3) (hF.block _ (by rintro (h | h) <;> omega))
    have hB4 : Below w.heap.size w w4 := (unhide HB3).trans (hF.below (fun k hk => by rintro (h | h) <;> omega))
    by_cases hlt : q < A.n
    · have hlt' : (q : Int) < (A.n : Int) := by omega
      have HN := hide (newII_any w4)
      have hlm := hRm.lt
      have HMG := hide hMg
      have HRM := hide hRm
      have HF := hide hF
      have HD4 := hide hD4
      have HB4 := hide hB4
      clear hMg hRm hF hD4 hB4
      go_wp2_with fail
      refine (unhide HN).mono ?_
      rintro e w5 ⟨rfl, hN5, hz5, hB5⟩
      obtain ⟨W6, hW6⟩ : ∃ W6, W6 = w5.alloc (.cells #[.map (some (w4.heap.size + 1))] 45) := ⟨_, rfl⟩
      have hb6 : Below w5.heap.size w5 W6 := by rw [hW6]; exact below1 w5 _
      have hb46 : Below w4.heap.size w4 W6 := hB5.trans (hb6.mono (by omega))
      have hsz6 : W6.heap.size = w4.heap.size + 3 := by rw [hW6, sz_alloc]; omega
      have hkb : W6.rowIs (w4.heap.size + 2) 45 1 (fun _ => .map (some (w4.heap.size + 1))) := by
        have := World.rowIs_alloc w5 #[.map (some (w4.heap.size + 1))] 45 (fun _ => .map (some (w4.heap.size + 1))) (fun j hj => by
          match j, hj with
          | 0, _ => rfl)
        rw [hz5] at this
        rw [hW6]
        exact this
      obtain ⟨f0, f1, f2, f3, -⟩ := ((unhide HD4).below hb46 (by omega)).facts
      have hqL : (q + 1) * A.k ≤ L := by rw [unhide HL]; exact Nat.mul_le_mul_right _ hlt
      have hrw := row_any (.slice (some ⟨xb, xo, none⟩) 256 xc) (.slice (some ⟨ab, ao, none⟩) A.n ca) b off L cN A.k q W6 hqL (by omega) hcN (by omega) hk
      obtain ⟨rq, hrq⟩ : ∃ rq, rq = q * A.k := ⟨_, rfl⟩
      rw [← hrq] at hrw
      have HRW := hide hrw
      have HRQ := hide hrq
      have HN6 := hide (hN5.keep (hb6.block _ (by omega)))
      have HKB := hide hkb
      have HB46 := hide hb46
      have HW6 := hide hW6
      rw [hW6] at f0 f1 f2 f3
      clear hrw hrq hqL hN5 hB5 hb6 hb46 hkb hW6 HN
      go_wp2_with fail
      try rw [hz5]
      rw [← unhide HW6]
      refine (unhide HRW).mono ?_
      rintro e w7 ⟨rfl, hb7⟩
      have hz7 := hb7.size
      have hb47 : Below w4.heap.size w4 w7 := (unhide HB46).trans (hb7.mono (by omega))
      have hPr : PrAt w7 w7 (w4.heap.size + 1) (w.heap.size + 2) A.k (fun c => (mg c, A.nx q c)) mg [] [] [] := ⟨(unhide HN6).keep (hb7.block _ (by omega)), ((unhide HRM).on (hb47.block _ hlm)).congr (fun j _ => rfl), NumL.nil _, FrO.refl _ _, by omega, by omega, by omega⟩
      have HPR := hide hPr
      have HKB7 := hide ((unhide HKB).of_block (hb7.block _ (by omega)))
      have HB47 := hide hb47
      clear HRW HN6 HKB HRM hPr hb47 hb7 f0 f1 f2 f3 HW6
      go_wp2_with fail
      go_loopw [30] (fun cv wx => ∃ (c : Nat) (ds : List (Nat × Nat)) (ns fs : List Nat), c ≤ A.k ∧ cv = .int .i64 (c : Nat) ∧ ns.length = c ∧ PrAt w7 wx (w4.heap.size + 1) (w.heap.size + 2) A.k (fun c => (mg c, A.nx q c)) mg ds ns fs) (fun cv _ => A.k - (intOf cv).toNat)
      case atStart => exact ⟨0, [], [], [], by omega, rfl, rfl, unhide HPR⟩
      case round =>
        clear HPR
        obtain ⟨c, ds, ns, fs, hc, rfl, hns, hPr⟩ := hrel
        have hzr := hPr.fr.size
        have hkr := (unhide HKB7).of_block (hPr.fr.block _ (by rintro (h | h | h) <;> omega))
        have u0 : wr.cell? ⟨w4.heap.size + 2, 0, none⟩ = some (.map (some (w4.heap.size + 1))) := hkr.cell (by omega)
        have hdn := numl_le hPr.nl
        by_cases hcl : c < A.k
        · have hcl' : (c : Int) < (A.k : Int) := by omega
          obtain ⟨x1, x2⟩ := unhide HX q c hlt hcl
          have hlow : ∀ k, k < w.heap.size → wr.heap[k]? = w.heap[k]? := fun k hk => (hPr.fr.block k (by rintro (h | h | h) <;> omega)).trans (((unhide HB47).block k (by omega)).trans ((unhide HB4).block k hk))
          have y0 : wr.cell? ⟨b, off + rq + c, none⟩ = some (.int .i64 (A.nx q c : Nat)) := by rw [unhide HRQ, Nat.add_assoc, World.cell?_of_block (a := ⟨b, off + (q * A.k + c), none⟩) (hlow b hb)]; exact x2
          have y1 : wr.cell? ⟨w.heap.size + 2, c, none⟩ = some (.int .i64 (mg c : Nat)) := by rw [hPr.nr.cell hcl, if_neg (by omega)]
          have hmg := (unhide HMG).num.lt c hcl
          obtain ⟨nxt, hnxt⟩ : ∃ y, y = A.nx q c := ⟨_, rfl⟩
          obtain ⟨mc, hmc⟩ : ∃ y, y = mg c := ⟨_, rfl⟩
          rw [← hnxt] at y0 x1
          rw [← hmc] at y1 hmg
          have hof := ofII_any (w4.heap.size + 1) (mc : Nat) (nxt : Nat) (ds.map pN) wr.drew (hPr.num.keep rfl) ⟨by omega, by omega⟩ ⟨by omega, by omega⟩ (by rw [List.length_map]; omega)
          have HOF := hide hof
          have HPR := hide hPr
          have HKE : Hid (pN ((fun c => (mg c, A.nx q c)) c) = ii (mc : Int) (nxt : Int)) := by
            show pN _ = _
            rw [hmc, hnxt]; rfl
          unfold ii at HOF
          clear hPr hof x2 hnxt hmc hkr hlow
          go_wp2_with fail
          refine class_of wr (w4.heap.size + 2) (w4.heap.size + 1) (w.heap.size + 2) A.k A.k c mc nxt (fun num f w8 => ∃ ks', NumR (ds.map pN) (.agg #[.int .i64 (mc : Nat), .int .i64 (nxt : Nat)]) ks' num f ∧ NumAt 47 w8 (w4.heap.size + 1) ks' ∧ FrO (OneB wr (w4.heap.size + 1)) wr w8) hcl u0 y1 ?_ (fun num f w8 hP => ?_)
          · refine (unhide HOF).mono ?_
            rintro e w8 ⟨num, ks', f, rfl, hR, hN8, hF8⟩
            exact ⟨num, f, rfl, ks', hR, hN8, ⟨hF8.os, hF8.tape, hF8.output, hF8.size, hF8.block⟩⟩
          · obtain ⟨ks', hR, hN8, hF8⟩ := hP
            have hke := unhide HKE
            unfold ii at hke
            rw [← hke] at hR
            obtain ⟨q1, ds', fs', hST⟩ := (unhide HPR).step hns hR hN8 hF8
            refine ⟨⟨_, q1.cell hcl⟩, q1.frozen c, ?_⟩
            have HST := hide hST
            clear q1 hST hR hN8 hF8 hke HOF HPR u0 y0 y1
            go_wp2
            go_roundw
            case rel => exact ⟨c + 1, ds', ns ++ [num], fs', by omega, by go_num, by rw [List.length_append, hns]; rfl, unhide HST⟩
            case measure => simp [intOf]; omega
        · have hcl' : ¬ (c : Int) < (A.k : Int) := by omega
          obtain rfl : c = A.k := by omega
          have HCO := hide (countII_any (w4.heap.size + 1) (ds.map pN) wr hPr.num)
          have HPR := hide hPr
          clear hPr hkr
          go_wp2_with fail
          refine (unhide HCO).mono ?_
          rintro e w8 ⟨rfl, hb8⟩
          rw [List.length_map]
          have hMg2 := (unhide HMG).next (unhide HPR).nl hns
          have hRm2 : RowN w8 (w.heap.size + 2) A.k (fun c => ns[c]?.getD 0) := ((unhide HPR).nr.on (hb8.block _ (by omega))).congr (fun j hj => by rw [if_pos (by omega)])
          have hF2 : FrO (OneB W3 (w.heap.size + 2)) W3 w8 := by
            refine (unhide HF).trans ((fro_of (unhide HB47) (fun k hk => .inr (by omega))).trans (FrO.trans ((unhide HPR).fr.mono (fun k hk => ?_)) (fro_of hb8 (fun k hk => .inr (by omega)))))
            rcases hk with h | h | h
            · exact .inr (by omega)
            · exact .inl h
            · exact .inr (by omega)
          have HM2 := hide hMg2
          have HR2 := hide hRm2
          have HF2 := hide hF2
          clear hMg2 hRm2 hF2 hb8 HCO HPR u0
          go_wp2
          go_roundw
          case rel => exact ⟨q + 1, ds.length, _, _, by omega, by go_num, rfl, by omega, unhide HM2, unhide HR2, unhide HF2⟩
          case measure => simp [intOf]; omega
    · have hlt' : ¬ (q : Int) < (A.n : Int) := by omega
      obtain rfl : q = A.n := by omega
      obtain ⟨f0, f1, f2, f3, -⟩ := hD4.facts
      have hm2 := hMg.num
      obtain ⟨W5, hW5⟩ : ∃ W5, W5 = w4.alloc (.cells #[.slice none 0 0, .int .i64 (m : Nat), .slice none 0 0, .slice (some ⟨ab, ao, none⟩) A.n ca] 27) := ⟨_, rfl⟩
      have hsz5 : W5.heap.size = w4.heap.size + 1 := by rw [hW5, sz_alloc]
      have hO5 : Row4 W5 w4.heap.size 27 (.slice none 0 0) (.int .i64 (m : Nat)) (.slice none 0 0) (.slice (some ⟨ab, ao, none⟩) A.n ca) := by rw [hW5]; exact Row4.new w4 _ _ _ _ _
      have hb5 : Below w4.heap.size w4 W5 := by rw [hW5]; exact below1 w4 _
      obtain ⟨e0, e1, e2, e3, -⟩ := (hD4.below hb5 (by omega)).facts
      rw [hW5] at e0 e1 e2 e3
      have HW5 := hide hW5
      have HO5 := hide hO5
      have HB5 := hide hb5
      have HMG := hide hMg
      have HRM := hide hRm
      have HF := hide hF
      have HD4 := hide hD4
      have HB4 := hide hB4
      clear hMg hRm hF hD4 hB4 hW5 hO5 hb5 hm2
      go_wp2_with fail
      rw [← unhide HW5]
      clear e0 e1 e2 e3 f0 f1 f2 f3
      have hlm := (unhide HRM).lt
      have HT5 : Hid (∀ W, FrO (OneB W5 w4.heap.size) W5 W → Row4 W w.heap.size 27 (.slice (some ⟨xb, xo, none⟩) 256 xc) (.int .i64 (A.k : Nat)) (.slice (some ⟨b, off, none⟩) L cN) (.slice (some ⟨ab, ao, none⟩) A.n ca) ∧ Below w.heap.size w W ∧ RowN W (w.heap.size + 2) A.k mg ∧ Row4 W (w.heap.size + 1) 27 (.slice none 0 0) (.int .i64 0) (.slice none 0 0) (.slice none 0 0)) := fun W hW => by
        have hk4 : ∀ k, k < w4.heap.size → W.heap[k]? = w4.heap[k]? := fun k hk => (hW.block k (by rintro (h | h) <;> omega)).trans ((unhide HB5).block k hk)
        have hb4W : Below w4.heap.size w4 W := ⟨hW.os.trans (unhide HB5).os, hW.tape.trans (unhide HB5).tape, hW.output.trans (unhide HB5).output, by have := hW.size; omega, hk4⟩
        exact ⟨(unhide HD4).below hb4W (by omega), (unhide HB4).trans (hb4W.mono (by omega)), (unhide HRM).on (hk4 _ hlm), World.rowIs.of_block (unhide HE3) ((hk4 _ (by omega)).trans ((unhide HF).block _ (by rintro (h | h) <;> omega)))⟩
      have hC5 : CtAt W5 W5 w4.heap.size (.int .i64 (m : Nat)) (.slice (some ⟨ab, ao, none⟩) A.n ca) (.slice none 0 0) (.slice none 0 0) (mcX A mg 0) [] := ⟨unhide HO5, World.ownsRow_nil _ _ _ _, World.ownsRow_nil _ _ _ _, (fun r hr => by cases hr), FrO.refl _ _, by omega⟩
      have HC5 := hide hC5
      clear hC5 HW5 HO5 HB5 HRM HF HD4 HB4 HE3 HD3 HB3
      go_loopw [60] (fun iv wr => ∃ (i : Nat) (xv : Value), i ≤ 256 ∧ iv = .int .i64 (i : Nat) ∧ CtAt W5 wr w4.heap.size (.int .i64 (m : Nat)) (.slice (some ⟨ab, ao, none⟩) A.n ca) xv (.slice none 0 0) (mcX A mg i) []) (fun iv _ => 256 - (intOf iv).toNat)
      case atStart => exact ⟨0, _, by omega, rfl, unhide HC5⟩
      case round =>
        clear HC5
        obtain ⟨i, xv, hi, rfl, hC⟩ := hrel
        obtain ⟨w6, rfl⟩ : ∃ w6, w6 = wr := ⟨_, rfl⟩
        obtain ⟨hD, hBw, hRm, hE⟩ := unhide HT5 w6 hC.fr
        have hz6 := hC.fr.size
        by_cases hil : i < 256
        · have hil' : (i : Int) < 256 := by omega
          have hci := hw.cls i hil
          have y0 : w6.cell? ⟨xb, xo + i, none⟩ = some (.int .i64 (A.cl i : Nat)) := by rw [hBw.cell (p := ⟨xb, xo + i, none⟩) hxb]; exact unhide HCL i hil
          have k0 := hRm.cell hci
          obtain ⟨g0, -⟩ := hC.out.facts
          have hox := hC.ox
          obtain ⟨oa, oc, e1⟩ := own_is hC.ox
          rw [mcX_len] at e1
          rw [mcX_len, e1] at hox
          rw [e1] at g0
          obtain ⟨ci, hci2⟩ : ∃ y, y = A.cl i := ⟨_, rfl⟩
          rw [← hci2] at y0 k0 hci
          have HC := hide hC
          have HE1 := hide e1
          have HCI := hide hci2
          have HG0 := hide g0
          have HK0 := hide k0
          have HOX := hide hox
          clear hC hD hBw hRm hE e1 hci2 g0 k0 hox
          go_wp2_with fail
          refine class_app w6 w4.heap.size (w.heap.size + 2) A.k A.k ci (mg ci) i oc W5.heap.size oa _ hci (by omega) (by omega) (by omega) (unhide HG0) (unhide HK0) (unhide HOX) (fun WA w7 gg cap r1 r2 r3 hP => ?_)
          have hA := (unhide HC).pushX (x := mg ci) (v' := .slice (some ⟨gg, 0, none⟩) (i + 1) cap) hP.below (by rw [List.length_append, mcX_len, List.map_append]; exact r1) (by rw [unhide HE1]; exact r2) (fun q hq => by
            rw [unhide HE1]
            have hq' : gg = q := Option.some.inj hq
            subst hq'
            rcases r3 with e | e
            · exact .inl e
            · exact .inr (by omega))
          rw [unhide HE1] at hA
          refine ⟨hA.1, hA.2.1, ?_⟩
          have HA := hide hA.2.2
          clear hA r1 r2 r3 hP HG0 HK0 HOX HC y0
          go_wp2
          go_roundw
          case rel => exact ⟨i + 1, _, by omega, by go_num, by rw [mcX_next, ← unhide HCI]; exact unhide HA⟩
          case measure => simp [intOf]; omega
        · have hil' : ¬ (i : Int) < 256 := by omega
          obtain rfl : i = 256 := by omega
          obtain ⟨f0, f1, f2, f3, -⟩ := hD.facts
          have HC := hide hC
          clear hC hD hBw hRm hE
          go_wp2_with fail
          clear f0 f1 f2 f3
          go_loopw [77] (fun qv wr => ∃ (q : Nat) (nv : Value), q ≤ A.n ∧ qv = .int .i64 (q : Nat) ∧ CtAt W5 wr w4.heap.size (.int .i64 (m : Nat)) (.slice (some ⟨ab, ao, none⟩) A.n ca) xv nv (mcX A mg 256) (mcY A G m (q * m))) (fun qv _ => A.n - (intOf qv).toNat)
          case atStart => exact ⟨0, _, by omega, rfl, by rw [Nat.zero_mul]; exact unhide HC⟩
          case round =>
            clear HC
            obtain ⟨q, nv, hq, rfl, hC⟩ := hrel
            obtain ⟨w7, rfl⟩ : ∃ w7, w7 = wr := ⟨_, rfl⟩
            obtain ⟨hD, hBw, hRm, hE⟩ := unhide HT5 w7 hC.fr
            have hz7 := hC.fr.size
            by_cases hqn : q < A.n
            · have hqn' : (q : Int) < (A.n : Int) := by omega
              obtain ⟨f0, f1, f2, f3, -⟩ := hD.facts
              have hqL : (q + 1) * A.k ≤ L := by rw [unhide HL]; exact Nat.mul_le_mul_right _ hqn
              have hrw := row_any (.slice (some ⟨xb, xo, none⟩) 256 xc) (.slice (some ⟨ab, ao, none⟩) A.n ca) b off L cN A.k q w7 hqL (by omega) hcN (by omega) hk
              obtain ⟨rq, hrq⟩ : ∃ rq, rq = q * A.k := ⟨_, rfl⟩
              rw [← hrq] at hrw
              have HRW := hide hrw
              have HRQ := hide hrq
              have HC := hide hC
              clear hrw hrq hqL hC hD hBw hRm hE
              go_wp2_with fail
              refine (unhide HRW).mono ?_
              rintro e w8 ⟨rfl, hb8⟩
              have HC8 := hide ((unhide HC).keep hb8)
              clear HC HRW hb8 f0 f1 f2 f3
              go_wp2_with fail
              go_loopw [13, 84] (fun ev cv wr => ∃ (c met : Nat) (nv : Value), c ≤ A.k ∧ met ≤ m ∧ ev = .int .i64 (met : Nat) ∧ cv = .int .i64 (c : Nat) ∧ (∀ j, j < m → (G j < c ↔ j < met)) ∧ CtAt W5 wr w4.heap.size (.int .i64 (m : Nat)) (.slice (some ⟨ab, ao, none⟩) A.n ca) xv nv (mcX A mg 256) (mcY A G m (q * m + met))) (fun _ cv _ => A.k - (intOf cv).toNat)
              case atStart => exact ⟨0, 0, _, by omega, by omega, rfl, rfl, fun j _ => by omega, unhide HC8⟩
              case round =>
                clear HC8
                obtain ⟨c, met, nv, hc, hme, rfl, rfl, hmt, hC⟩ := hrel
                obtain ⟨hD, hBw, hRm, hE⟩ := unhide HT5 wr hC.fr
                have hzr := hC.fr.size
                by_cases hcl : c < A.k
                · have hcl' : (c : Int) < (A.k : Int) := by omega
                  obtain ⟨x1, x2⟩ := unhide HX q c hqn hcl
                  have y0 : wr.cell? ⟨b, off + rq + c, none⟩ = some (.int .i64 (A.nx q c : Nat)) := by rw [unhide HRQ, Nat.add_assoc, hBw.cell (p := ⟨b, off + (q * A.k + c), none⟩) hb]; exact x2
                  have y1 := hRm.cell hcl
                  obtain ⟨t1, t2, t3⟩ := (unhide HMG).num.meet hcl hmt
                  obtain ⟨-, -, g2, -⟩ := hC.out.facts
                  have hmgc := (unhide HMG).num.lt c hcl
                  have hyb : (mcY A G m (q * m + met)).length ≤ 600000 := by
                    rw [mcY_len]
                    have h1 : q * m ≤ 1024 * 256 := Nat.mul_le_mul (by omega) (by omega)
                    omega
                  obtain ⟨nxt, hnxt⟩ : ∃ y, y = A.nx q c := ⟨_, rfl⟩
                  obtain ⟨mc, hmc⟩ : ∃ y, y = mg c := ⟨_, rfl⟩
                  rw [← hnxt] at y0
                  rw [← hmc] at y1 t1 t2 t3 hmgc
                  have HNX := hide hnxt
                  by_cases heq : mc = met
                  · obtain ⟨t4, t5⟩ := t1 heq
                    have hY := mcY_next A G (q := q) t5
                    rw [t4, ← hnxt] at hY
                    have T3 := hide (t3 heq)
                    have heq' : ((mc : Nat) : Int) = (met : Int) := by omega
                    obtain ⟨na, nc, e1⟩ := own_is hC.on
                    obtain ⟨Y, hYY⟩ : ∃ Y, Y = mcY A G m (q * m + met) := ⟨_, rfl⟩
                    rw [← hYY] at e1 hyb hY
                    have hon := hC.on
                    rw [← hYY, e1] at hon
                    rw [e1] at g2
                    have hC2 := hC
                    rw [← hYY] at hC2
                    have HC := hide hC2
                    have HE1 := hide e1
                    have HON := hide hon
                    have HY := hide hY
                    subst heq
                    clear hC hC2 hD hBw hRm hE x2 t1 t2 t3 t4 e1 hon hY hYY hmc hnxt heq' hmt
                    go_wp2_with (at_builtin; refine wpList_append_own_at _ rfl _ _ 22 rfl W5.heap.size 3 i0 (.int .i64 0) 1 8 Try.underlying22 hi0 hz0 hz1 hz2 rfl (by decide) _ _ _ rfl ((unhide HON).alloc _) ⟨wr.heap.size, 0, none⟩ 1 1 [.int .i64 (nxt : Nat)] rfl rfl ?_ ?_ ?_ ?_ ?_ ?_)
                    · exact cell_1 (cell_new _ _ _)
                    · intro u hu; simp at hu; subst hu; rfl
                    · unfold maxLen; omega
                    · omega
                    · rw [sz_alloc]; omega
                    intro v' w9 r1 r2 _ r3
                    have hA := (unhide HC).pushN (x := nxt) (v' := v') (below1 wr _) (by rw [List.length_append, List.map_append]; first | exact r1 | (rw [hsz5]; exact r1)) (by rw [unhide HE1]; exact r2) (fun q hq => by
                      rw [unhide HE1]
                      rcases r3 with e | e
                      · rw [e] at hq; exact .inl hq
                      · rw [e] at hq; have := Option.some.inj hq; exact .inr (by omega))
                    rw [unhide HE1] at hA
                    obtain ⟨va, vc, rfl⟩ := own_is r1
                    have z1 := hA.1
                    have z2 := hA.2.1
                    have HA := hide hA.2.2
                    clear hA r1 r2 r3 HON HC g2 y0
                    go_wp2
                    go_roundw
                    case rel => exact ⟨c + 1, mc + 1, _, by omega, by omega, by go_num, by go_num, unhide T3, by rw [unhide HY]; exact unhide HA⟩
                    case measure => simp [intOf]; omega
                  · have heq' : ¬ ((mc : Nat) : Int) = (met : Int) := by omega
                    have T2 := hide (t2 heq)
                    have HC := hide hC
                    clear hC hD hBw hRm hE x2 t1 t2 t3 hmt g2
                    go_wp2
                    go_roundw
                    case rel => exact ⟨c + 1, met, _, by omega, by omega, rfl, by go_num, unhide T2, unhide HC⟩
                    case measure => simp [intOf]; omega
                · have hcl' : ¬ (c : Int) < (A.k : Int) := by omega
                  obtain rfl : c = A.k := by omega
                  have hmm : met = m := by
                    apply Nat.le_antisymm hme
                    apply Nat.le_of_not_lt
                    intro hlt2
                    have := (hmt met hlt2).1 ((unhide HMG).num.fst met hlt2).1
                    omega
                  subst hmm
                  have HC := hide hC
                  clear hC hD hBw hRm hE hmt
                  go_wp2
                  go_roundw
                  case rel => exact ⟨q + 1, _, by omega, by go_num, by rw [Nat.add_mul, Nat.one_mul]; exact unhide HC⟩
                  case measure => simp [intOf]; omega
            · have hqn' : ¬ (q : Int) < (A.n : Int) := by omega
              obtain rfl : q = A.n := by omega
              obtain ⟨g0, g1, g2, g3, -⟩ := hC.out.facts
              obtain ⟨x0, x1, x2, x3, z0, z1, z2, z3⟩ := hE.facts
              obtain ⟨na, nc, e1⟩ := own_is hC.on
              obtain ⟨va, vc, e2⟩ := own_is hC.ox
              have hon := hC.on
              have hox := hC.ox
              have hna := hC.na
              rw [mcY_len] at e1
              rw [mcX_len] at e2
              rw [mcY_len, e1] at hon
              rw [mcX_len, e2] at hox
              rw [e1, e2] at hna
              rw [e1] at g2
              rw [e2] at g0
              obtain ⟨yl, hyl2⟩ : ∃ yl, yl = A.n * m := ⟨_, rfl⟩
              rw [← hyl2] at g2 hon hna
              have hR4 := (((hE.put0 (u := .slice va 256 vc)).put1 (u := .int .i64 (m : Nat))).put2 (u := .slice na yl nc)).put3' (u := .slice (some ⟨ab, ao, none⟩) A.n ca)
              have hob : Obk (w.heap.size + 1) w7 ((((w7.setCell ⟨w.heap.size + 1, 0, none⟩ (.slice va 256 vc)).setCell ⟨w.heap.size + 1, 1, none⟩ (.int .i64 (m : Nat))).setCell ⟨w.heap.size + 1, 2, none⟩ (.slice na yl nc)).setCell ⟨w.heap.size + 1, 3, none⟩ (.slice (some ⟨ab, ao, none⟩) A.n ca)) := (((obk_put _ _).trans (obk_put _ _)).trans (obk_put _ _)).trans (obk_put _ _)
              have HR4 := hide hR4
              have HOB := hide hob
              have HBW := hide hBw
              have HON := hide hon
              have HOX := hide hox
              have HNA := hide hna
              have HY2 := hide hyl2
              clear hC hD hBw hE hRm e1 e2 hon hox hna hR4 hob hyl2
              go_wp2
              refine bodyPost_ret (dfa_ret (unhide HR4) rfl _ rfl) rfl ?_
              have hob := unhide HOB
              have hbw := unhide HBW
              refine ⟨_, _, m, rfl, ⟨hob.os.trans hbw.os, hob.tape.trans hbw.tape, hob.output.trans hbw.output, by rw [hob.size]; exact hbw.size, fun k hk => (hob.block k (by omega)).trans (hbw.block k hk)⟩, mg, G, unhide HMG, hmk, own_low (own_blk (unhide HOX) (fun r hr => hob.block r (by have := ((unhide HOX).lt r hr).1; omega))) (by omega), ?_, unhide HNA⟩
              rw [← unhide HY2]
              exact own_low (own_blk (unhide HON) (fun r hr => hob.block r (by have := ((unhide HON).lt r hr).1; omega))) (by omega)

end Go.Proofs.Ytjmajdfcfcgegaa
