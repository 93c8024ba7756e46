import Derived.Test.YtinhliecfjlocaaGreatPk11
import Derived.Deep.AppendLies
import Derived.Deep.RegionLaw
import Derived.Test.YtinhliecfjlocaaGreatPk19
import Derived.Deep.RegionHeld3
import Derived.Test.YtinhliecfjlocaaGreatPk10
namespace Go.Proofs.YtinhliecfjlocaaGreat
open Go.RowKit
theorem Obk.belC {g m : Nat} {a b : World} (h : Obk g a b) (hm : m ≤ g) : Below m a b := ⟨h.os, h.tape, h.output, by rw [h.size]; exact Nat.le_refl _, fun k hk => h.block k (by omega)⟩
theorem wrap_pos {pos base : Int} {k : Nat} (hp : In64' pos) (hk : k < 1024) : wrap64 (pos - base) = (k : Int) ↔ pos = wrap64 (base + k) := by
  unfold In64' at hp
  unfold wrap64
  omega
theorem ln_new (w : World) : (w.alloc (.cells #[.int .u64 0, .int .u64 0, .int .u64 0, .int .u64 0, .int .u64 0, .int .u64 0, .int .u64 0, .int .u64 0, .int .u64 0, .int .u64 0, .int .u64 0, .int .u64 0, .int .u64 0, .int .u64 0, .int .u64 0, .int .u64 0] 62)).rowIs w.heap.size 62 16 (lnW (fun _ => 0)) :=
  World.rowIs_alloc w #[.int .u64 0, .int .u64 0, .int .u64 0, .int .u64 0, .int .u64 0, .int .u64 0, .int .u64 0, .int .u64 0, .int .u64 0, .int .u64 0, .int .u64 0, .int .u64 0, .int .u64 0, .int .u64 0, .int .u64 0, .int .u64 0] _ _ (fun i hi => by
    match i, hi with
    | 0, _ => rfl
    | 1, _ => rfl
    | 2, _ => rfl
    | 3, _ => rfl
    | 4, _ => rfl
    | 5, _ => rfl
    | 6, _ => rfl
    | 7, _ => rfl
    | 8, _ => rfl
    | 9, _ => rfl
    | 10, _ => rfl
    | 11, _ => rfl
    | 12, _ => rfl
    | 13, _ => rfl
    | 14, _ => rfl
    | 15, _ => rfl
    | k + 16, h => exact absurd (show k + 16 < 16 from h) (by omega))
def LnD (base : Int) (n : Nat) (g : Nat → Nat) (D : List Int) : Prop := LnF g ∧ ∀ i : Nat, LnB g i = true ↔ (i < n ∧ wrap64 (base + i) ∈ D)
theorem LnD.nil (base : Int) (n : Nat) : LnD base n (fun _ => 0) [] := ⟨fun j => by simp, fun i => by simp [LnB]⟩
theorem LnD.yes {base : Int} {n : Nat} {g : Nat → Nat} {D : List Int} {z : Int} {k : Nat} (h : LnD base n g D) (hz : z = wrap64 (base + k)) (hk : k < n) (hn : n ≤ 1000) : LnD base n (lnP g k) (D ++ [z]) := by
  refine ⟨lnF_put h.1 k, fun i => ?_⟩
  rw [lnB_put, Bool.or_eq_true, h.2 i, decide_eq_true_iff, List.mem_append, List.mem_singleton]
  constructor
  · rintro (⟨h1, h2⟩ | rfl)
    · exact ⟨h1, .inl h2⟩
    · exact ⟨hk, .inr hz.symm⟩
  · rintro ⟨h1, h2 | h2⟩
    · exact .inl ⟨h1, h2⟩
    · right
      rw [hz] at h2
      unfold wrap64 at h2
      omega
theorem LnD.no {base : Int} {n : Nat} {g : Nat → Nat} {D : List Int} {z : Int} (h : LnD base n g D) (hz : ∀ k : Nat, k < n → z ≠ wrap64 (base + k)) : LnD base n g (D ++ [z]) := by
  refine ⟨h.1, fun i => ?_⟩
  rw [h.2 i, List.mem_append, List.mem_singleton]
  constructor
  · rintro ⟨h1, h2⟩; exact ⟨h1, .inl h2⟩
  · rintro ⟨h1, h2 | h2⟩
    · exact ⟨h1, h2⟩
    · exact absurd h2.symm (hz i h1)
def plD (pss : List (List Int)) (js : List Int) : List Int := js.flatMap fun j => pss[j.toNat]?.getD []
theorem plD_snoc (pss : List (List Int)) (js : List Int) (j : Int) : plD pss (js ++ [j]) = plD pss js ++ pss[j.toNat]?.getD [] := by simp [plD]
set_option maxHeartbeats 8000000 in
set_option maxRecDepth 100000 in
theorem linesAt_any (v tv : Value) (base : Int) (xss pss : List (List Int)) (ks js : List Int) (w : World) (hv : SegRd w v base xss ks pss) (htv : SlAt mI 0 0 w.heap.size w tv js) (hjs : ∀ j ∈ js, 0 ≤ j ∧ j < pss.length) (hn : xss.length ≤ 1000) (hjl : js.length ≤ 1048576) (hb : In64' base) (hp : ∀ k i : Nat, In64' ((pss[k]?.getD [])[i]?.getD 0)) :
    Calls Tryz.prog 58 #[v, tv] w fun e w' => ∃ (lv : Value) (h : Nat → Nat), e = .returned lv ∧ w'.ownsRow w.heap.size 68 2 lv (blkOf h 16).length (flB (blkOf h 16)) ∧ LnD base xss.length h (plD pss js) ∧ Below w.heap.size w w' := by
  obtain ⟨lv, kv, pv, rfl, h1, h2, h3⟩ := id hv
  obtain ⟨la, lc, rfl, -, -⟩ := id h1
  obtain ⟨ka, kc, rfl, -, -⟩ := id h2
  obtain ⟨pa, pc, rfl, hpl, hps⟩ := ss_at h3
  obtain ⟨ta, tc, rfl, -, htc⟩ := id htv
  obtain ⟨n, hnn⟩ : ∃ n, n = xss.length := ⟨_, rfl⟩
  rw [← hnn] at hn ⊢
  obtain ⟨W2, hW2⟩ : ∃ W2, W2 = (w.alloc (.cells #[.int .i64 base, .slice la n lc, .slice ka ks.length kc, .slice pa pss.length pc] 38)).alloc (.cells #[.int .u64 0, .int .u64 0, .int .u64 0, .int .u64 0, .int .u64 0, .int .u64 0, .int .u64 0, .int .u64 0, .int .u64 0, .int .u64 0, .int .u64 0, .int .u64 0, .int .u64 0, .int .u64 0, .int .u64 0, .int .u64 0] 62) := ⟨_, rfl⟩
  have hB2 : Below w.heap.size w W2 := by rw [hW2]; exact below2 w _ _
  have hz2 : W2.heap.size = w.heap.size + 2 := by rw [hW2, sz_alloc, sz_alloc]
  have hR2 : Row4 W2 w.heap.size 38 (.int .i64 base) (.slice la n lc) (.slice ka ks.length kc) (.slice pa pss.length pc) := by rw [hW2]; exact (Row4.new w _ _ _ _ _).alloc _
  have hS2 : W2.rowIs (w.heap.size + 1) 62 16 (lnW (fun _ => 0)) := by
    have := ln_new (w.alloc (.cells #[.int .i64 base, .slice la n lc, .slice ka ks.length kc, .slice pa pss.length pc] 38))
    rw [sz_alloc] at this
    rw [hW2]
    exact this
  have HPS : Hid (∀ W, Below w.heap.size w W → ∀ j : Nat, j < pss.length → ∃ b off sa sc, pa = some ⟨b, off, none⟩ ∧ W.cell? ⟨b, off + j, none⟩ = some (.slice sa (pss[j]?.getD []).length sc) ∧ SlAt mI 0 0 w.heap.size w (.slice sa (pss[j]?.getD []).length sc) (pss[j]?.getD [])) := fun W hW j hj => by
    obtain ⟨b, off, sa, sc, rfl, hb, hcell, hsl, -⟩ := hps j hj
    exact ⟨b, off, sa, sc, rfl, by rw [hW.cell (p := ⟨b, off + j, none⟩) hb]; exact hcell, hsl⟩
  have HTC : Hid (∀ W, Below w.heap.size w W → ∀ j : Nat, j < js.length → ∃ b off, ta = some ⟨b, off, none⟩ ∧ W.cell? ⟨b, off + j, none⟩ = some (.int .i64 (js[j]?.getD 0))) := fun W hW j hj => by
    obtain ⟨b, off, rfl, -, hb, hcell⟩ := htc (by omega)
    exact ⟨b, off, rfl, by rw [hW.cell (p := ⟨b, off + j, none⟩) hb]; exact hcell j hj⟩
  have HW2 := hide hW2
  have HB2 := hide hB2
  have HR2 := hide hR2
  have HS2 := hide hS2
  have HJS := hide hjs
  have HBI := hide hb
  have HPI := hide hp
  have HNN := hide hnn
  have hz2' : w.heap.size + 2 ≤ W2.heap.size := by omega
  clear h1 h2 h3 htc hps hW2 hB2 hR2 hS2 hz2 hv htv hjs hb hp hnn
  go_enter Tryz.func58, Tryz.ntmps58
  go_wp2_with fail
  rw [← unhide HW2]
  clear HW2
  go_loopw [13] (fun jv wr => ∃ (j : Nat) (g : Nat → Nat), j ≤ js.length ∧ jv = .int .i64 (j : Nat) ∧ wr.rowIs (w.heap.size + 1) 62 16 (lnW g) ∧ LnD base n g (plD pss (js.take j)) ∧ Obk (w.heap.size + 1) W2 wr) (fun jv _ => js.length - (intOf jv).toNat)
  case atStart => exact ⟨0, _, by omega, rfl, unhide HS2, LnD.nil _ _, ⟨rfl, rfl, rfl, rfl, fun _ _ => rfl⟩⟩
  case round =>
    clear HS2
    obtain ⟨j, g, hj, rfl, hS, hD, hob⟩ := hrel
    obtain ⟨w3, rfl⟩ : ∃ w3, w3 = wr := ⟨_, rfl⟩
    have hB3 : Below w.heap.size w w3 := (unhide HB2).trans (hob.belC (by omega))
    by_cases hjl : j < js.length
    · have hjl' : (j : Int) < (js.length : Int) := by omega
      obtain ⟨tb, to, rfl, z0⟩ := unhide HTC w3 hB3 j hjl
      obtain ⟨t, ht⟩ : ∃ t, t = js[j]?.getD 0 := ⟨_, rfl⟩
      have htm : t ∈ js := by rw [ht, List.getElem?_eq_getElem hjl]; exact List.getElem_mem hjl
      obtain ⟨ht0, ht1⟩ := unhide HJS t htm
      obtain ⟨q, rfl⟩ := Int.eq_ofNat_of_zero_le ht0
      have hql : q < pss.length := by omega
      have hql' : (q : Int) < (pss.length : Int) := by omega
      rw [← ht] at z0
      obtain ⟨pb, po, sa, sc, rfl, hpc, hpsl⟩ := unhide HPS w3 hB3 q hql
      obtain ⟨ps, hps⟩ : ∃ ps, ps = pss[q]?.getD [] := ⟨_, rfl⟩
      rw [← hps] at hpc hpsl
      have HPSI : Hid (∀ i : Nat, In64' (ps[i]?.getD 0)) := fun i => by rw [hps]; exact unhide HPI q i
      obtain ⟨a9, c9, e9, hsm, hc9⟩ := id hpsl
      cases e9
      unfold maxLen at hsm
      obtain ⟨y0, y1, y2, y3, -⟩ := Row4.facts (World.rowIs.of_block (unhide HR2) (hob.block w.heap.size (by omega)))
      have HSN : Hid (plD pss (js.take (j + 1)) = plD pss (js.take j) ++ ps) := by
        show plD pss _ = _
        rw [takeC_snoc hjl, ← ht, plD_snoc, hps]
        rfl
      have HD0 : Hid (LnD base n g (plD pss (js.take j) ++ ps.take 0)) := by rw [List.take_zero, List.append_nil]; exact hD
      have HS := hide hS
      have HOB := hide hob
      have HC9 := hide hc9
      clear hS hD hob hpsl hc9 hps ht htm hB3
      go_wp2_with fail
      go_loopw [23] (fun iv wx => ∃ (i : Nat) (g : Nat → Nat), i ≤ ps.length ∧ iv = .int .i64 (i : Nat) ∧ wx.rowIs (w.heap.size + 1) 62 16 (lnW g) ∧ LnD base n g (plD pss (js.take j) ++ ps.take i) ∧ Obk (w.heap.size + 1) W2 wx) (fun iv _ => ps.length - (intOf iv).toNat)
      case atStart => exact ⟨0, g, by omega, rfl, unhide HS, unhide HD0, unhide HOB⟩
      case round =>
        clear HS HD0 HOB y0 y1 y2 y3 z0 hpc
        obtain ⟨i, g, hi, rfl, hS, hD, hob⟩ := hrel
        obtain ⟨w4, rfl⟩ : ∃ w4, w4 = wr := ⟨_, rfl⟩
        by_cases hil : i < ps.length
        · have hil' : (i : Int) < (ps.length : Int) := by omega
          obtain ⟨sb, so, rfl, -, hsb, hsc⟩ := unhide HC9 (by omega)
          have x0 := hsc i hil
          have hB4 : Below w.heap.size w w4 := (unhide HB2).trans (hob.belC (by omega))
          obtain ⟨z, hz⟩ : ∃ z, z = ps[i]?.getD 0 := ⟨_, rfl⟩
          have hzi := unhide HPSI i
          rw [← hz] at x0 hzi
          unfold mI at x0
          have x1 : w4.cell? ⟨sb, so + i, none⟩ = some (.int .i64 z) := by rw [hB4.cell (p := ⟨sb, so + i, none⟩) hsb]; exact x0
          obtain ⟨y0, y1, y2, y3, -⟩ := Row4.facts (World.rowIs.of_block (unhide HR2) (hob.block w.heap.size (by omega)))
          have HTK : Hid (ps.take (i + 1) = ps.take i ++ [z]) := by rw [hz]; exact takeC_snoc hil
          obtain ⟨d, hd⟩ : ∃ d, d = wrap64 (z - base) := ⟨_, rfl⟩
          have HDD := hide hd
          by_cases hd0 : 0 ≤ d
          · by_cases hdn : d < (n : Int)
            · obtain ⟨k, hk⟩ := Int.eq_ofNat_of_zero_le hd0
              have hkn : k < n := by omega
              have hzk : z = wrap64 (base + k) := (wrap_pos hzi (by omega)).1 (by rw [← hd, hk])
              have HD2 : Hid (LnD base n (lnP g k) (plD pss (js.take j) ++ ps.take (i + 1))) := by rw [unhide HTK, ← List.append_assoc]; exact hD.yes hzk hkn hn
              have HPU := hide (lnPut_any (w.heap.size + 1) k g w4 hD.1 (by omega) hS)
              have HOB := hide hob
              clear hS hD hob hsc x0 hB4 hzk hzi hz
              have hd0' : (0 : Int) ≤ wrap64 (z - base) := by rw [← hd]; exact hd0
              have hdn' : wrap64 (z - base) < (n : Int) := by rw [← hd]; exact hdn
              have hkw : wrap64 (z - base) = (k : Int) := by rw [← hd]; exact hk
              clear hd hd0 hdn hk
              go_wp2_with fail
              refine (unhide HPU).mono ?_
              rintro e w5 ⟨rfl, hS5, hob5⟩
              have HS5 := hide hS5
              have HOB5 := hide ((unhide HOB).trans hob5)
              clear hS5 hob5 HPU HOB x1 y0 y1 y2 y3
              go_wp2
              go_roundw
              case rel => exact ⟨i + 1, _, by omega, by go_num, unhide HS5, unhide HD2, unhide HOB5⟩
              case measure => simp [intOf]; omega
            · have HD2 : Hid (LnD base n g (plD pss (js.take j) ++ ps.take (i + 1))) := by
                rw [unhide HTK, ← List.append_assoc]
                refine hD.no fun k hk e9 => ?_
                have := (wrap_pos hzi (by omega : k < 1024)).2 e9
                omega
              have HS := hide hS
              have HOB := hide hob
              have hd0' : (0 : Int) ≤ wrap64 (z - base) := by rw [← hd]; exact hd0
              have hdn' : ¬ wrap64 (z - base) < (n : Int) := by rw [← hd]; exact hdn
              clear hS hD hob hsc x0 hB4 hzi hz hd hd0 hdn
              go_wp2
              go_roundw
              case rel => exact ⟨i + 1, g, by omega, by go_num, unhide HS, unhide HD2, unhide HOB⟩
              case measure => simp [intOf]; omega
              
          · have HD2 : Hid (LnD base n g (plD pss (js.take j) ++ ps.take (i + 1))) := by
              rw [unhide HTK, ← List.append_assoc]
              refine hD.no fun k hk e9 => ?_
              have := (wrap_pos hzi (by omega : k < 1024)).2 e9
              omega
            have HS := hide hS
            have HOB := hide hob
            have hd0' : ¬ (0 : Int) ≤ wrap64 (z - base) := by rw [← hd]; exact hd0
            clear hS hD hob hsc x0 hB4 hzi hz hd hd0
            go_wp2
            go_roundw
            case rel => exact ⟨i + 1, g, by omega, by go_num, unhide HS, unhide HD2, unhide HOB⟩
            case measure => simp [intOf]; omega
            
        · have hil' : ¬ (i : Int) < (ps.length : Int) := by omega
          have HD2 : Hid (LnD base n g (plD pss (js.take (j + 1)))) := by
            rw [unhide HSN]
            have e9 : ps.take i = ps := List.take_of_length_le (by omega)
            rw [e9] at hD
            exact hD
          have HS := hide hS
          have HOB := hide hob
          clear hS hD hob
          go_wp2
          go_roundw
          case rel => exact ⟨j + 1, g, by omega, by go_num, unhide HS, unhide HD2, unhide HOB⟩
          case measure => simp [intOf]; omega
    · have hjl' : ¬ (j : Int) < (js.length : Int) := by omega
      have HD : Hid (LnD base n g (plD pss js)) := by have e9 : js.take j = js := List.take_of_length_le (by omega); rw [e9] at hD; exact hD
      have HBL := hide (blocks_any (w.heap.size + 1) g w3 hS)
      have HB3 := hide hB3
      have hz3 := hB3.size
      clear hS hD hob hB3
      go_wp2_with fail
      refine (unhide HBL).mono ?_
      rintro e w5 ⟨lv, rfl, hown, hb5⟩
      have hz5 := hb5.size
      obtain ⟨oa, oc, e1⟩ := own_is hown
      subst e1
      have HX : Hid (w5.ownsRow w.heap.size 68 2 (.slice oa (blkOf g 16).length oc) (blkOf g 16).length (flB (blkOf g 16)) ∧ Below w.heap.size w w5) := ⟨own_low hown hz3, (unhide HB3).trans (hb5.mono hz3)⟩
      obtain ⟨bl, hbl⟩ : ∃ bl, bl = (blkOf g 16).length := ⟨_, rfl⟩
      rw [← hbl]
      have HBLN := hide hbl
      clear hown hb5 HBL hbl
      go_wp2
      go_ret
      rw [unhide HBLN]
      exact ⟨_, g, rfl, (unhide HX).1, unhide HD, (unhide HX).2⟩
def jsOf (ks : List Int) (x : Int) (j : Nat) : List Int := ((List.range j).filter (fun i => decide (ks[i]?.getD 0 = x))).map (fun i : Nat => (i : Int))
theorem jsOf_yes {ks : List Int} {x : Int} {j : Nat} (h : ks[j]?.getD 0 = x) : jsOf ks x (j + 1) = jsOf ks x j ++ [(j : Int)] := by
  unfold jsOf
  rw [List.range_succ, List.filter_append, List.map_append]
  congr 1
  rw [List.filter_cons_of_pos (by simpa using h)]
  rfl
theorem jsOf_no {ks : List Int} {x : Int} {j : Nat} (h : ks[j]?.getD 0 ≠ x) : jsOf ks x (j + 1) = jsOf ks x j := by
  unfold jsOf
  rw [List.range_succ, List.filter_append, List.map_append]
  rw [List.filter_cons_of_neg (by simpa using h)]
  simp
theorem jsOf_mem {ks : List Int} {x : Int} {j : Nat} {z : Int} : z ∈ jsOf ks x j ↔ ∃ i : Nat, i < j ∧ ks[i]?.getD 0 = x ∧ z = (i : Int) := by
  unfold jsOf
  rw [List.mem_map]
  constructor
  · rintro ⟨i, hi, rfl⟩
    rw [List.mem_filter, List.mem_range] at hi
    exact ⟨i, hi.1, by simpa using hi.2, rfl⟩
  · rintro ⟨i, h1, h2, rfl⟩
    exact ⟨i, List.mem_filter.2 ⟨List.mem_range.2 h1, by simpa using h2⟩, rfl⟩
theorem jsOf_len (ks : List Int) (x : Int) (j : Nat) : (jsOf ks x j).length ≤ j := by
  unfold jsOf
  rw [List.length_map]
  exact Nat.le_trans (List.length_filter_le _ _) (by simp)
theorem plD_lst {base : Int} {ks : List Int} {pss : List (List Int)} {x : Int} {i : Nat} : wrap64 (base + i) ∈ plD pss (jsOf ks x (min ks.length pss.length)) ↔ Lst base ks pss x i := by
  unfold plD Lst
  rw [List.mem_flatMap]
  constructor
  · rintro ⟨z, hz, hm⟩
    obtain ⟨j, h1, h2, rfl⟩ := jsOf_mem.1 hz
    exact ⟨j, by omega, by omega, h2, by simpa using hm⟩
  · rintro ⟨j, h1, h2, h3, h4⟩
    exact ⟨(j : Int), jsOf_mem.2 ⟨j, by omega, h3, rfl⟩, by simpa using h4⟩
structure PlM (w : World) (lo : Nat) (dom : Int → Bool) (m : Int → Value) (js : Int → List Int) : Prop where
  own : ∀ x, In64' x → dom x = true → w.ownsRow lo 3 1 (m x) (js x).length ((js x).map mI)
  ap : ∀ x y, In64' x → In64' y → dom x = true → dom y = true → x ≠ y → ∀ q, (m x).ownBlock = some q → (m y).ownBlock ≠ some q
theorem PlM.keep {w w' : World} {lo : Nat} {dom : Int → Bool} {m : Int → Value} {js : Int → List Int} (h : PlM w lo dom m js) (hb : ∀ k, lo ≤ k → k < w.heap.size → w'.heap[k]? = w.heap[k]?) : PlM w' lo dom m js :=
  ⟨fun x hx hd => own_blk (h.own x hx hd) (fun q hq => by have := (h.own x hx hd).lt q hq; exact hb q this.1 this.2), h.ap⟩
theorem PlM.start (w : World) (lo : Nat) (dom : Int → Bool) (ks : List Int) : PlM w lo dom (fun _ => nilV) (fun x => jsOf ks x 0) := ⟨fun x _ _ => World.ownsRow_nil _ _ _ _, fun x y _ _ _ _ _ q hq => by cases hq⟩
theorem PlM.skip {w : World} {lo : Nat} {dom : Int → Bool} {m : Int → Value} {ks : List Int} {j : Nat} (h : PlM w lo dom m (fun x => jsOf ks x j)) (hd : dom (ks[j]?.getD 0) = false) : PlM w lo dom m (fun x => jsOf ks x (j + 1)) :=
  ⟨fun x hx hdx => by
    have : jsOf ks x (j + 1) = jsOf ks x j := jsOf_no (fun e => by rw [e, hdx] at hd; cases hd)
    rw [this]
    exact h.own x hx hdx, h.ap⟩
theorem PlM.step {w w7 : World} {MB n lo j gg cap : Nat} {dom : Int → Bool} {m : Int → Value} {ks : List Int} {x : Int} (hM : MpAt w MB n dom m) (hP : PlM w lo dom m (fun x => jsOf ks x j)) (hMl : MB < lo) (hlo : lo ≤ w.heap.size) (hn : n < maxLen) (hx : In64' x) (hd : dom x = true) (hk : ks[j]?.getD 0 = x) {o : Obj} {t : TypeId} {WA : World} (hWA : Pushd w WA o) (ht : Tryz.prog.underlying t = some (.map 3 34))
    (r1 : w7.ownsRow lo 3 1 (.slice (some ⟨gg, 0, none⟩) ((jsOf ks x j).length + 1) cap) ((jsOf ks x j).length + 1) ((jsOf ks x j).map mI ++ [.int .i64 (j : Nat)])) (r2 : WA.grownBy w7 (m x).ownBlock) (r3 : (m x).ownBlock = some gg ∨ gg = w.heap.size + 1) :
    ∃ w8, (Instr.mapUpdate t (.map (some MB)) (.int .i64 x) (.slice (some ⟨gg, 0, none⟩) ((jsOf ks x j).length + 1) cap)).run Tryz.prog w7 = .ok () w8 ∧ (∃ m', MpAt w8 MB (n + 1) dom m' ∧ PlM w8 lo dom m' (fun x => jsOf ks x (j + 1))) ∧ FrO (fun k => k = MB ∨ lo ≤ k) w w8 := by
  have hblk : ∀ k, k < w.heap.size → (m x).ownBlock ≠ some k → w7.heap[k]? = w.heap[k]? := fun k hk h => (r2.block k (by have := hWA.size; omega) (fun e => h e.symm)).trans (hWA.old hk)
  have hxo := hP.own x hx hd
  have hM7 : MpAt w7 MB n dom m := hM.keep (hblk MB (by omega) (fun e => by have := (hxo.lt MB e).1; omega))
  obtain ⟨w8, hp, hM8, hg⟩ := hM7.put (t := t) (e := 34) ht hn hx (.slice (some ⟨gg, 0, none⟩) ((jsOf ks x j).length + 1) cap)
  have hdd : (fun y => if y = x then true else dom y) = dom := by
    funext y
    by_cases e : y = x
    · rw [if_pos e, e, hd]
    · rw [if_neg e]
  rw [hdd] at hM8
  have hz7 := r2.size
  have hz8 := hg.size
  have hzA := hWA.size
  refine ⟨w8, hp, ⟨_, hM8, ⟨fun y hy hdy => ?_, fun y z hy hz hdy hdz hyz q hq => ?_⟩⟩, ?_⟩
  · by_cases e : y = x
    · subst e
      simp only [if_pos]
      rw [jsOf_yes hk, List.length_append, List.map_append]
      exact own_blk r1 (fun q hq => hg.block q (r1.lt q hq).2 (fun e9 => by
        have := (r1.lt q hq).1
        cases e9
        omega))
    · simp only [if_neg e]
      rw [jsOf_no (fun e9 => e (e9.symm.trans hk))]
      have hyo := hP.own y hy hdy
      refine own_blk hyo (fun q hq => ?_)
      have hql := hyo.lt q hq
      rw [hg.block q (by omega) (fun e9 => by cases e9; omega)]
      exact hblk q hql.2 (hP.ap y x hy hx hdy hd e q hq)
  · by_cases e : y = x
    · have e2 : z ≠ x := fun e9 => hyz (e.trans e9.symm)
      simp only [if_pos e] at hq
      simp only [if_neg e2]
      have : q = gg := by cases hq; rfl
      subst this
      intro h9
      rcases r3 with k | k
      · exact hP.ap z x hz hx hdz hd e2 q h9 k
      · have := ((hP.own z hz hdz).lt q h9).2; omega
    · simp only [if_neg e] at hq
      by_cases e2 : z = x
      · simp only [if_pos e2]
        intro h9
        have : q = gg := by cases h9; rfl
        subst this
        rcases r3 with k | k
        · exact hP.ap y x hy hx hdy hd e q hq k
        · have := ((hP.own y hy hdy).lt q hq).2; omega
      · simp only [if_neg e2]
        exact hP.ap y z hy hz hdy hdz hyz q hq
  · refine ⟨?_, ?_, ?_, by omega, fun k hk => ?_⟩
    · exact hg.os.trans (r2.os.trans hWA.os)
    · exact hg.tape.trans (r2.tape.trans hWA.tape)
    · exact hg.output.trans (r2.output.trans hWA.output)
    · have k1 : k ≠ MB := fun e => hk (.inl e)
      have k2 : k < lo := by apply Nat.lt_of_not_le; intro e; exact hk (.inr e)
      rw [hg.block k (by omega) (fun e => k1 (Option.some.inj e))]
      exact hblk k (by omega) (fun e => by have := (hxo.lt k e).1; omega)
theorem wf_in {x : Int} (h : (Lit.int .i64 x).wf = true) : In64' x := by
  simp [Lit.wf, IntKind.min, IntKind.max, IntKind.signed, IntKind.bits] at h
  unfold In64'
  omega
theorem ranges_le {w : World} {b r n : Nat} {D : DataW Value} {left : Lit → Bool} {cnt : Nat} (h : w.ranges Tryz.prog 3 rHold b r n D left cnt) : cnt ≤ n := by
  obtain ⟨es, cl, si, se, c0, -, -, h1, -, -, -, h2, -⟩ := h
  have : (leftOf es se).size ≤ es.size := by unfold leftOf; exact Array.size_filter_le
  omega
structure LsM (w : World) (lo : Nat) (base : Int) (n : Nat) (pss : List (List Int)) (dom left : Int → Bool) (js : Int → List Int) (mL : Int → Value) : Prop where
  yes : ∀ x, In64' x → dom x = true → left x = false → ∃ h, LnD base n h (plD pss (js x)) ∧ w.ownsRow lo 68 2 (mL x) (blkOf h 16).length (flB (blkOf h 16))
  no : ∀ x, In64' x → left x = true → dom x = true ∧ mL x = nilV
theorem LsM.start (w : World) (lo : Nat) (base : Int) (n : Nat) (pss : List (List Int)) (dom left : Int → Bool) (js : Int → List Int) (hl : ∀ x, In64' x → left x = dom x) : LsM w lo base n pss dom left js (fun _ => nilV) :=
  ⟨fun x hx hd hf => absurd hf (by rw [hl x hx, hd]; simp), fun x hx h => ⟨by rw [← hl x hx]; exact h, rfl⟩⟩
theorem LsM.keep {w w' : World} {lo : Nat} {base : Int} {n : Nat} {pss : List (List Int)} {dom left : Int → Bool} {js : Int → List Int} {mL : Int → Value} (h : LsM w lo base n pss dom left js mL) (hb : ∀ k, lo ≤ k → k < w.heap.size → w'.heap[k]? = w.heap[k]?) : LsM w' lo base n pss dom left js mL := by
  refine ⟨fun x hx hd hf => ?_, h.no⟩
  obtain ⟨g, h1, h2⟩ := h.yes x hx hd hf
  exact ⟨g, h1, own_blk h2 (fun q hq => hb q (h2.lt q hq).1 (h2.lt q hq).2)⟩
theorem same_i (x y : Int) : (Lit.int .i64 y).sameKey (.int .i64 x) = decide (y = x) := by
  by_cases e : y = x
  · subst e; simp [Lit.sameKey]
  · rw [Maps.sameKey_ne (by intro k; exact e (by simpa using k))]; simp [e]
theorem LsM.skip {w : World} {lo : Nat} {base : Int} {n : Nat} {pss : List (List Int)} {dom left left' : Int → Bool} {js : Int → List Int} {mL : Int → Value} {x : Int} (h : LsM w lo base n pss dom left js mL) (hx : In64' x) (hl : left x = true) (hj : js x = []) (hl' : ∀ y, left' y = (left y && !decide (y = x))) : LsM w lo base n pss dom left' js mL := by
  refine ⟨fun y hy hd hf => ?_, fun y hy hf => ?_⟩
  · by_cases e : y = x
    · subst e
      refine ⟨fun _ => 0, ?_, ?_⟩
      · rw [hj]; exact LnD.nil _ _
      · rw [(h.no y hx hl).2, blk_zero (fun _ _ => rfl)]; exact World.ownsRow_nil _ _ _ _
    · exact h.yes y hy hd (by rw [hl' y] at hf; simpa [e] using hf)
  · rw [hl' y] at hf
    exact h.no y hy (by simp at hf; exact hf.1)
theorem LsM.add {w : World} {lo : Nat} {base : Int} {n : Nat} {pss : List (List Int)} {dom left left' : Int → Bool} {js : Int → List Int} {mL : Int → Value} {x : Int} (h : LsM w lo base n pss dom left js mL) (hl' : ∀ y, left' y = (left y && !decide (y = x))) {v : Value} {g : Nat → Nat} (h1 : LnD base n g (plD pss (js x))) (h2 : w.ownsRow lo 68 2 v (blkOf g 16).length (flB (blkOf g 16))) : LsM w lo base n pss dom left' js (fun y => if y = x then v else mL y) := by
  refine ⟨fun y hy hd hf => ?_, fun y hy hf => ?_⟩
  · by_cases e : y = x
    · subst e
      exact ⟨g, h1, by simp only [if_pos]; exact h2⟩
    · simp only [if_neg e]
      exact h.yes y hy hd (by rw [hl' y] at hf; simpa [e] using hf)
  · rw [hl' y] at hf
    simp at hf
    rw [if_neg hf.2]
    exact h.no y hy hf.1
def LlR (e : Ending) (w w' : World) (base : Int) (n : Nat) (ks : List Int) (pss qss : List (List Int)) : Prop :=
  ∃ (mb nn : Nat) (dom : Int → Bool) (mL : Int → Value) (hw : Int → Nat → Nat), e = .returned (.map (some mb)) ∧ MpAt w' mb nn dom mL ∧ w.heap.size ≤ mb ∧ Below w.heap.size w w' ∧ (∀ t, LnF (hw t)) ∧ ∀ c t, c < qss.length → t ∈ qss[c]?.getD [] → LnD base n (hw t) (plD pss (jsOf ks t (min ks.length pss.length))) ∧ w'.ownsRow w.heap.size 68 2 (mL t) (blkOf (hw t) 16).length (flB (blkOf (hw t) 16))
theorem LsM.fin {w w' : World} {lo mb nn : Nat} {base : Int} {n : Nat} {ks : List Int} {pss qss : List (List Int)} {dom left domL : Int → Bool} {mL : Int → Value} (h : LsM w' lo base n pss dom left (fun x => jsOf ks x (min ks.length pss.length)) mL) (hl : ∀ x, left x = false) (hdom : ∀ x, dom x = true ↔ ∃ c', c' < qss.length ∧ x ∈ qss[c']?.getD []) (hq : ∀ k i : Nat, In64' ((qss[k]?.getD [])[i]?.getD 0)) (hM : MpAt w' mb nn domL mL) (hlo : w.heap.size ≤ lo) (hmb : w.heap.size ≤ mb) (hB : Below w.heap.size w w') : LlR (.returned (.map (some mb))) w w' base n ks pss qss := by
  have H : ∀ t : Int, ∃ g : Nat → Nat, LnF g ∧ ∀ c, c < qss.length → t ∈ qss[c]?.getD [] → LnD base n g (plD pss (jsOf ks t (min ks.length pss.length))) ∧ w'.ownsRow w.heap.size 68 2 (mL t) (blkOf g 16).length (flB (blkOf g 16)) := fun t => by
    by_cases e : ∃ c', c' < qss.length ∧ t ∈ qss[c']?.getD []
    · obtain ⟨c, h1, h2⟩ := id e
      have ht : In64' t := by
        obtain ⟨i, hi, h3⟩ := List.getElem_of_mem h2
        have := hq c i
        rw [List.getElem?_eq_getElem hi] at this
        simpa [h3] using this
      obtain ⟨g, g1, g2⟩ := h.yes t ht ((hdom t).2 e) (hl t)
      exact ⟨g, g1.1, fun _ _ _ => ⟨g1, own_low g2 hlo⟩⟩
    · exact ⟨fun _ => 0, fun j => by simp, fun c h1 h2 => absurd ⟨c, h1, h2⟩ e⟩
  obtain ⟨hw, hh⟩ := Classical.axiomOfChoice H
  exact ⟨mb, nn, domL, mL, hw, rfl, hM, hmb, hB, fun t => (hh t).1, fun c t h1 h2 => (hh t).2 c h1 h2⟩
set_option maxHeartbeats 8000000 in
set_option maxRecDepth 100000 in
theorem listedLines_any (v u : Value) (base : Int) (xss pss qss : List (List Int)) (ks : List Int) (w : World) (hv : SegRd w v base xss ks pss) (hu : SsAt mI 0 w.heap.size w u qss) (hr : Rch xss ks pss qss) (hb : In64' base) (hk : ∀ i : Nat, In64' (ks[i]?.getD 0)) (hp : ∀ k i : Nat, In64' ((pss[k]?.getD [])[i]?.getD 0)) (hqi : ∀ k i : Nat, In64' ((qss[k]?.getD [])[i]?.getD 0)) :
    Calls Tryz.prog 28 #[v, .agg #[u]] w fun e w' => LlR e w w' base xss.length ks pss qss := by
  have hmm := @run_makeMap Tryz.prog
  have hzz : ∀ W : World, (zeroValue 34).run Tryz.prog W = .ok nilV W := fun W => by kernel_rfl
  obtain ⟨i0, hi, hz0, hz1, hz2⟩ := info_parts Tryz.zinInt
  obtain ⟨lv, kv, pv, rfl, h1, h2, h3⟩ := id hv
  obtain ⟨la, lc, rfl, -, -⟩ := id h1
  obtain ⟨nl, hnl⟩ : ∃ nl, nl = xss.length := ⟨_, rfl⟩
  have HNL := hide hnl
  rw [← hnl]
  obtain ⟨ka, kc, rfl, -, hkc⟩ := id h2
  obtain ⟨pa, pc, rfl, hpl, -⟩ := ss_at h3
  obtain ⟨ua, uc, rfl, hul, hus⟩ := ss_at hu
  obtain ⟨W3, hW3⟩ : ∃ W3, W3 = ((w.alloc (.cells #[.int .i64 base, .slice la xss.length lc, .slice ka ks.length kc, .slice pa pss.length pc] 38)).alloc (.cells #[.slice ua qss.length uc] 31)).alloc (.map #[] 0) := ⟨_, rfl⟩
  have hB3 : Below w.heap.size w W3 := by rw [hW3]; exact (below2 w _ _).trans ((below1 _ _).mono (by rw [sz_alloc, sz_alloc]; omega))
  have hz3 : W3.heap.size = w.heap.size + 3 := by rw [hW3, sz_alloc, sz_alloc, sz_alloc]
  have hR3 : Row4 W3 w.heap.size 38 (.int .i64 base) (.slice la xss.length lc) (.slice ka ks.length kc) (.slice pa pss.length pc) := by rw [hW3]; exact ((Row4.new w _ _ _ _ _).alloc _).alloc _
  have hq : ∀ o : Obj, (((w.alloc (.cells #[.int .i64 base, .slice la xss.length lc, .slice ka ks.length kc, .slice pa pss.length pc] 38)).alloc (.cells #[.slice ua qss.length uc] 31)).alloc o).cell? ⟨w.heap.size + 1, 0, none⟩ = some (.slice ua qss.length uc) := fun o => by
    have := (pushd_al (w.alloc (.cells #[.int .i64 base, .slice la xss.length lc, .slice ka ks.length kc, .slice pa pss.length pc] 38)) (.cells #[.slice ua qss.length uc] 31)).news 0 _ rfl
    rw [sz_alloc] at this
    rw [(below1 _ o).cell (p := ⟨w.heap.size + 1, 0, none⟩) (by rw [sz_alloc, sz_alloc]; show w.heap.size + 1 < _; omega)]
    exact this
  have hq3 : W3.cell? ⟨w.heap.size + 1, 0, none⟩ = some (.slice ua qss.length uc) := by rw [hW3]; exact hq _
  have hMp : MpAt W3 (w.heap.size + 2) 0 (fun _ => false) (fun _ => nilV) := by
    have := MpAt.new ((w.alloc (.cells #[.int .i64 base, .slice la xss.length lc, .slice ka ks.length kc, .slice pa pss.length pc] 38)).alloc (.cells #[.slice ua qss.length uc] 31))
    rw [sz_alloc, sz_alloc] at this
    rw [hW3]
    exact this
  have HUS : Hid (∀ W, Below w.heap.size w W → ∀ j : Nat, j < qss.length → ∃ b off sa sc, ua = some ⟨b, off, none⟩ ∧ W.cell? ⟨b, off + j, none⟩ = some (.slice sa (qss[j]?.getD []).length sc) ∧ SlAt mI 0 0 w.heap.size w (.slice sa (qss[j]?.getD []).length sc) (qss[j]?.getD [])) := fun W hW j hj => by
    obtain ⟨b, off, sa, sc, rfl, hb, hcell, hsl, -⟩ := hus j hj
    exact ⟨b, off, sa, sc, rfl, by rw [hW.cell (p := ⟨b, off + j, none⟩) hb]; exact hcell, hsl⟩
  have HKC : Hid (∀ j : Nat, j < ks.length → ∃ b off, ka = some ⟨b, off, none⟩ ∧ ∀ W, Below w.heap.size w W → W.cell? ⟨b, off + j, none⟩ = some (.int .i64 (ks[j]?.getD 0))) := fun j hj => by
    obtain ⟨b, off, rfl, -, hb, hcell⟩ := hkc (by omega)
    exact ⟨b, off, rfl, fun W hW => by rw [hW.cell (p := ⟨b, off + j, none⟩) hb]; exact hcell j hj⟩
  have hql := hr.2.2.2.1
  have hkl := hr.2.1
  have HQC := hide hr.2.2.2.2
  have HW3 := hide hW3
  have HB3 := hide hB3
  have HR3 := hide hR3
  have HQ3 := hide hq3
  have HMP := hide hMp
  have HV := hide hv
  have HBI := hide hb
  have HKI := hide hk
  have HPI := hide hp
  have HQI := hide hqi
  have hn := hr.1
  have hz3' : w.heap.size + 3 ≤ W3.heap.size := by omega
  obtain ⟨k0, k1, k2, k3, -⟩ := hR3.facts
  have hqm := hq (.map #[] 0)
  clear h1 h2 h3 hkc hus hW3 hB3 hR3 hq3 hMp hv hb hk hp hqi hr hu hz3 hq
  go_enter Tryz.func28, Tryz.ntmps28
  go_wp2_with fail
  rw [← unhide HW3]
  clear HW3 hqm
  go_loopw [20] (fun cv wr => ∃ (c n : Nat) (dom : Int → Bool), c ≤ qss.length ∧ cv = .int .i64 (c : Nat) ∧ n ≤ c * 1000 ∧ MpAt wr (w.heap.size + 2) n dom (fun _ => nilV) ∧ (∀ x, dom x = true ↔ ∃ c', c' < c ∧ x ∈ qss[c']?.getD []) ∧ FrO (fun k => k = w.heap.size + 2 ∨ w.heap.size + 3 ≤ k) W3 wr) (fun cv _ => qss.length - (intOf cv).toNat)
  case atStart => exact ⟨0, 0, _, by omega, rfl, by omega, unhide HMP, fun x => by simp, FrO.refl _ _⟩
  case round =>
    clear HMP
    obtain ⟨c, n, dom, hc, rfl, hnc, hMp, hdom, hfr⟩ := hrel
    obtain ⟨w4, rfl⟩ : ∃ w4, w4 = wr := ⟨_, rfl⟩
    have hB4 : Below w.heap.size w w4 := (unhide HB3).trans (hfr.below (fun k hk hg => by rcases hg with q | q <;> omega))
    by_cases hcl : c < qss.length
    · have hcl' : (c : Int) < (qss.length : Int) := by omega
      obtain ⟨qb, qo, sa, sc, rfl, z0, hqs⟩ := unhide HUS w4 hB4 c hcl
      obtain ⟨ts, hts⟩ : ∃ ts, ts = qss[c]?.getD [] := ⟨_, rfl⟩
      rw [← hts] at z0 hqs
      have htl : ts.length ≤ 1000 := by rw [hts]; exact unhide HQC c hcl
      have HTI : Hid (∀ i : Nat, In64' (ts[i]?.getD 0)) := fun i => by rw [hts]; exact unhide HQI c i
      have HTS := hide hts
      have HDOM := hide hdom
      have HMP := hide hMp
      have HFR := hide hfr
      have HQS := hide hqs
      have hnc2 : n ≤ 1000000 := by omega
      clear hMp hdom hfr hB4 hts hqs
      go_wp2_with fail
      go_loopw [26] (fun kv wx => ∃ (k n' : Nat) (dom' : Int → Bool), k ≤ ts.length ∧ kv = .int .i64 (k : Nat) ∧ n' ≤ n + k ∧ MpAt wx (w.heap.size + 2) n' dom' (fun _ => nilV) ∧ (∀ x, dom' x = true ↔ (dom x = true ∨ x ∈ ts.take k)) ∧ FrO (fun k => k = w.heap.size + 2 ∨ w.heap.size + 3 ≤ k) W3 wx) (fun kv _ => ts.length - (intOf kv).toNat)
      case atStart => exact ⟨0, n, dom, by omega, rfl, by omega, unhide HMP, fun x => by simp, unhide HFR⟩
      case round =>
        clear HMP HFR z0
        obtain ⟨k, n', dom', hk, rfl, hn', hMp, hdom', hfr⟩ := hrel
        obtain ⟨w5, rfl⟩ : ∃ w5, w5 = wr := ⟨_, rfl⟩
        have hB5 : Below w.heap.size w w5 := (unhide HB3).trans (hfr.below (fun k hk hg => by rcases hg with q | q <;> omega))
        by_cases hkl2 : k < ts.length
        · have hkl2' : (k : Int) < (ts.length : Int) := by omega
          obtain ⟨a9, c9, e9, -, hc9⟩ := unhide HQS
          cases e9
          obtain ⟨tb, to, rfl, -, htb, htc⟩ := hc9 (by omega)
          have z1 : w5.cell? ⟨tb, to + k, none⟩ = some (.int .i64 (ts[k]?.getD 0)) := by rw [hB5.cell (p := ⟨tb, to + k, none⟩) htb]; exact htc k hkl2
          obtain ⟨t, ht⟩ : ∃ t, t = ts[k]?.getD 0 := ⟨_, rfl⟩
          have hti : In64' t := by rw [ht]; exact unhide HTI k
          rw [← ht] at z1
          obtain ⟨w6, hput, hMp6, hg6⟩ := hMp.put (t := 100) (e := 34) Tryz.underlying100 (by unfold maxLen; omega) hti nilV
          have hMp6 : MpAt w6 (w.heap.size + 2) (n' + 1) (fun y => if y = t then true else dom' y) (fun _ => nilV) := by simpa using hMp6
          have hdom6 : ∀ x, (if x = t then true else dom' x) = true ↔ (dom x = true ∨ x ∈ ts.take (k + 1)) := fun x => by
            rw [takeC_snoc hkl2, ← ht, List.mem_append, List.mem_singleton]
            by_cases e : x = t
            · simp [e]
            · simp only [e, if_false, or_false]; exact hdom' x
          have hfr6 : FrO (fun k => k = w.heap.size + 2 ∨ w.heap.size + 3 ≤ k) W3 w6 := hfr.trans ⟨hg6.os, hg6.tape, hg6.output, hg6.size, fun q hq => hg6.block q (by have := hfr.size; apply Nat.lt_of_not_le; intro e; exact hq (.inr (by omega))) (fun e => hq (.inl (Option.some.inj e)))⟩
          have HM6 := hide hMp6
          have HD6 := hide hdom6
          have HF6 := hide hfr6
          unfold nilV at hput
          clear hMp hdom' hfr hMp6 hdom6 hfr6 hg6 htc hc9 ht hB5
          go_wp2
          go_roundw
          case rel => exact ⟨k + 1, n' + 1, _, by omega, by go_num, by omega, unhide HM6, unhide HD6, unhide HF6⟩
          case measure => simp [intOf]; omega
        · have hkl2' : ¬ (k : Int) < (ts.length : Int) := by omega
          have HD6 : Hid (∀ x, dom' x = true ↔ ∃ c', c' < c + 1 ∧ x ∈ qss[c']?.getD []) := fun x => by
            rw [hdom' x, List.take_of_length_le (by omega), unhide HDOM x]
            constructor
            · rintro (⟨c', q1, q2⟩ | q)
              · exact ⟨c', by omega, q2⟩
              · exact ⟨c, by omega, by rw [← unhide HTS]; exact q⟩
            · rintro ⟨c', q1, q2⟩
              by_cases e : c' = c
              · subst e; rw [← unhide HTS] at q2; exact .inr q2
              · exact .inl ⟨c', by omega, q2⟩
          have HM6 := hide hMp
          have HF6 := hide hfr
          clear hMp hdom' hfr hB5
          go_wp2
          go_roundw
          case rel => exact ⟨c + 1, n', _, by omega, by go_num, by omega, unhide HM6, unhide HD6, unhide HF6⟩
          case measure => simp [intOf]; omega
    · have hcl' : ¬ (c : Int) < (qss.length : Int) := by omega
      have HDOM : Hid (∀ x, dom x = true ↔ ∃ c', c' < qss.length ∧ x ∈ qss[c']?.getD []) := fun x => by rw [show qss.length = c by omega]; exact hdom x
      have hR4 := World.rowIs.of_block (unhide HR3) (hfr.block w.heap.size (by rintro (q | q) <;> omega))
      obtain ⟨k0, k1, k2, k3, -⟩ := Row4.facts hR4
      have HMP := hide hMp
      have HFR := hide hfr
      have HB4 := hide hB4
      clear hMp hdom hfr hB4 hR4
      obtain ⟨mn, hmn⟩ : ∃ mn, mn = min ks.length pss.length := ⟨_, rfl⟩
      have HMN := hide hmn
      have hmk : mn ≤ ks.length := by omega
      have hmp : mn ≤ pss.length := by omega
      have HPL : Hid (PlM w4 (w.heap.size + 3) dom (fun _ => nilV) (fun x => jsOf ks x 0)) := PlM.start _ _ _ _
      have hn1 : n ≤ 1000000 := by omega
      rcases (show ((ks.length : Int) ≤ (pss.length : Int) ∧ (ks.length : Int) = (mn : Int)) ∨ (¬ (ks.length : Int) ≤ (pss.length : Int) ∧ (pss.length : Int) = (mn : Int)) by omega) with ⟨hle, hmi⟩ | ⟨hle, hmi⟩
      all_goals
        have HMI := hide hmi
        clear hmi hmn
        go_wp2_with fail
        rw [unhide HMI]
        clear hle HMI k0 k1 k2 k3
        go_loopw [41] (fun jv wr => ∃ (j n' : Nat) (m : Int → Value), j ≤ mn ∧ jv = .int .i64 (j : Nat) ∧ n' ≤ n + j ∧ MpAt wr (w.heap.size + 2) n' dom m ∧ PlM wr (w.heap.size + 3) dom m (fun x => jsOf ks x j) ∧ FrO (fun k => k = w.heap.size + 2 ∨ w.heap.size + 3 ≤ k) W3 wr) (fun jv _ => mn - (intOf jv).toNat)
        case atStart => exact ⟨0, n, _, by omega, rfl, by omega, unhide HMP, unhide HPL, unhide HFR⟩
        case round =>
          clear HMP HPL HFR HB4
          obtain ⟨j, n', m, hj, rfl, hn', hMp, hPl, hfr⟩ := hrel
          obtain ⟨w5, rfl⟩ : ∃ w5, w5 = wr := ⟨_, rfl⟩
          have hB5 : Below w.heap.size w w5 := (unhide HB3).trans (hfr.below (fun k hk hg => by rcases hg with q | q <;> omega))
          have hz5 := hfr.size
          have hR5 := World.rowIs.of_block (unhide HR3) (hfr.block w.heap.size (by rintro (q | q) <;> omega))
          by_cases hjl : j < mn
          · have hjl' : (j : Int) < (mn : Int) := by omega
            have hjk' : (j : Int) < (ks.length : Int) := by omega
            obtain ⟨kb, ko, rfl, hkc⟩ := unhide HKC j (by omega)
            obtain ⟨x, hx⟩ : ∃ x, x = ks[j]?.getD 0 := ⟨_, rfl⟩
            have hxi : In64' x := by rw [hx]; exact unhide HKI j
            rw [← hx] at hkc
            have z0 := hkc w5 hB5
            obtain ⟨k0, k1, k2, k3, -⟩ := Row4.facts hR5
            have hlk := hMp.look2 (t := 100) (e := 34) Tryz.underlying100 (hzz w5) hxi
            by_cases hd : dom x = true
            · have hown := hPl.own x hxi hd
              obtain ⟨oa, oc, hmx⟩ := own_is hown
              obtain ⟨jl, hjn⟩ : ∃ jl, jl = (jsOf ks x j).length := ⟨_, rfl⟩
              have hjb : jl ≤ 20000 := by have := jsOf_len ks x j; omega
              rw [hd, hmx, ← hjn] at hlk
              have HO : Hid (w5.ownsRow (w.heap.size + 3) 3 1 (.slice oa jl oc) jl ((jsOf ks x j).map mI)) := by
                have := hown
                rw [hmx, ← hjn] at this
                exact this
              obtain ⟨js, hjs⟩ : ∃ js, js = (jsOf ks x j).map mI := ⟨_, rfl⟩
              rw [← hjs] at HO
              have HPS : Hid (∀ (WA w7 : World) (gg cap : Nat), w7.ownsRow (w.heap.size + 3) 3 1 (.slice (some ⟨gg, 0, none⟩) (jl + 1) cap) (jl + 1) (js ++ [.int .i64 (j : Nat)]) → WA.grownBy w7 (Value.slice oa jl oc).ownBlock → ((Value.slice oa jl oc).ownBlock = some gg ∨ gg = w5.heap.size + 1) → Pushd w5 WA (.cells #[.int .i64 (j : Nat)] 3) →
                  w7.cell? ⟨w.heap.size, 2, none⟩ = some (.slice (some ⟨kb, ko, none⟩) ks.length kc) ∧ w7.cell? ⟨kb, ko + j, none⟩ = some (.int .i64 x) ∧ ∃ w8, (Instr.mapUpdate 100 (.map (some (w.heap.size + 2))) (.int .i64 x) (.slice (some ⟨gg, 0, none⟩) (jl + 1) cap)).run Tryz.prog w7 = .ok () w8 ∧ Hid ((∃ m', MpAt w8 (w.heap.size + 2) (n' + 1) dom m' ∧ PlM w8 (w.heap.size + 3) dom m' (fun x => jsOf ks x (j + 1))) ∧ FrO (fun k => k = w.heap.size + 2 ∨ w.heap.size + 3 ≤ k) W3 w8)) := fun WA w7 gg cap r1 r2 r3 hP => by
                have hB7 : Below (w.heap.size + 3) w5 w7 := by
                  refine ⟨r2.os.trans hP.os, r2.tape.trans hP.tape, r2.output.trans hP.output, by have := r2.size; have := hP.size; omega, fun k hk => (r2.block k (by have := hP.size; omega) (fun e => ?_)).trans (hP.old (by omega))⟩
                  have := ((unhide HO).lt k e.symm).1
                  omega
                refine ⟨by rw [hB7.cell (p := ⟨w.heap.size, 2, none⟩) (by show w.heap.size < _; omega)]; exact k2, hkc w7 (hB5.trans (hB7.mono (by omega))), ?_⟩
                rw [hjn] at r1 r2 r3
                rw [hjs] at r1
                rw [← hmx] at r2 r3
                obtain ⟨w8, h1, h2, h3⟩ := PlM.step hMp hPl (by omega) (by omega) (by unfold maxLen; omega) hxi hd hx.symm hP (t := 100) Tryz.underlying100 r1 r2 r3
                rw [← hjn] at h1
                exact ⟨w8, h1, h2, hfr.trans h3⟩
              have k2a : ∀ o : Obj, (w5.alloc o).cell? ⟨w.heap.size, 2, none⟩ = some (.slice (some ⟨kb, ko, none⟩) ks.length kc) := fun o => by rw [(below1 w5 o).cell (p := ⟨w.heap.size, 2, none⟩) (by show w.heap.size < _; omega)]; exact k2
              have z0a : ∀ o : Obj, (w5.alloc o).cell? ⟨kb, ko + j, none⟩ = some (.int .i64 x) := fun o => hkc _ (hB5.trans ((below1 w5 o).mono (by omega)))
              have HJN := hide hjn
              have HX := hide hx
              clear hMp hPl hfr hkc hjn hjs hown hmx hx hR5 hB5 k0 k1 k3
              go_wp2_with fail
              go_region_law (
                (refine step_append_lies _ rfl (.tmp 61) (.tmp 63) 34 rfl (w.heap.size + 3) 3 i0 (.int .i64 0) 1 8 Tryz.underlying34 hi hz0 hz1 hz2 rfl (by decide) (.slice oa jl oc) jl js (by first | (simp [Act.eval]; done) | (simp [Act.eval, Act.put]; done)) (by refine Pushd.own (w := w5) (o := .cells #[.int .i64 (j : Nat)] 3) ?_ (unhide HO); exact ⟨rfl, rfl, rfl, rfl⟩) ⟨w5.heap.size, 0, none⟩ 1 1 [.int .i64 (j : Nat)] (by first | (simp [Act.eval]; done) | (simp [Act.eval, Act.put]; done)) rfl (by refine Pushd.news (w := w5) (cs := #[.int .i64 (j : Nat)]) (t := 3) ?_; exact ⟨rfl, rfl, rfl, rfl⟩) (by intro u hu; simp only [List.mem_cons, List.not_mem_nil, or_false] at hu; subst hu; rfl) (by decide) (by unfold maxLen; omega) (by omega) (by show w.heap.size + 3 ≤ (World.alloc _ _).heap.size; rw [sz_alloc]; omega) (w5.heap.size + 1) (sz_alloc w5 _) (fun gg cap w7 r1 r2 r3 r4 => ?_); obtain ⟨c7, z7, w8, hput, h8⟩ := unhide HPS _ w7 gg cap r1 r2 r3 (by exact ⟨rfl, rfl, rfl, rfl⟩); clear r1 r2 r3 r4))
              all_goals
                go_wp2
                go_roundw
                case rel =>
                  obtain ⟨⟨m', q1, q2⟩, q3⟩ := unhide h8
                  exact ⟨j + 1, n' + 1, m', by omega, by go_num, by omega, q1, q2, q3⟩
                case measure => simp [intOf]; omega
            · have hd : dom x = false := by cases e : dom x; rfl; exact absurd e hd
              rw [hd] at hlk
              obtain ⟨mx, hmx⟩ : ∃ mx, mx = m x := ⟨_, rfl⟩
              rw [← hmx] at hlk
              have HPL := hide (hPl.skip (by rw [← hx]; exact hd))
              have HMP := hide hMp
              have HFR := hide hfr
              clear hMp hPl hfr hkc hmx hx hR5 hB5 k0 k1 k3
              go_wp2
              go_roundw
              case rel => exact ⟨j + 1, n', m, by omega, by go_num, by omega, unhide HMP, unhide HPL, unhide HFR⟩
              case measure => simp [intOf]; omega
          · have hjl' : ¬ (j : Int) < (mn : Int) := by omega
            have hjm : j = mn := by omega
            subst hjm
            have hMp6 : MpAt (w5.alloc (.map #[] 0)) (w.heap.size + 2) n' dom m := hMp.keep ((below1 w5 _).block _ (by omega))
            obtain ⟨D, hD, hDh, hDa⟩ := hMp6.ex
            have HOWN := hide hD
            have HDH := hide hDh
            have HDA := hide hDa
            have HPL := hide hPl
            have HFR := hide hfr
            have HB5 := hide hB5
            have HR5 := hide hR5
            have HML := hide (MpAt.new w5)
            clear hMp hPl hfr hR5 hB5 hMp6 hD hDh hDa
            go_wp2_with (at_range; refine wpList_range_own _ rfl _ 100 rfl 3 34 Tryz.lawIm Tryz.underlying100 rHold (w.heap.size + 2) n' D rfl (unhide HOWN) ?_; intro w7 hrg hg7 hs7)
            try go_frame
            rw [sz_alloc] at hrg hs7
            try simp only [sz_alloc]
            obtain ⟨LB, hLB⟩ : ∃ LB, LB = w5.heap.size := ⟨_, rfl⟩
            rw [← hLB] at hrg hs7 HML hz5
            try simp only [← hLB]
            have HRG := hide hrg
            have hB7 : Below LB w5 w7 := ⟨hg7.os, hg7.tape, hg7.output, by omega, fun k hk => (hg7.block k (by rw [sz_alloc]; omega) (by simp)).trans ((below1 w5 _).block k (by omega))⟩
            have HML7 : Hid (MpAt w7 LB 0 (fun _ => false) (fun _ => nilV)) := (unhide HML).keep (hg7.block LB (by rw [sz_alloc]; omega) (by simp))
            have HB7 := hide hB7
            have hc7 := ranges_le hrg
            have HLS : Hid (LsM w7 (LB + 2) base nl pss dom (fun x => Maps.has D (.int .i64 x)) (fun x => jsOf ks x j) (fun _ => nilV)) := LsM.start _ _ _ _ _ _ _ _ (unhide HDH)
            have HLBE := hide hLB
            have HG7 := hide hs7
            clear hrg hg7 HML hB7 HOWN HDH hLB
            go_loopw [69] (fun _ wr => ∃ (left : Lit → Bool) (cnt nL : Nat) (domL : Int → Bool) (mL : Int → Value), wr.ranges Tryz.prog 3 rHold (w.heap.size + 2) (LB + 1) n' D left cnt ∧ nL + cnt ≤ n' ∧ MpAt wr LB nL domL mL ∧ LsM wr (LB + 2) base nl pss dom (fun x => left (.int .i64 x)) (fun x => jsOf ks x j) mL ∧ FrO (fun k => k = LB ∨ LB + 1 ≤ k) w7 wr) (fun _ wr => wr.rangeLeft (w.heap.size + 2) (LB + 1))
            case atStart => exact ⟨_, _, 0, _, _, unhide HRG, by omega, unhide HML7, unhide HLS, FrO.refl _ _⟩
            case round =>
              clear HRG HML7 HLS
              obtain ⟨left, cnt, nL, domL, mL, hrg, hcn, hML, hLs, hfr⟩ := hrel
              obtain ⟨w8, rfl⟩ : ∃ w8, w8 = wr := ⟨_, rfl⟩
              have hfr5 : ∀ k, k < LB → w8.heap[k]? = w5.heap[k]? := fun k hk => (hfr.block k (by rintro (q | q) <;> omega)).trans ((unhide HB7).block k hk)
              have hB58 : Below LB w5 w8 := (unhide HB7).trans (hfr.below (fun k hk hg => by rcases hg with q | q <;> omega))
              have hBw8 : Below w.heap.size w w8 := (unhide HB5).trans (hB58.mono (by omega))
              have hz8 := hfr.size
              have HRG := hide hrg
              have HML := hide hML
              have HLS := hide hLs
              have HFR := hide hfr
              have HB58 := hide hB58
              have HBW8 := hide hBw8
              clear hrg hML hLs hfr hfr5 hB58 hBw8
              go_wp2_with (at_next; refine wpList_next_ranges _ rfl _ rfl 3 Tryz.lawIm rHold (Value.int .i64) (fun v => v) (fun key kl hkey => by obtain ⟨x, rfl, _⟩ := Maps.keyOf_int_inv Tryz.underlying3 hkey; exact ⟨x, rfl⟩) (fun v y hv => ⟨v, rfl⟩) (w.heap.size + 2) (LB + 1) n' D left cnt rfl (unhide HRG) ?_ ?_)
              · intro hc0 hl0
                have HFI : Hid (LlR (.returned (.map (some LB))) w w8 base nl ks pss qss) := by
                  have e1 : j = min ks.length pss.length := unhide HMN
                  refine LsM.fin (lo := LB + 2) (dom := dom) (left := fun x => left (.int .i64 x)) (mL := mL) (nn := nL) (domL := domL) ?_ (fun x => hl0 _) (unhide HDOM) (unhide HQI) (unhide HML) (by omega) (by omega) (unhide HBW8)
                  rw [← e1]
                  exact unhide HLS
                clear hl0
                go_wp2
                go_ret
                exact unhide HFI
              · intro x c kl y y2 w9 cnt1 hkx hlx hcv hat hrg1 hlt hg1 hs1 hen
                obtain ⟨x9, e9, rfl, hwf⟩ := Maps.keyOf_int_inv Tryz.underlying3 hkx
                cases e9
                have hxi := wf_in hwf
                obtain ⟨hdx, hnx⟩ := (unhide HLS).no x hxi hlx
                have hcm : c = m x := by
                  have h1 := (unhide HDA) x hxi
                  rw [hat] at h1
                  have h2 := Option.some.inj hcv
                  rw [← (Prod.mk.inj h2).1] at h1
                  simpa using h1
                have hPl8 : PlM w8 (w.heap.size + 3) dom m (fun x => jsOf ks x j) := (unhide HPL).keep (fun k _ hk => (unhide HB58).block k (by rw [unhide HLBE]; exact hk))
                have hown := hPl8.own x hxi hdx
                have hown9 : w9.ownsRow (w.heap.size + 3) 3 1 (m x) (jsOf ks x j).length ((jsOf ks x j).map mI) := own_blk hown (fun q hq => hg1.block q (hown.lt q hq).2 (fun e => by
                  have h1 := ((unhide HPL).own x hxi hdx).lt q hq
                  rw [← unhide HLBE] at h1
                  cases e
                  omega))
                obtain ⟨oa, oc, hmx⟩ := own_is hown
                rw [hmx] at hcm hown9
                subst hcm
                have hblk9 : ∀ k, k < w8.heap.size → k ≠ LB + 1 → w9.heap[k]? = w8.heap[k]? := fun k hk h => hg1.block k hk (fun e => h (Option.some.inj e))
                have hML9 : MpAt w9 LB nL domL mL := (unhide HML).keep (hblk9 LB (by omega) (by omega))
                have hLs9 : LsM w9 (LB + 2) base nl pss dom (fun x => left (.int .i64 x)) (fun x => jsOf ks x j) mL := (unhide HLS).keep (fun k h1 h2 => hblk9 k h2 (by omega))
                have hfr9 : FrO (fun k => k = LB ∨ LB + 1 ≤ k) w7 w9 := (unhide HFR).trans ⟨hg1.os, hg1.tape, hg1.output, hg1.size, fun k hk => by
                  by_cases e : k < w8.heap.size
                  · exact hblk9 k e (fun q => hk (.inr (by omega)))
                  · exact absurd (.inr (by omega)) hk⟩
                have hB9 : Below w.heap.size w w9 := (unhide HBW8).trans ⟨hg1.os, hg1.tape, hg1.output, hg1.size, fun k hk => hblk9 k (by omega) (by omega)⟩
                have hR9 := World.rowIs.of_block (unhide HR5) ((hblk9 w.heap.size (by omega) (by omega)).trans ((unhide HB58).block w.heap.size (by omega)))
                have HL' : Hid (∀ y, (fun z : Int => left (.int .i64 z) && !(Lit.int .i64 z).sameKey (.int .i64 x)) y = ((fun z : Int => left (.int .i64 z)) y && !decide (y = x))) := fun y => by simp only [same_i]
                obtain ⟨jl, hjn⟩ : ∃ jl, jl = (jsOf ks x j).length := ⟨_, rfl⟩
                rw [← hjn] at hen hown9 ⊢
                have hmeas : w9.rangeLeft (w.heap.size + 2) (LB + 1) < w8.rangeLeft (w.heap.size + 2) (LB + 1) := by rw [hrg1.left_eq, (unhide HRG).left_eq]; exact hlt
                have HME := hide hmeas
                by_cases hj0 : jl = 0
                · have hj0' : ¬ (0 : Int) < (jl : Int) := by omega
                  have HLS9 := hide (hLs9.skip (x := x) (js := fun x => jsOf ks x j) hxi hlx (List.eq_nil_of_length_eq_zero (by show (jsOf ks x j).length = 0; omega)) (unhide HL'))
                  have HRG9 := hide hrg1
                  have HML9 := hide hML9
                  have HFR9 := hide hfr9
                  clear hrg1 hML9 hLs9 hfr9 hB9 hR9 hown hown9 hPl8 hmx hg1 hblk9 hat hcv hkx hjn hmeas HRG HML HLS HFR hnx
                  go_wp2
                  go_roundw
                  case rel => exact ⟨_, cnt1, nL, domL, mL, unhide HRG9, by omega, unhide HML9, unhide HLS9, unhide HFR9⟩
                  case measure => exact unhide HME
                · have hj0' : (0 : Int) < (jl : Int) := by omega
                  obtain ⟨k0, k1, k2, k3, -⟩ := Row4.facts hR9
                  have hjb : jl ≤ 20000 := by have := jsOf_len ks x j; omega
                  have HLA := hide (linesAt_any _ (.slice oa jl oc) base xss pss ks (jsOf ks x j) w9 ((unhide HV).below hB9 (Nat.le_refl _)) ((own_slw hown9 (Nat.zero_le _) (by unfold maxLen; omega)).at) (fun z hz => by
                    obtain ⟨i, h1, -, rfl⟩ := jsOf_mem.1 hz
                    omega) hn (by omega) (unhide HBI) (unhide HPI))
                  have HRG9 := hide hrg1
                  have HML9 := hide hML9
                  have HFR9 := hide hfr9
                  have HLS9 := hide hLs9
                  have hz9 : LB + 2 ≤ w9.heap.size := by omega
                  have HB9 := hide hB9
                  clear hrg1 hML9 hLs9 hfr9 hB9 hR9 hown hown9 hPl8 hmx hg1 hblk9 hat hcv hkx hjn hmeas HRG HML HLS HFR hnx
                  go_wp2_with fail
                  refine (unhide HLA).mono ?_
                  rintro e w10 ⟨lv, h, rfl, hown, hLn, hb10⟩
                  have hz10 := hb10.size
                  rw [← unhide HNL] at hLn
                  obtain ⟨w11, hput, hM11, hg11⟩ := ((unhide HML9).keep (hb10.block LB (by omega))).put (t := 58) (e := 64) Tryz.underlying58 (by unfold maxLen; omega) hxi lv
                  have hblk : ∀ k, k < w9.heap.size → k ≠ LB → w11.heap[k]? = w9.heap[k]? := fun k hk h => (hg11.block k (by omega) (fun e => h (Option.some.inj e))).trans (hb10.block k hk)
                  have hz11 := hg11.size
                  have hG : w9.grownBy w11 (some LB) := ⟨hg11.os.trans hb10.os, hg11.tape.trans hb10.tape, hg11.output.trans hb10.output, by omega, fun k hk h => hblk k hk (fun e => h (by rw [e]))⟩
                  have HRG11 := hide ((unhide HRG9).kept hG (fun e => by have := Option.some.inj e; omega) (fun e => by have := Option.some.inj e; omega))
                  have HLS11 := hide (((unhide HLS9).keep (w' := w11) (fun k h1 h2 => hblk k h2 (by omega))).add (x := x) (unhide HL') hLn (own_low (own_blk (w' := w11) hown (fun q hq => hg11.block q (hown.lt q hq).2 (fun e => by have := (hown.lt q hq).1; cases e; omega))) hz9))
                  have HFR11 : Hid (FrO (fun k => k = LB ∨ LB + 1 ≤ k) w7 w11) := (unhide HFR9).trans ⟨hG.os, hG.tape, hG.output, hG.size, fun k hk => hblk k (by apply Nat.lt_of_not_le; intro e; exact hk (.inr (by omega))) (fun e => hk (.inl e))⟩
                  have HM11 := hide hM11
                  have HME11 : Hid (w11.rangeLeft (w.heap.size + 2) (LB + 1) < w8.rangeLeft (w.heap.size + 2) (LB + 1)) := by
                    have := unhide HME
                    rw [(unhide HRG9).left_eq] at this
                    rw [(unhide HRG11).left_eq]
                    exact this
                  obtain ⟨la2, lc2, rfl⟩ := own_is hown
                  obtain ⟨bl, hbl⟩ : ∃ bl, bl = (blkOf h 16).length := ⟨_, rfl⟩
                  rw [← hbl] at hput ⊢
                  clear hown hLn hb10 hM11 hg11 hblk hG HRG9 HLS9 HFR9 HML9 HLA hbl k0 k1 k2 k3
                  go_wp2
                  go_roundw
                  case rel => exact ⟨_, cnt1, nL + 1, _, _, unhide HRG11, by omega, unhide HM11, unhide HLS11, unhide HFR11⟩
                  case measure => exact unhide HME11
def anb (a b : Nat) : Nat := a ^^^ (a &&& b)
theorem anb_bit (a b i : Nat) : (anb a b).testBit i = (a.testBit i && !b.testBit i) := by
  unfold anb
  rw [Nat.testBit_xor, Nat.testBit_and]
  cases a.testBit i <;> cases b.testBit i <;> rfl
theorem anb_lt {a : Nat} (b : Nat) (h : a < 18446744073709551616) : anb a b < 18446744073709551616 := by
  unfold anb
  exact Nat.xor_lt_two_pow (n := 64) h (Nat.lt_of_le_of_lt Nat.and_le_left h)
theorem ln_anb (a b : Nat) (ha : a < 18446744073709551616) (hb : b < 18446744073709551616) : bits .andNot .u64 (a : Int) (b : Int) = ((anb a b : Nat) : Int) := by
  have h1 : (BitVec.ofInt 64 (a : Int)).toNat = a := by
    rw [BitVec.ofInt_natCast, BitVec.toNat_ofNat]; exact Nat.mod_eq_of_lt (by omega)
  have h2 : (BitVec.ofInt 64 (b : Int)).toNat = b := by
    rw [BitVec.ofInt_natCast, BitVec.toNat_ofNat]; exact Nat.mod_eq_of_lt (by omega)
  have h3 : (BitVec.ofInt 64 (a : Int) &&& ~~~ BitVec.ofInt 64 (b : Int)).toNat = anb a b := by
    apply Nat.eq_of_testBit_eq
    intro i
    rw [anb_bit, BitVec.toNat_and, Nat.testBit_and, h1, BitVec.testBit_toNat, BitVec.getLsbD_not, ← BitVec.testBit_toNat, h2]
    by_cases e : i < 64
    · simp [e]
    · have : a.testBit i = false := Nat.testBit_lt_two_pow (Nat.lt_of_lt_of_le (show a < 2 ^ 64 from ha) (Nat.pow_le_pow_right (by decide) (by omega)))
      simp [this]
  show IntKind.u64.wrap ((BitVec.ofInt 64 (a : Int) &&& ~~~ BitVec.ofInt 64 (b : Int)).toNat : Int) = _
  rw [h3, IntKind.wrap_u64]
  have := anb_lt b ha
  omega
def lnX (g : Nat → Nat) (p : Nat × Nat) : Nat → Nat := fun j => if j = p.1 then anb (g j) p.2 else g j
theorem lnX_fit {g : Nat → Nat} (h : LnF g) (p : Nat × Nat) : LnF (lnX g p) := fun j => by
  unfold lnX
  split
  · exact anb_lt _ (h j)
  · exact h j
theorem fold_fit : ∀ (bs : List (Nat × Nat)) {g : Nat → Nat}, LnF g → LnF (bs.foldl lnX g)
  | [], _, h => h
  | p :: bs, _, h => fold_fit bs (lnX_fit h p)
theorem fold_bit : ∀ (bs : List (Nat × Nat)) (g : Nat → Nat) (j b : Nat), ((bs.foldl lnX g) j).testBit b = ((g j).testBit b && !(bs.any fun p => p.1 == j && p.2.testBit b))
  | [], g, j, b => by simp
  | p :: bs, g, j, b => by
    rw [List.foldl_cons, fold_bit bs, List.any_cons]
    unfold lnX
    by_cases e : j = p.1
    · rw [if_pos e, anb_bit]
      subst e
      cases (g p.1).testBit b <;> cases p.2.testBit b <;> simp
    · rw [if_neg e]
      have : (p.1 == j) = false := by simpa using fun q => e q.symm
      rw [this]
      simp
theorem fold_blk (M g : Nat → Nat) {i : Nat} (hi : i / 64 < 16) : LnB ((blkOf M 16).foldl lnX g) i = (LnB g i && !LnB M i) := by
  unfold LnB
  rw [fold_bit]
  congr 2
  rw [Bool.eq_iff_iff, List.any_eq_true]
  constructor
  · rintro ⟨p, hp, h⟩
    have h1 := blkOf_mem.1 hp
    simp at h
    rw [← h.1, ← h1.2.2]
    rw [← h.1] at h
    exact h.2
  · intro h
    refine ⟨(i / 64, M (i / 64)), blkOf_mem.2 ⟨hi, ?_, rfl⟩, by simpa using h⟩
    intro e
    simp [e] at h
theorem mAll_bit {hw : Int → Nat → Nat} : ∀ (ts : List Int) (f : Nat → Nat) (i : Nat), LnB (mAll hw f ts) i = (LnB f i && ts.all fun t => LnB (hw t) i)
  | [], f, i => by simp [mAll]
  | t :: ts, f, i => by
    show LnB (mAll hw (fun j => f j &&& hw t j) ts) i = _
    rw [mAll_bit ts, List.all_cons]
    unfold LnB
    rw [Nat.testBit_and, Bool.and_assoc]
theorem rest_step {base : Int} {n : Nat} {ks : List Int} {pss : List (List Int)} {ts : List Int} {g : Nat → Nat} {hw : Int → Nat → Nat} (hLn : ∀ t ∈ ts, LnD base n (hw t) (plD pss (jsOf ks t (min ks.length pss.length)))) (hg : ∀ i, LnB g i = true → i < n) (hn : n ≤ 1000) (i : Nat) : LnB ((blkOf (mAll hw g ts) 16).foldl lnX g) i = (LnB g i && !mkB base ks pss ts i) := by
  by_cases hi : i / 64 < 16
  · rw [fold_blk _ _ hi, mAll_bit]
    cases h : LnB g i with
    | false => simp
    | true =>
      have hin := hg i h
      have : (ts.all fun t => LnB (hw t) i) = mkB base ks pss ts i := by
        rw [Bool.eq_iff_iff, List.all_eq_true, mkB_iff]
        constructor
        · intro h9 t ht
          exact plD_lst.1 (((hLn t ht).2 i).1 (h9 t ht)).2
        · intro h9 t ht
          exact ((hLn t ht).2 i).2 ⟨hin, plD_lst.2 (h9 t ht)⟩
      rw [this]
      simp
  · have h1 : LnB g i = false := by
      cases h : LnB g i with
      | false => rfl
      | true => have := hg i h; omega
    unfold LnB at h1 ⊢
    rw [fold_bit, h1]
    simp
theorem own_mts {base : Nat} {w : World} {lv : Value} {bs : List (Nat × Nat)} (h : w.ownsRow base 68 2 lv bs.length (flB bs)) : ∃ g cap a c, lv = .slice a bs.length c ∧ base ≤ g ∧ (0 < bs.length → a = some ⟨g, 0, none⟩ ∧ c = cap ∧ bs.length ≤ cap ∧ MtS w w g (cap * 2) bs [] 0) := by
  rcases h.2 with ⟨h1, h2⟩ | ⟨g, cap, cur, h1, h2, h3, h4, h5, h6, h7⟩
  · exact ⟨base, 0, none, 0, by rw [h1, h2], Nat.le_refl _, fun q => by omega⟩
  · refine ⟨g, cap, _, _, h1, h2, fun _ => ⟨rfl, rfl, h4, ⟨⟨fun i => cur[i]?.getD undef, ⟨cur, h3, h6, fun i hi => ?_⟩, fun k p hp => by simp at hp, fun k p _ hp => ?_⟩, FrO.refl _ _⟩⟩⟩
    · show cur[i]? = some (cur[i]?.getD undef)
      rw [Array.getElem?_eq_getElem (by omega)]; rfl
    · have hk := (List.getElem?_eq_some_iff.1 hp).1
      obtain ⟨f1, f2⟩ := flB_at bs hp
      rw [← h7, List.getElem?_take] at f1 f2
      rw [if_pos (by omega)] at f1 f2
      rw [Array.getElem?_toList] at f1 f2
      exact ⟨by simp [f1], by simp [f2]⟩
theorem own_blr {base g : Nat} {w : World} {v : Value} {h : Nat → Nat} (ho : w.ownsRow base 68 2 v (blkOf h 16).length (flB (blkOf h 16))) (hg : ∀ q, v.ownBlock = some q → q ≠ g) : BlR w v h g := by
  rcases ho.2 with ⟨h1, h2⟩ | ⟨b, cap, cur, h1, h2, h3, h4, h5, h6, h7⟩
  · refine ⟨g + 1, 0, ⟨none, 0, by rw [h1, h2], by omega, fun q => by omega⟩, by omega, fun q => by omega, fun k p hp => ?_⟩
    rw [List.eq_nil_of_length_eq_zero h2] at hp
    simp at hp
  · refine ⟨b, 0, ⟨_, cap, by rw [h1, Nat.sub_zero], by omega, fun _ => by simp⟩, hg b (by rw [h1]; rfl), fun _ => (Array.getElem?_eq_some_iff.1 h3).1, fun k p hp => ?_⟩
    have hk := (List.getElem?_eq_some_iff.1 hp).1
    obtain ⟨f1, f2⟩ := flB_at _ hp
    rw [← h7, List.getElem?_take] at f1 f2
    rw [if_pos (by omega)] at f1 f2
    rw [Array.getElem?_toList] at f1 f2
    rw [Nat.zero_add]
    exact ⟨by simp [World.cell?, h3, f1], by simp [World.cell?, h3, f2]⟩
def RsI (base : Int) (n : Nat) (ks : List Int) (pss qss : List (List Int)) (c : Nat) (g : Nat → Nat) : Prop := LnF g ∧ ∀ i, LnB g i = (decide (i < n) && !smB base ks pss qss c i)
theorem RsI.lt {base : Int} {n : Nat} {ks : List Int} {pss qss : List (List Int)} {c : Nat} {g : Nat → Nat} (h : RsI base n ks pss qss c g) (i : Nat) (hi : LnB g i = true) : i < n := by
  rw [h.2 i] at hi
  simp at hi
  exact hi.1
theorem RsI.next {base : Int} {n : Nat} {ks : List Int} {pss qss : List (List Int)} {c : Nat} {g : Nat → Nat} {hw : Int → Nat → Nat} (h : RsI base n ks pss qss c g) (hLn : ∀ t ∈ qss[c]?.getD [], LnD base n (hw t) (plD pss (jsOf ks t (min ks.length pss.length)))) (hn : n ≤ 1000) : RsI base n ks pss qss (c + 1) ((blkOf (mAll hw g (qss[c]?.getD [])) 16).foldl lnX g) := by
  refine ⟨fold_fit _ h.1, fun i => ?_⟩
  rw [rest_step hLn h.lt hn i, h.2 i, smB_succ]
  cases decide (i < n) <;> cases smB base ks pss qss c i <;> cases mkB base ks pss (qss[c]?.getD []) i <;> rfl
theorem RsI.fin {base : Int} {n : Nat} {ks : List Int} {pss qss : List (List Int)} {g : Nat → Nat} (h : RsI base n ks pss qss qss.length g) {i : Nat} (hi : i < n) : LnB g i = false ↔ Cnd base ks pss qss i := by
  rw [h.2 i]
  unfold Cnd
  rw [← smB_iff]
  simp [hi]
def LnU (n : Nat) (g : Nat → Nat) : Prop := LnF g ∧ ∀ i, LnB g i = decide (i < n)
theorem LnU.zero : LnU 0 (fun _ => 0) := ⟨fun j => by simp, fun i => by simp [LnB]⟩
theorem LnU.next {n : Nat} {g : Nat → Nat} (h : LnU n g) : LnU (n + 1) (lnP g n) := ⟨lnF_put h.1 n, fun i => by
  rw [lnB_put, h.2 i, Bool.eq_iff_iff]
  simp
  omega⟩
theorem LnU.rsI {n : Nat} {g : Nat → Nat} (h : LnU n g) (base : Int) (ks : List Int) (pss qss : List (List Int)) : RsI base n ks pss qss 0 g := ⟨h.1, fun i => by rw [h.2 i, smB_zero]; simp⟩
theorem blk_len_le {hw : Int → Nat → Nat} (ts : List Int) (g : Nat → Nat) : (blkOf (mAll hw g ts) 16).length ≤ (blkOf g 16).length := by
  unfold blkOf
  rw [List.length_map, List.length_map, ← List.countP_eq_length_filter, ← List.countP_eq_length_filter]
  refine List.countP_mono_left (fun j _ h => ?_)
  simp at h ⊢
  intro e
  exact h (mAll_zero ts e)
theorem ln_clr {w : World} {B pn pb : Nat} {G : Nat → Nat} (h : w.rowIs B 62 16 (lnW G)) : ((w.setCell ⟨B, pn, none⟩ (.int .u64 (anb (G pn) pb : Nat))).drew).rowIs B 62 16 (lnW (lnX G (pn, pb))) :=
  ((h.set pn _).congr (fun j _ => by unfold lnW lnX; by_cases e : j = pn <;> simp [e])).drew
set_option maxHeartbeats 8000000 in
set_option maxRecDepth 100000 in
theorem implCand_any (v u : Value) (base : Int) (xss pss qss : List (List Int)) (ks : List Int) (w : World) (hv : SegRd w v base xss ks pss) (hu : SsAt mI 0 w.heap.size w u qss) (hb : In64' base) (hk : ∀ i : Nat, In64' (ks[i]?.getD 0)) (hp : ∀ k i : Nat, In64' ((pss[k]?.getD [])[i]?.getD 0)) (hqi : ∀ k i : Nat, In64' ((qss[k]?.getD [])[i]?.getD 0)) :
    Calls Tryz.prog 10 #[v, .agg #[u]] w fun e w' => ∃ ov, e = .returned ov ∧ w'.ownsRow w.heap.size 3 1 ov (cndA base xss ks pss qss).length ((cndA base xss ks pss qss).map mI) ∧ Below w.heap.size w w' := by
  obtain ⟨lv, kv, pv, rfl, h1, h2, h3⟩ := id hv
  obtain ⟨la, lc, rfl, -, -⟩ := id h1
  obtain ⟨ka, kc, rfl, -, -⟩ := id h2
  obtain ⟨pa, pc, rfl, -, -⟩ := id h3
  obtain ⟨ua, uc, rfl, hul, hus⟩ := ss_at hu
  obtain ⟨n, hnl⟩ : ∃ n, n = xss.length := ⟨_, rfl⟩
  obtain ⟨W2, hW2⟩ : ∃ W2, W2 = (w.alloc (.cells #[.int .i64 base, .slice la xss.length lc, .slice ka ks.length kc, .slice pa pss.length pc] 38)).alloc (.cells #[.slice ua qss.length uc] 31) := ⟨_, rfl⟩
  have hB2 : Below w.heap.size w W2 := by rw [hW2]; exact below2 w _ _
  have hz2 : W2.heap.size = w.heap.size + 2 := by rw [hW2, sz_alloc, sz_alloc]
  have hR2 : Row4 W2 w.heap.size 38 (.int .i64 base) (.slice la xss.length lc) (.slice ka ks.length kc) (.slice pa pss.length pc) := by rw [hW2]; exact (Row4.new w _ _ _ _ _).alloc _
  have hq : W2.cell? ⟨w.heap.size + 1, 0, none⟩ = some (.slice ua qss.length uc) := by
    have := (pushd_al (w.alloc (.cells #[.int .i64 base, .slice la xss.length lc, .slice ka ks.length kc, .slice pa pss.length pc] 38)) (.cells #[.slice ua qss.length uc] 31)).news 0 _ rfl
    rw [sz_alloc] at this
    rw [hW2]
    exact this
  have HWI := hide (withinC_any _ _ base xss pss qss ks W2 (hv.below hB2 (Nat.le_refl _)) (hu.below hB2 (Nat.le_refl _)))
  obtain ⟨k0, k1, k2, k3, -⟩ := hR2.facts
  have HUS : Hid (∀ W, Below w.heap.size w W → ∀ j : Nat, j < qss.length → ∃ b off sa sc, ua = some ⟨b, off, none⟩ ∧ W.cell? ⟨b, off + j, none⟩ = some (.slice sa (qss[j]?.getD []).length sc) ∧ ∀ W, Below w.heap.size w W → SlAt mI 0 0 W.heap.size W (.slice sa (qss[j]?.getD []).length sc) (qss[j]?.getD [])) := fun W hW j hj => by
    obtain ⟨b, off, sa, sc, rfl, hb, hcell, hsl, -⟩ := hus j hj
    exact ⟨b, off, sa, sc, rfl, by rw [hW.cell (p := ⟨b, off + j, none⟩) hb]; exact hcell, fun W hW => hsl.below hW (Nat.le_refl _)⟩
  have HV := hide hv
  have HU := hide hu
  have HW2 := hide hW2
  have HB2 := hide hB2
  have HR2 := hide hR2
  have HQ := hide hq
  have HBI := hide hb
  have HKI := hide hk
  have HPI := hide hp
  have HQI := hide hqi
  have hz2' : w.heap.size + 2 ≤ W2.heap.size := by omega
  obtain ⟨R, hR⟩ : ∃ R, R = cndA base xss ks pss qss := ⟨_, rfl⟩
  rw [← hR]
  have HRR := hide hR
  clear h1 h2 h3 hu hus hW2 hB2 hR2 hz2 hv hR hb hk hp hqi
  go_enter Tryz.func10, Tryz.ntmps10
  go_wp2_with fail
  rw [← unhide HW2]
  clear HW2
  refine (unhide HWI).mono ?_
  rintro e w3 ⟨hret, hb3⟩
  have hz3 := hb3.size
  have hB3 : Below w.heap.size w w3 := (unhide HB2).trans (hb3.mono (by omega))
  rcases hret.cases.symm with ⟨rfl, hno⟩ | ⟨rfl, hyes⟩
  · have HX : Hid (R = []) := by rw [unhide HRR]; exact cndA_no hno
    clear hno hb3
    go_wp2
    go_ret
    rw [unhide HX]
    exact ⟨_, rfl, World.ownsRow_nil _ _ _ _, hB3⟩
  · have HRC := hide hyes
    have hn := hyes.1
    have hql := hyes.2.2.2.1
    have HRE : Hid (R = cndL base n (smB base ks pss qss qss.length)) := by rw [unhide HRR, hnl]; exact cndA_yes hyes
    have hR3 := World.rowIs.of_block (unhide HR2) (hb3.block w.heap.size (by omega))
    have hq3 : w3.cell? ⟨w.heap.size + 1, 0, none⟩ = some (.slice ua qss.length uc) := by rw [hb3.cell (p := ⟨w.heap.size + 1, 0, none⟩) (by show w.heap.size + 1 < _; omega)]; exact unhide HQ
    obtain ⟨k0, k1, k2, k3, -⟩ := Row4.facts hR3
    have HLL := hide (listedLines_any _ _ base xss pss qss ks w3 ((unhide HV).below hB3 (Nat.le_refl _)) ((unhide HU).below hB3 (Nat.le_refl _)) hyes (unhide HBI) (unhide HKI) (unhide HPI) (unhide HQI))
    have HR3 := hide hR3
    have HQ3 := hide hq3
    have HB3 := hide hB3
    clear hyes hb3 hR3 hB3 HWI hq
    go_wp2_with fail
    refine (unhide HLL).mono ?_
    rintro e w4 hLl
    obtain ⟨mb, nn, dom, mL, hw, rfl, hM, hmb, hb4, hwf, hwL⟩ := hLl
    have hz4 := hb4.size
    obtain ⟨B, hB⟩ : ∃ B, B = w4.heap.size := ⟨_, rfl⟩
    obtain ⟨W5, hW5⟩ : ∃ W5, W5 = w4.alloc (.cells #[.int .u64 0, .int .u64 0, .int .u64 0, .int .u64 0, .int .u64 0, .int .u64 0, .int .u64 0, .int .u64 0, .int .u64 0, .int .u64 0, .int .u64 0, .int .u64 0, .int .u64 0, .int .u64 0, .int .u64 0, .int .u64 0] 62) := ⟨_, rfl⟩
    have hS5 : W5.rowIs B 62 16 (lnW (fun _ => 0)) := by rw [hW5, hB]; exact ln_new w4
    have hb45 : Below B w4 W5 := by rw [hW5, hB]; exact below1 w4 _
    have hz5 : W5.heap.size = B + 1 := by rw [hW5, sz_alloc, hB]
    have hR5 : Row4 W5 w.heap.size 38 (.int .i64 base) (.slice la xss.length lc) (.slice ka ks.length kc) (.slice pa pss.length pc) := World.rowIs.of_block (unhide HR3) ((hb45.block w.heap.size (by omega)).trans (hb4.block w.heap.size (by omega)))
    have hq5 : W5.cell? ⟨w.heap.size + 1, 0, none⟩ = some (.slice ua qss.length uc) := by rw [hb45.cell (p := ⟨w.heap.size + 1, 0, none⟩) (by show w.heap.size + 1 < _; omega), hb4.cell (p := ⟨w.heap.size + 1, 0, none⟩) (by show w.heap.size + 1 < _; omega)]; exact unhide HQ3
    have hBw : w.heap.size + 2 ≤ B := by omega
    have hB4 : Below w.heap.size w w4 := (unhide HB3).trans (hb4.mono (by omega))
    have hB5 : Below w.heap.size w W5 := hB4.trans (hb45.mono (by omega))
    have HKP : Hid (∀ (W : World) (gg : Nat), Below B W5 W → B ≤ gg → ∀ c : Nat, c < qss.length → MpAt W mb nn dom mL ∧ ∀ t ∈ qss[c]?.getD [], BlR W (mL t) (hw t) gg) := fun W gg hW hgg c hc => by
      have h4 : ∀ k, k < B → W.heap[k]? = w4.heap[k]? := fun k hk => (hW.block k hk).trans (hb45.block k hk)
      refine ⟨hM.keep (h4 mb (by rw [hB]; exact hM.lt)), fun t ht => ?_⟩
      have ho := (hwL c t hc ht).2
      exact own_blr (own_blk ho (fun q hq => h4 q (by rw [hB]; exact (ho.lt q hq).2))) (fun q hq => by have := (ho.lt q hq).2; omega)
    have HLN : Hid (∀ c : Nat, c < qss.length → ∀ t ∈ qss[c]?.getD [], LnD base n (hw t) (plD pss (jsOf ks t (min ks.length pss.length)))) := fun c hc t ht => by rw [hnl]; exact (hwL c t hc ht).1
    have HWF := hide hwf
    have HS5 := hide hS5
    have HR5 := hide hR5
    have HQ5 := hide hq5
    have HB5 := hide hB5
    have HW5 := hide hW5
    have hz5' : B + 1 ≤ W5.heap.size := by omega
    have HB := hide hB
    obtain ⟨k0, k1, k2, k3, -⟩ := Row4.facts hR5
    clear hM hb4 hwf hwL hS5 hb45 hR5 hq5 hB4 hB5 hz5 hq3 HLL HR3 HQ3 hB
    rw [unhide HW5] at k0 k1 k2 k3
    clear hW5
    go_wp2_with fail
    rw [← unhide HW5, ← unhide HB]
    clear HW5 HB k0 k1 k2 k3
    go_loopw [24] (fun iv wr => ∃ (i : Nat) (g : Nat → Nat), i ≤ xss.length ∧ iv = .int .i64 (i : Nat) ∧ wr.rowIs B 62 16 (lnW g) ∧ LnU i g ∧ Obk B W5 wr) (fun iv _ => xss.length - (intOf iv).toNat)
    case atStart => exact ⟨0, _, by omega, rfl, unhide HS5, LnU.zero, ⟨rfl, rfl, rfl, rfl, fun _ _ => rfl⟩⟩
    case round =>
      clear HS5
      obtain ⟨i, g, hi, rfl, hS, hU, hob⟩ := hrel
      obtain ⟨w6, rfl⟩ : ∃ w6, w6 = wr := ⟨_, rfl⟩
      by_cases hil : i < xss.length
      · have hil' : (i : Int) < (xss.length : Int) := by omega
        have HPU := hide (lnPut_any B i g w6 hU.1 (by omega) hS)
        have HU2 := hide hU.next
        have HOB := hide hob
        clear hS hU hob
        go_wp2_with fail
        refine (unhide HPU).mono ?_
        rintro e w7 ⟨rfl, hS7, hob7⟩
        have HS7 := hide hS7
        have HOB7 := hide ((unhide HOB).trans hob7)
        clear hS7 hob7 HPU HOB
        go_wp2
        go_roundw
        case rel => exact ⟨i + 1, _, by omega, by go_num, unhide HS7, unhide HU2, unhide HOB7⟩
        case measure => simp [intOf]; omega
      · have hil' : ¬ (i : Int) < (xss.length : Int) := by omega
        have HRS : Hid (RsI base n ks pss qss 0 g) := by rw [show n = i by omega]; exact hU.rsI base ks pss qss
        have HS := hide hS
        have hz6 : B + 1 ≤ w6.heap.size := by rw [hob.size]; exact hz5'
        have HF6 : Hid (FrO (fun k => k = B ∨ B + 1 ≤ k) W5 w6) := ⟨hob.os, hob.tape, hob.output, by rw [hob.size]; exact Nat.le_refl _, fun k hk => hob.block k (fun e => hk (.inl e))⟩
        have hq6 : w6.cell? ⟨w.heap.size + 1, 0, none⟩ = some (.slice ua qss.length uc) := by rw [World.cell?_of_block (a := ⟨w.heap.size + 1, 0, none⟩) (hob.block (w.heap.size + 1) (by omega))]; exact unhide HQ5
        clear hS hU hob
        go_wp2_with fail
        clear hq6
        go_loopw [33] (fun cv wr => ∃ (c : Nat) (g : Nat → Nat), c ≤ qss.length ∧ cv = .int .i64 (c : Nat) ∧ wr.rowIs B 62 16 (lnW g) ∧ RsI base n ks pss qss c g ∧ FrO (fun k => k = B ∨ B + 1 ≤ k) W5 wr) (fun cv _ => qss.length - (intOf cv).toNat)
        case atStart => exact ⟨0, _, by omega, rfl, unhide HS, unhide HRS, unhide HF6⟩
        case round =>
          clear HS HRS HF6
          obtain ⟨c, g, hc, rfl, hS, hRs, hfr⟩ := hrel
          obtain ⟨w7, rfl⟩ : ∃ w7, w7 = wr := ⟨_, rfl⟩
          have hz7 := hfr.size
          have hb57 : Below B W5 w7 := hfr.below (fun k hk hg => by rcases hg with q | q <;> omega)
          have hB7 : Below w.heap.size w w7 := (unhide HB5).trans (hb57.mono (by omega))
          by_cases hcl : c < qss.length
          · have hcl' : (c : Int) < (qss.length : Int) := by omega
            obtain ⟨qb, qo, sa, sc, rfl, z0, hqs⟩ := unhide HUS w7 hB7 c hcl
            obtain ⟨ts, hts⟩ : ∃ ts, ts = qss[c]?.getD [] := ⟨_, rfl⟩
            rw [← hts] at z0 hqs
            have HRN : Hid (RsI base n ks pss qss (c + 1) ((blkOf (mAll hw g ts) 16).foldl lnX g)) := by rw [hts]; exact hRs.next (unhide HLN c hcl) (by omega)
            have HBL := hide (blocks_any B g w7 hS)
            have htl : ts.length ≤ 1000 := by rw [hts]; exact (unhide HRC).2.2.2.2 c hcl
            have HTI : Hid (∀ t ∈ ts, In64' t) := fun t ht => by
              obtain ⟨j, hj, e9⟩ := List.getElem_of_mem ht
              have := unhide HQI c j
              rw [← hts, List.getElem?_eq_getElem hj] at this
              simpa [e9] using this
            have HKT : Hid (∀ (W : World) (gg : Nat), Below B W5 W → B ≤ gg → MpAt W mb nn dom mL ∧ ∀ t ∈ ts, BlR W (mL t) (hw t) gg) := fun W gg h1 h2 => by rw [hts]; exact unhide HKP W gg h1 h2 c hcl
            have HQS := hide hqs
            have HS := hide hS
            have HGF := hide hRs.1
            have HFR := hide hfr
            have HB57 := hide hb57
            clear hS hRs hfr hqs hb57 hB7 hts
            go_wp2_with fail
            refine (unhide HBL).mono ?_
            rintro e w8 ⟨bv, rfl, hown, hb8⟩
            have hz8 := hb8.size
            obtain ⟨gg, cap, ba, bc, rfl, hgg, hrow⟩ := own_mts hown
            have hS8 : w8.rowIs B 62 16 (lnW g) := World.rowIs.of_block (unhide HS) (hb8.block B (by omega))
            have HLB := hide (listed_any gg (cap * 2) cap mb nn g hw dom mL ts ba bc (.slice sa ts.length sc) w8 (Nat.le_refl _) hrow (unhide HGF) (unhide HWF) (unhide HTI) htl (fun W hW => by
              have hBW : Below B W5 W := (unhide HB57).trans ((hb8.mono (by omega)).trans (hW.below (fun k hk hg => by rcases hg with q | q <;> omega)))
              obtain ⟨m1, m2⟩ := unhide HKT W gg hBW (by omega)
              exact ⟨unhide HQS W ((unhide HB5).trans (hBW.mono (by omega))), m1, m2⟩))
            obtain ⟨bl, hbl⟩ : ∃ bl, bl = (blkOf g 16).length := ⟨_, rfl⟩
            rw [← hbl] at HLB ⊢
            have HRL : Hid (0 < (blkOf (mAll hw g ts) 16).length → (blkOf (mAll hw g ts) 16).length ≤ cap) := fun h0 => by
              have h1 := blk_len_le (hw := hw) ts g
              have := (hrow (by omega)).2.2.1
              omega
            have HS8 := hide hS8
            have HB8 := hide hb8
            clear hown hb8 hrow hS8 hbl HBL HS
            go_wp2_with fail
            refine (unhide HLB).mono ?_
            rintro e w9 ⟨hfr9, hLb⟩
            obtain ⟨ra, rc, rfl, hR9⟩ := hLb
            obtain ⟨RR, hRR⟩ : ∃ RR, RR = blkOf (mAll hw g ts) 16 := ⟨_, rfl⟩
            rw [← hRR] at hR9 HRN ⊢
            have hrl : RR.length ≤ 16 := by rw [hRR]; exact blkOf_len _ _
            have HRM : Hid (∀ p ∈ RR, p.1 < 16 ∧ p.2 < 18446744073709551616) := fun p hp => by
              rw [hRR] at hp
              have := blkOf_mem.1 hp
              exact ⟨this.1, by rw [this.2.2]; exact mAll_fit ts (unhide HGF) _⟩
            have hz9 := hfr9.size
            have hgB : gg ≠ B := by omega
            have HRC9 : Hid (0 < RR.length → ra = some ⟨gg, 0, none⟩ ∧ gg < w9.heap.size ∧ ∀ (k : Nat) (p : Nat × Nat), RR[k]? = some p → w9.cell? ⟨gg, k * 2, none⟩ = some (.int .i64 (p.1 : Nat)) ∧ w9.cell? ⟨gg, k * 2 + 1, none⟩ = some (.int .u64 (p.2 : Nat))) := fun h0 => by
              obtain ⟨e1, hM9⟩ := hR9 h0
              refine ⟨e1, by obtain ⟨F, hF, -⟩ := hM9.row; exact hF.lt, fun k p hp => hM9.at hp ?_⟩
              have := unhide HRL (by rw [← hRR]; exact h0)
              rw [← hRR] at this
              omega
            have hS9 : w9.rowIs B 62 16 (lnW g) := World.rowIs.of_block (unhide HS8) (hfr9.block B (by rintro (q | q) <;> omega))
            have HF9 : Hid (FrO (fun k => k = B ∨ B + 1 ≤ k) W5 w9) := (unhide HFR).trans ((fro_of (unhide HB8) (fun k hk => .inr (by omega))).trans (hfr9.mono (fun k hk => by rcases hk with q | q <;> exact .inr (by omega))))
            have HS9 := hide hS9
            clear hfr9 hR9 hS9 hRR HRL HLB HS8 HB8 HFR HB57 HKT HQS HTI
            go_wp2_with fail
            go_loopw [42] (fun kv wr => ∃ k : Nat, k ≤ RR.length ∧ kv = .int .i64 (k : Nat) ∧ wr.rowIs B 62 16 (lnW ((RR.take k).foldl lnX g)) ∧ FrO (fun k => k = B ∨ w9.heap.size ≤ k) w9 wr) (fun kv _ => RR.length - (intOf kv).toNat)
            case atStart => exact ⟨0, by omega, rfl, unhide HS9, FrO.refl _ _⟩
            case round =>
              clear HS9 z0
              obtain ⟨k, hk, rfl, hS, hfr⟩ := hrel
              obtain ⟨wa, rfl⟩ : ∃ wa, wa = wr := ⟨_, rfl⟩
              have hza := hfr.size
              by_cases hkl : k < RR.length
              · have hkl' : (k : Int) < (RR.length : Int) := by omega
                obtain ⟨rfl, hgw, hcc⟩ := unhide HRC9 (by omega)
                obtain ⟨p, hp⟩ : ∃ p, RR[k]? = some p := ⟨_, List.getElem?_eq_getElem hkl⟩
                obtain ⟨hp1, hp2⟩ := unhide HRM p (List.mem_of_getElem? hp)
                obtain ⟨c0, c1⟩ := hcc k p hp
                obtain ⟨pn, pb⟩ := p
                have hblk : wa.heap[gg]? = w9.heap[gg]? := hfr.block gg (by rintro (q | q) <;> omega)
                have c0 : wa.cell? ⟨gg, k * 2, none⟩ = some (.int .i64 (pn : Nat)) := by rw [World.cell?_of_block (a := ⟨gg, k * 2, none⟩) hblk]; exact c0
                have c1 : wa.cell? ⟨gg, k * 2 + 1, none⟩ = some (.int .u64 (pb : Nat)) := by rw [World.cell?_of_block (a := ⟨gg, k * 2 + 1, none⟩) hblk]; exact c1
                obtain ⟨G, hG⟩ : ∃ G, G = (RR.take k).foldl lnX g := ⟨_, rfl⟩
                rw [← hG] at hS
                have HGN : Hid ((RR.take (k + 1)).foldl lnX g = lnX G (pn, pb)) := by
                  show (RR.take (k + 1)).foldl lnX g = _
                  rw [List.take_add_one, hp, List.foldl_append, ← hG]
                  rfl
                have hGF : LnF G := by rw [hG]; exact fold_fit _ (unhide HGF)
                obtain ⟨W1, hW1⟩ : ∃ W1, W1 = wa.alloc (.cells #[.int .i64 (pn : Nat), .int .u64 (pb : Nat)] 68) := ⟨_, rfl⟩
                have hO1 : Lb2 W1 wa.heap.size pn pb := by rw [hW1]; exact Lb2.new wa pn pb
                obtain ⟨ob, hob⟩ : ∃ ob, ob = wa.heap.size := ⟨_, rfl⟩
                rw [← hob] at hO1
                have hS1 : W1.rowIs B 62 16 (lnW G) := World.rowIs.of_block hS (by rw [hW1]; exact (below1 wa _).block B (by omega))
                have HF1 : Hid (FrO (fun k => k = B ∨ w9.heap.size ≤ k) w9 W1) := hfr.trans (by rw [hW1]; exact fro_of (below1 wa _) (fun k hk => .inr (by omega)))
                obtain ⟨k0, k1⟩ := hO1.cells
                have r0 := hS1.cell (i := pn) hp1
                have f0 := hS1.frozen pn
                unfold lnW at r0
                have hp1' : (pn : Int) < 16 := by omega
                have HAN := hide (ln_anb (G pn) pb (hGF pn) hp2)
                have hne : ob ≠ B := by omega
                have HW1 := hide hW1
                have HOB := hide hob
                have HS1 := hide hS1
                clear hp hblk hcc hG hGF hW1 hO1 hob hS1 hS hfr hp2
                go_wp2_with fail
                rw [← unhide HW1, ← unhide HOB]
                clear HW1 HOB c0 c1
                go_region
                rw [unhide HAN]
                generalize hV : World.drew _ = V
                have HSV : Hid (V.rowIs B 62 16 (lnW ((RR.take (k + 1)).foldl lnX g))) := by rw [unhide HGN, ← hV]; exact ln_clr (unhide HS1)
                have HFV : Hid (FrO (fun k => k = B ∨ w9.heap.size ≤ k) w9 V) := by
                  have h9 : Obk B W1 V := by rw [← hV]; exact (obk_put _ _).drew
                  exact (unhide HF1).trans ⟨h9.os, h9.tape, h9.output, by rw [h9.size]; exact Nat.le_refl _, fun k hk => h9.block k (fun e => hk (.inl e))⟩
                clear hV k0 k1 r0 f0 HS1 HF1 HAN
                go_wp2
                go_roundw
                case rel => exact ⟨k + 1, by omega, by go_num, unhide HSV, unhide HFV⟩
                case measure => simp [intOf]; omega
              · have hkl' : ¬ (k : Int) < (RR.length : Int) := by omega
                have HSN : Hid (wa.rowIs B 62 16 (lnW (RR.foldl lnX g))) := by rw [List.take_of_length_le (by omega)] at hS; exact hS
                have HFN : Hid (FrO (fun k => k = B ∨ B + 1 ≤ k) W5 wa) := (unhide HF9).trans (hfr.mono (fun k hk => by rcases hk with q | q; exact .inl q; exact .inr (by omega)))
                clear hS hfr
                go_wp2
                go_roundw
                case rel => exact ⟨c + 1, _, by omega, by go_num, unhide HSN, unhide HRN, unhide HFN⟩
                case measure => simp [intOf]; omega
          · have hcl' : ¬ (c : Int) < (qss.length : Int) := by omega
            have HRS : Hid (RsI base n ks pss qss qss.length g) := by rw [show qss.length = c by omega]; exact hRs
            have hR7 := World.rowIs.of_block (unhide HR5) (hb57.block w.heap.size (by omega))
            obtain ⟨k0, k1, k2, k3, -⟩ := Row4.facts hR7
            have HR7 := hide hR7
            have HS := hide hS
            have HB7 := hide hB7
            have hw7 := hB7.size
            have hgf := (unhide HRS).1
            have HGF := hide hgf
            clear hS hRs hfr hb57 hR7 hB7 hgf
            go_wp2_with fail
            clear k0 k1 k2 k3
            go_loopw [12, 59] (fun av iv wx => ∃ (i : Nat) (zs : List Int), i ≤ xss.length ∧ iv = .int .i64 (i : Nat) ∧ zs = cndL base i (smB base ks pss qss qss.length) ∧ wx.ownsRow w7.heap.size 3 1 av zs.length (zs.map mI) ∧ Below w7.heap.size w7 wx) (fun _ iv _ => xss.length - (intOf iv).toNat)
            case atStart => exact ⟨0, [], by omega, rfl, rfl, World.ownsRow_nil _ _ _ _, Below.refl _ _⟩
            case round =>
              obtain ⟨i, zs, hi, rfl, hzs, hown, hb⟩ := hrel
              obtain ⟨w8, rfl⟩ : ∃ w8, w8 = wr := ⟨_, rfl⟩
              have hz8 := hb.size
              have hS8 := World.rowIs.of_block (unhide HS) (hb.block B (by omega))
              have hR8 := World.rowIs.of_block (unhide HR7) (hb.block w.heap.size (by omega))
              obtain ⟨k0, k1, k2, k3, -⟩ := Row4.facts hR8
              obtain ⟨av, ac, e1⟩ := own_is hown
              subst e1
              have hzl : zs.length ≤ 1000 := by rw [hzs]; exact Nat.le_trans (cndL_len _ _ _) (by omega)
              have HOWN := hide hown
              have HB := hide hb
              by_cases hil : i < xss.length
              · have hil' : (i : Int) < (xss.length : Int) := by omega
                have HHA := hide (lnHas_any B i g w8 (unhide HGF) (by omega) hS8)
                have hfin := (unhide HRS).fin (i := i) (by omega)
                obtain ⟨y, hy⟩ : ∃ y, y = LnB g i := ⟨_, rfl⟩
                rw [← hy] at HHA hfin
                cases y with
                | true =>
                  have HZ : Hid (zs = cndL base (i + 1) (smB base ks pss qss qss.length)) := by rw [cndL_no (fun q => by have := hfin.2 ((smB_iff _ _ _ _ _ _).1 q); cases this)]; exact hzs
                  clear hzs hown hb hS8 hR8 hy hfin
                  go_wp2_with fail
                  refine (unhide HHA).mono ?_
                  rintro e w9 ⟨rfl, rfl⟩
                  clear HHA
                  go_wp2
                  go_roundw
                  case rel => exact ⟨i + 1, zs, by omega, by go_num, unhide HZ, unhide HOWN, unhide HB⟩
                  case measure => simp [intOf]; omega
                | false =>
                  have HZ : Hid (zs ++ [wrap64 (base + i)] = cndL base (i + 1) (smB base ks pss qss qss.length)) := by show zs ++ _ = _; rw [cndL_yes ((smB_iff _ _ _ _ _ _).2 (hfin.1 rfl)), ← hzs]
                  clear hzs hown hb hS8 hR8 hy hfin
                  go_wp2_with fail
                  refine (unhide HHA).mono ?_
                  rintro e w9 ⟨rfl, rfl⟩
                  clear HHA
                  go_wp2_with (at_builtin; refine app_i1 rfl _ _ rfl w7.heap.size (.slice av zs.length ac) rfl (wrap64 (base + i)) rfl zs (unhide HOWN) ?_ ?_ ?_)
                  · omega
                  · omega
                  intro v9 w10 r1 r2
                  obtain ⟨zs2, hzs2⟩ : ∃ zs2, zs2 = zs ++ [wrap64 (base + i)] := ⟨_, rfl⟩
                  have r1 : w10.ownsRow w7.heap.size 3 1 v9 zs2.length (zs2.map mI) := by rw [hzs2, List.length_append, List.map_append]; exact r1
                  rw [← hzs2] at HZ
                  obtain ⟨a7, c7, e7⟩ := own_is r1
                  subst e7
                  have HO7 := hide r1
                  have HB9 := hide ((unhide HB).trans r2)
                  clear r1 r2 hzs2 HOWN HB k0 k1 k2 k3
                  go_wp2
                  go_roundw
                  case rel => exact ⟨i + 1, zs2, by omega, by go_num, unhide HZ, unhide HO7, unhide HB9⟩
                  case measure => simp [intOf]; omega
              · have hil' : ¬ (i : Int) < (xss.length : Int) := by omega
                have hzR : zs = R := by rw [hzs, unhide HRE, show i = n by omega]
                have HZR := hide hzR
                clear hzs hown hb hS8 hR8 hzR
                go_wp2
                go_ret
                rw [← unhide HZR]
                exact ⟨_, rfl, own_low (unhide HOWN) hw7, (unhide HB7).trans ((unhide HB).mono hw7)⟩
theorem own_ne {b b' e e' s s' n n' : Nat} {w : World} {v v' : Value} {xs xs' : List Value} (h : w.ownsRow b e s v n xs) (h' : w.ownsRow b' e' s' v' n' xs') (he : e ≠ e') : v.ownBlock = none ∨ v.ownBlock ≠ v'.ownBlock := by
  rcases h.2 with ⟨rfl, _⟩ | ⟨g, cap, cur, rfl, _, hg, _⟩
  · exact Or.inl rfl
  · refine Or.inr (fun e1 => ?_)
    rcases h'.2 with ⟨rfl, _⟩ | ⟨g', cap', cur', rfl, _, hg', _⟩
    · simp [Value.ownBlock] at e1
    · obtain rfl : g = g' := by simpa [Value.ownBlock] using e1
      rw [hg] at hg'
      simp at hg'
      exact he hg'.2
theorem LL.grown {α : Type} {mk : α → Value} {d : α} {e te : TypeId} {base : Nat} {w w' : World} {v : Value} {ps : List (Cl α)} {row : Option Nat} (h : LL mk d e te base w v ps) (hg : w.grownBy w' row) (hr : v.ownBlock = none ∨ v.ownBlock ≠ row) (he : ∀ p ∈ ps, 0 < p.xs.length → some p.b ≠ row) : LL mk d e te base w' v ps :=
  ⟨h.own.kept hg hr, fun p hp => (h.ok p hp).same (fun h0 => hg.block p.b ((h.ok p hp).lt h0) (he p hp h0)), h.lo, h.apart⟩
theorem grown_alloc (w : World) (o : Obj) : w.grownBy (w.alloc o) none := ⟨rfl, rfl, rfl, by rw [sz_alloc]; omega, fun k hk _ => (pushd_alloc w o).old hk⟩
structure GT (n0 : Nat) (w : World) (kv : Value) (ks : List Int) (pv : Value) (ps : List (Cl Int)) : Prop where
  keys : w.ownsRow n0 3 1 kv ks.length (ks.map mI)
  ll : LL mI 0 3 34 n0 w pv ps
  kap : ∀ p ∈ ps, 0 < p.xs.length → some p.b ≠ kv.ownBlock
structure GS (n0 : Nat) (w : World) (kv : Value) (ks : List Int) (pv : Value) (ps : List (Cl Int)) : Prop extends GT n0 w kv ks pv ps where
  last : ∀ ps' q, ps = ps' ++ [q] → w.ownsRow n0 3 1 q.v q.xs.length (q.xs.map mI) ∧ (q.v.ownBlock = none ∨ (0 < q.xs.length ∧ q.v.ownBlock = some q.b))
theorem GT.nil {n0 : Nat} {w : World} : GS n0 w (.slice none 0 0) [] (.slice none 0 0) [] := ⟨⟨World.ownsRow_nil _ _ _ _, LL.nil, by simp⟩, fun ps' q e => by simp at e⟩
theorem GT.drewN {n0 : Nat} {w : World} {kv pv : Value} {ks : List Int} {ps : List (Cl Int)} (h : GT n0 w kv ks pv ps) (q : Nat) : GT n0 (w.drewN q) kv ks pv ps := ⟨h.keys, ⟨h.ll.own, h.ll.ok, h.ll.lo, h.ll.apart⟩, h.kap⟩
theorem GS.drewN {n0 : Nat} {w : World} {kv pv : Value} {ks : List Int} {ps : List (Cl Int)} (h : GS n0 w kv ks pv ps) (q : Nat) : GS n0 (w.drewN q) kv ks pv ps := ⟨h.toGT.drewN q, h.last⟩
theorem GT.key {n0 : Nat} {w w' : World} {kv kv' pv : Value} {ks : List Int} {ps : List (Cl Int)} {k : Int} {o : Obj} (h : GT n0 w kv ks pv ps) (hn : n0 ≤ w.heap.size) (h1 : w'.ownsRow n0 3 1 kv' (ks.length + 1) (ks.map mI ++ [.int .i64 k])) (hg : (w.alloc o).grownBy w' kv.ownBlock)
    (hat : kv'.ownBlock = kv.ownBlock ∨ kv'.ownBlock = some (w.alloc o).heap.size) : GT n0 w' kv' (ks ++ [k]) pv ps ∧ Below n0 w w' := by
  refine ⟨⟨by rw [List.length_append, List.map_append]; exact h1, (h.ll.grown (grown_alloc w o) (by cases pv.ownBlock <;> simp) (fun _ _ _ => by simp)).grown hg ?_ h.kap, fun p hp h0 => ?_⟩, ((below1 w o).mono hn).grown hg (by rw [sz_alloc]; omega) (fun j hj => (h.keys.lt j hj).1)⟩
  · exact own_ne h.ll.own h.keys (by decide)
  · rcases hat with e | e
    · rw [e]; exact h.kap p hp h0
    · rw [e]
      intro e2
      have h2 := (h.ll.ok p hp).lt h0
      rw [sz_alloc] at e2
      have := Option.some.inj e2
      omega
theorem GT.post0 {n0 : Nat} {w w' : World} {kv pv pv' : Value} {ks : List Int} {ps : List (Cl Int)} {o : Obj} (h : GT n0 w kv ks pv ps) (hn : n0 ≤ w.heap.size) (h1 : w'.ownsRow n0 34 1 pv' (ps.length + 1) (ps.map Cl.v ++ [.slice none 0 0])) (hg : (w.alloc o).grownBy w' pv.ownBlock) :
    GS n0 w' kv ks pv' (ps ++ [⟨.slice none 0 0, [], 0⟩]) ∧ Below n0 w w' := by
  obtain ⟨r1, r2⟩ := h.ll.app (p := ⟨.slice none 0 0, [], 0⟩) (by decide) hn ⟨none, 0, rfl, ⟨Nat.le_refl _, Nat.zero_le _⟩, fun h0 => absurd h0 (by simp)⟩ (fun h0 => absurd h0 (by simp)) (fun q _ _ h0 => absurd h0 (by simp)) (pushd_alloc w o) h1 hg
  refine ⟨⟨⟨(h.keys.alloc o).kept hg ?_, r1, fun p hp h0 => ?_⟩, fun ps' q e => ?_⟩, r2⟩
  · exact own_ne h.keys h.ll.own (by decide)
  · rcases List.mem_append.1 hp with hp | hp
    · exact h.kap p hp h0
    · rw [List.mem_singleton] at hp
      subst hp
      exact absurd h0 (by simp)
  · have e2 := (List.append_inj' e rfl).2
    rw [List.singleton_inj] at e2
    subst e2
    exact ⟨World.ownsRow_nil _ _ _ _, Or.inl rfl⟩
theorem own_block_is {base e n : Nat} {w : World} {v : Value} {xs : List Int} (h : w.ownsRow base e 1 v n (xs.map mI)) (hp : 0 < n) : ∃ g, v.ownBlock = some g ∧ Cl.ok mI 0 e w ⟨v, xs, g⟩ ∧ base ≤ g ∧ g < w.heap.size := by
  have hlen := h.1
  rw [List.length_map, Nat.mul_one] at hlen
  rcases h.2 with ⟨rfl, hz⟩ | ⟨g, cap, cur, rfl, hbg, hg, hnc, hcm, hcs, htake⟩
  · omega
  · refine ⟨g, rfl, ⟨some ⟨g, 0, none⟩, cap, by rw [hlen], ⟨by show xs.length ≤ cap; omega, hcm⟩, fun hp => ⟨0, rfl, ⟨cur, hg⟩, fun i hi => ?_⟩⟩, hbg, (h.lt g rfl).2⟩
    have hi' : i < xs.length := hi
    show w.cell? ⟨g, 0 + i, none⟩ = some (mI (xs[i]?.getD 0))
    rw [Nat.zero_add, h.cellAt i (by omega), List.getElem?_map, List.getElem?_eq_getElem hi']
    rfl
theorem GS.post {n0 g : Nat} {w w' : World} {kv v' : Value} {ks : List Int} {ps : List (Cl Int)} {q : Cl Int} {x : Int} {o : Obj} {cap : Nat} (h : GS n0 w kv ks (.slice (some ⟨g, 0, none⟩) (ps.length + 1) cap) (ps ++ [q])) (hn : n0 ≤ w.heap.size)
    (h1 : w'.ownsRow n0 3 1 v' (q.xs.length + 1) (q.xs.map mI ++ [.int .i64 x])) (hg : (w.alloc o).grownBy w' q.v.ownBlock) (hat : v'.ownBlock = q.v.ownBlock ∨ v'.ownBlock = some (w.alloc o).heap.size) :
    ∃ q' : Cl Int, q'.xs = q.xs ++ [x] ∧ GS n0 (w'.setCell ⟨g, ps.length, none⟩ v') kv ks (.slice (some ⟨g, 0, none⟩) (ps.length + 1) cap) (ps ++ [q']) ∧ Below n0 w (w'.setCell ⟨g, ps.length, none⟩ v') ∧ w'.cell? ⟨g, ps.length, none⟩ = some q.v ∧ w'.frozen? ⟨g, ps.length, none⟩ = false := by
  obtain ⟨hq, hqb⟩ := h.last ps q rfl
  have h1' : w'.ownsRow n0 3 1 v' (q.xs ++ [x]).length ((q.xs ++ [x]).map mI) := by rw [List.length_append, List.map_append]; exact h1
  obtain ⟨g', e', hok', hlo', hlt'⟩ := own_block_is (xs := q.xs ++ [x]) (n := (q.xs ++ [x]).length) h1' (by simp)
  have hrow : w.ownsRow n0 34 1 (.slice (some ⟨g, 0, none⟩) (ps.length + 1) cap) (ps.length + 1) ((ps ++ [q]).map Cl.v) := by
    have := h.ll.own
    rwa [List.length_append] at this
  have hgn : n0 ≤ g := by
    rcases hrow.2 with ⟨e, _⟩ | ⟨g2, cap2, cur, e, hb, _⟩
    · cases e
    · cases e; exact hb
  have hge : (some g) ≠ q.v.ownBlock := by
    intro e
    rcases own_ne hq hrow (by decide) with e2 | e2
    · rw [e2] at e; cases e
    · rw [← e] at e2; exact e2 rfl
  have hg' : g ≠ g' := by
    intro e
    obtain ⟨a2, c2, -, -, hc2⟩ := hok'
    obtain ⟨off, -, ⟨c3, hb3⟩, -⟩ := hc2 (by simp)
    rcases hat with e3 | e3
    · rw [e'] at e3; rw [← e] at e3; exact hge e3
    · rw [e'] at e3
      have h5 := Option.some.inj e3
      rw [sz_alloc] at h5
      have h6 : g < w.heap.size := (hrow.lt g rfl).2
      omega
  have hrow' : w'.ownsRow n0 34 1 (.slice (some ⟨g, 0, none⟩) (ps.length + 1) cap) (ps.length + 1) ((ps ++ [q]).map Cl.v) := (hrow.alloc o).kept hg (Or.inr hge)
  have hset := own_set (k := ps.length) (u := v') hrow' (by omega)
  have hkq : kv.ownBlock = none ∨ kv.ownBlock ≠ q.v.ownBlock := by
    rcases hqb with e | ⟨hq0, e⟩
    · rw [e]
      cases kv.ownBlock <;> simp
    · rw [e]
      exact Or.inr (fun e2 => h.kap q (by simp) hq0 e2.symm)
  have hkeys' : w'.ownsRow n0 3 1 kv ks.length (ks.map mI) := (h.keys.alloc o).kept hg hkq
  have hgk : w'.grownBy (w'.setCell ⟨g, ps.length, none⟩ v') (some g) := ⟨rfl, rfl, rfl, by rw [sz_put]; exact Nat.le_refl _, fun k _ hk => Below.heap_setCell _ _ _ k (fun e => hk (by rw [e]))⟩
  have hother : ∀ p ∈ ps, 0 < p.xs.length → some p.b ≠ q.v.ownBlock := fun p hp h0 => by
    rcases hqb with e | ⟨hq0, e⟩
    · rw [e]; simp
    · rw [e]
      intro e2
      have hap := (List.pairwise_append.1 h.ll.apart).2.2 p hp q (by simp) h0 hq0
      exact hap (Option.some.inj e2)
  have hpg : ∀ p : Cl Int, p.ok mI 0 3 w → 0 < p.xs.length → p.b ≠ g := fun p hp h0 e => by
    have := h.ll.not_row (by decide) hp rfl h0
    rw [e] at this
    exact this rfl
  refine ⟨⟨v', q.xs ++ [x], g'⟩, rfl, ⟨⟨hkeys'.kept hgk ?_, ⟨?_, fun p hp => ?_, fun p hp h0 => ?_, ?_⟩, fun p hp h0 => ?_⟩, fun ps' q' e => ?_⟩, ?_, ?_, ?_⟩
  · exact own_ne hkeys' hrow' (by decide)
  · rw [List.length_append, List.map_append]
    have e9 : ((ps ++ [q]).map Cl.v).set ps.length v' = ps.map Cl.v ++ [v'] := by
      rw [List.map_append, List.set_append_right _ _ (by rw [List.length_map]; exact Nat.le_refl _), List.length_map, Nat.sub_self]
      rfl
    rw [e9] at hset
    exact hset
  · rcases List.mem_append.1 hp with hp | hp
    · refine (h.ll.ok p (by simp [hp])).same (fun h0 => ?_)
      have hlt := (h.ll.ok p (by simp [hp])).lt h0
      rw [Below.heap_setCell _ _ _ _ (by show p.b ≠ g; exact hpg p (h.ll.ok p (by simp [hp])) h0), hg.block p.b (by rw [sz_alloc]; omega) (hother p hp h0), (pushd_alloc w o).old hlt]
    · rw [List.mem_singleton] at hp
      subst hp
      exact hok'.same (fun _ => Below.heap_setCell _ _ _ _ (by show g' ≠ g; exact fun e => hg' e.symm))
  · rcases List.mem_append.1 hp with hp | hp
    · exact h.ll.lo p (by simp [hp]) h0
    · rw [List.mem_singleton] at hp
      subst hp
      exact hlo'
  · refine List.pairwise_append.2 ⟨(List.pairwise_append.1 h.ll.apart).1, List.pairwise_singleton _ _, fun p hp r hr h0 _ => ?_⟩
    rw [List.mem_singleton] at hr
    subst hr
    show p.b ≠ g'
    intro e
    rcases hat with e3 | e3
    · rw [e'] at e3
      exact hother p hp h0 (by rw [e]; exact e3)
    · rw [e'] at e3
      have h5 := Option.some.inj e3
      rw [sz_alloc] at h5
      have := (h.ll.ok p (by simp [hp])).lt h0
      omega
  · rcases List.mem_append.1 hp with hp | hp
    · exact h.kap p (by simp [hp]) h0
    · rw [List.mem_singleton] at hp
      subst hp
      show some g' ≠ kv.ownBlock
      intro e
      rcases hat with e3 | e3
      · rw [e'] at e3
        rcases hkq with e4 | e4
        · rw [e4] at e; cases e
        · exact e4 (by rw [← e, e3])
      · rw [e'] at e3
        have h5 := Option.some.inj e3
        rw [sz_alloc] at h5
        have := (h.keys.lt g' e.symm).2
        omega
  · have e2 := (List.append_inj' e rfl).2
    rw [List.singleton_inj] at e2
    subst e2
    refine ⟨h1'.kept hgk ?_, Or.inr ⟨by simp, e'⟩⟩
    rw [e']
    exact Or.inr (fun e => hg' (Option.some.inj e).symm)
  · exact bput (((below1 w o).mono hn).grown hg (by rw [sz_alloc]; omega) (fun j hj => (hq.lt j hj).1)) hgn _
  · rw [hrow'.cellAt ps.length (by omega), List.map_append, List.getElem?_append_right (by rw [List.length_map]; exact Nat.le_refl _), List.length_map, Nat.sub_self]
    rfl
  · rcases hrow'.2 with ⟨e, _⟩ | ⟨g2, cap2, cur, e, _, hgb, _⟩
    · cases e
    · cases e
      exact frz ⟨_, _, hgb⟩
theorem plcs_mem (xss : List (List Int)) (n : Nat) (p : Int) : p ∈ plcs xss n ↔ ∃ i : Nat, i < n ∧ ∃ t, t ∈ tr (xss[i]?.getD []) ∧ p = t * 1000 + i := by
  induction n with
  | zero => simp [plcs]
  | succ n ih =>
    rw [plcs, List.mem_append, ih]
    constructor
    · rintro (⟨i, hi, t, ht, e⟩ | h)
      · exact ⟨i, by omega, t, ht, e⟩
      · unfold plc at h
        obtain ⟨t, ht, e⟩ := List.mem_map.1 h
        exact ⟨n, by omega, t, ht, e.symm⟩
    · rintro ⟨i, hi, t, ht, e⟩
      by_cases q : i < n
      · exact Or.inl ⟨i, q, t, ht, e⟩
      · obtain rfl : i = n := by omega
        exact Or.inr (List.mem_map.2 ⟨t, ht, e.symm⟩)
theorem allT_mem (xss : List (List Int)) (z : Int) : z ∈ allT xss ↔ ∃ i : Nat, i < xss.length ∧ z ∈ tr (xss[i]?.getD []) := by
  unfold allT
  rw [List.mem_flatMap]
  constructor
  · rintro ⟨x, hx, hz⟩
    obtain ⟨i, hi, e⟩ := List.mem_iff_getElem.1 hx
    exact ⟨i, hi, by rw [List.getElem?_eq_getElem hi]; show z ∈ tr xss[i]; rw [e]; exact hz⟩
  · rintro ⟨i, hi, hz⟩
    rw [List.getElem?_eq_getElem hi] at hz
    exact ⟨xss[i], List.getElem_mem _, hz⟩
theorem tr_nonneg {bs : List Int} (h : Bytes bs) {t : Int} (ht : t ∈ tr bs) : 0 ≤ t ∧ t ≤ 16777215 := by
  unfold tr tris at ht
  obtain ⟨i, -, rfl⟩ := List.mem_map.1 ht
  have h0 := h i
  have h1 := h (i + 1)
  have h2 := h (i + 2)
  have e : tri3 bs i = bs[i]?.getD 0 * 65536 + bs[i + 1]?.getD 0 * 256 + bs[i + 2]?.getD 0 := rfl
  omega
theorem totI_app {α : Type} (a b : List (List α)) : tot (a ++ b) = tot a + tot b := by
  induction a with
  | nil => simp [tot]
  | cons x r ih => simp only [List.cons_append, tot, ih]; omega
structure KInv (base : Int) (zs : List Int) (m : Nat) (ks : List Int) (pss : List (List Int)) : Prop where
  asc : Asc ks
  mem : ∀ z, z ∈ ks ↔ ∃ p, p ∈ zs.take m ∧ z = p / 1000
  len : pss.length = ks.length
  post : ∀ j : Nat, j < ks.length → Asc (pss[j]?.getD []) ∧ ∀ x, x ∈ pss[j]?.getD [] ↔ ∃ p, p ∈ zs.take m ∧ p / 1000 = ks[j]?.getD 0 ∧ x = base + p % 1000
  cnt : tot pss ≤ m ∧ ks.length ≤ m
theorem KInv.start (base : Int) (zs : List Int) : KInv base zs 0 [] [] := ⟨List.Pairwise.nil, by simp, rfl, fun j hj => absurd hj (by simp), by simp [tot]⟩
theorem take_lt {zs : List Int} (hz : Asc zs) {m : Nat} (hm : m < zs.length) {p : Int} (hp : p ∈ zs.take m) : p < zs[m]?.getD 0 := by
  obtain ⟨i, hi, e⟩ := mem_get.1 hp
  rw [List.length_take] at hi
  rw [List.getElem?_take, if_pos (by omega)] at e
  rw [← e]
  exact asc_get hz (by omega) hm
theorem KInv.le {base : Int} {zs : List Int} {m : Nat} {ks : List Int} {pss : List (List Int)} (h : KInv base zs m ks pss) (hz : Asc zs) (hm : m < zs.length) : ∀ z ∈ ks, z ≤ zs[m]?.getD 0 / 1000 := fun z hk => by
  obtain ⟨p, hp, rfl⟩ := (h.mem z).1 hk
  have := take_lt hz hm hp
  omega
theorem KInv.lt {base : Int} {zs : List Int} {m : Nat} {ks : List Int} {pss : List (List Int)} (h : KInv base zs m ks pss) (hz : Asc zs) (hm : m < zs.length) (hne : ks = [] ∨ ks[ks.length - 1]?.getD 0 ≠ zs[m]?.getD 0 / 1000) : ∀ z ∈ ks, z < zs[m]?.getD 0 / 1000 := fun z hk => by
  have h1 := h.le hz hm z hk
  rcases hne with e | e
  · rw [e] at hk; simp at hk
  · obtain ⟨i, hi, e2⟩ := mem_get.1 hk
    have h2 := h.le hz hm (ks[ks.length - 1]?.getD 0) (mem_get.2 ⟨ks.length - 1, by omega, rfl⟩)
    by_cases q : i = ks.length - 1
    · subst q; omega
    · have := asc_get h.asc (show i < ks.length - 1 by omega) (by omega)
      omega
theorem KInv.new {base : Int} {zs : List Int} {m : Nat} {ks : List Int} {pss : List (List Int)} (h : KInv base zs m ks pss) (hm : m < zs.length) (hlt : ∀ z ∈ ks, z < zs[m]?.getD 0 / 1000) : KInv base zs (m + 1) (ks ++ [zs[m]?.getD 0 / 1000]) (pss ++ [[base + zs[m]?.getD 0 % 1000]]) := by
  refine ⟨List.pairwise_append.2 ⟨h.asc, List.pairwise_singleton _ _, fun a ha b hb => ?_⟩, fun z => ?_, by simp [h.len], fun j hj => ?_, by have := h.cnt; rw [totI_app, List.length_append]; simp [tot]; omega⟩
  · rw [List.mem_singleton] at hb
    rw [hb]
    exact hlt a ha
  · rw [List.mem_append, h.mem, List.mem_singleton]
    constructor
    · rintro (⟨p, hp, e⟩ | e)
      · exact ⟨p, (take_succ_mem hm p).2 (Or.inl hp), e⟩
      · exact ⟨_, (take_succ_mem hm _).2 (Or.inr rfl), e⟩
    · rintro ⟨p, hp, e⟩
      rcases (take_succ_mem hm p).1 hp with hp | rfl
      · exact Or.inl ⟨p, hp, e⟩
      · exact Or.inr e
  · by_cases q : j < ks.length
    · rw [List.getElem?_append_left (by rw [h.len]; exact q), List.getElem?_append_left q]
      obtain ⟨h1, h2⟩ := h.post j q
      refine ⟨h1, fun x => ?_⟩
      rw [h2]
      constructor
      · rintro ⟨p, hp, e⟩
        exact ⟨p, (take_succ_mem hm p).2 (Or.inl hp), e⟩
      · rintro ⟨p, hp, e1, e2⟩
        rcases (take_succ_mem hm p).1 hp with hp | rfl
        · exact ⟨p, hp, e1, e2⟩
        · have := hlt (ks[j]?.getD 0) (mem_get.2 ⟨j, q, rfl⟩)
          omega
    · have hj' : j = ks.length := by rw [List.length_append] at hj; simp at hj; omega
      subst hj'
      rw [List.getElem?_append_right (by rw [h.len]; exact Nat.le_refl _), List.getElem?_append_right (Nat.le_refl _), h.len, Nat.sub_self]
      simp only [List.getElem?_cons_zero, Option.getD_some]
      refine ⟨List.pairwise_singleton _ _, fun x => ?_⟩
      rw [List.mem_singleton]
      constructor
      · rintro rfl
        exact ⟨_, (take_succ_mem hm _).2 (Or.inr rfl), rfl, rfl⟩
      · rintro ⟨p, hp, e1, e2⟩
        rcases (take_succ_mem hm p).1 hp with hp | rfl
        · have := hlt (p / 1000) ((h.mem _).2 ⟨p, hp, rfl⟩)
          omega
        · exact e2
theorem KInv.same {base : Int} {zs : List Int} {m : Nat} {ks l : List Int} {pss : List (List Int)} (h : KInv base zs m ks (pss ++ [l])) (hz : Asc zs) (hm : m < zs.length) (hk : ks[ks.length - 1]?.getD 0 = zs[m]?.getD 0 / 1000) : KInv base zs (m + 1) ks (pss ++ [l ++ [base + zs[m]?.getD 0 % 1000]]) := by
  have hlen := h.len
  rw [List.length_append] at hlen
  simp only [List.length_singleton] at hlen
  have hmk : zs[m]?.getD 0 / 1000 ∈ ks := mem_get.2 ⟨ks.length - 1, by omega, hk⟩
  refine ⟨h.asc, fun z => ?_, by simp; omega, fun j hj => ?_, by have := h.cnt; rw [totI_app] at this ⊢; simp [tot] at this ⊢; omega⟩
  · rw [h.mem]
    constructor
    · rintro ⟨p, hp, e⟩
      exact ⟨p, (take_succ_mem hm p).2 (Or.inl hp), e⟩
    · rintro ⟨p, hp, e⟩
      rcases (take_succ_mem hm p).1 hp with hp | rfl
      · exact ⟨p, hp, e⟩
      · rw [e]
        exact (h.mem _).1 hmk
  · by_cases q : j < pss.length
    · have h3 := h.post j hj
      rw [List.getElem?_append_left q] at h3 ⊢
      obtain ⟨h1, h2⟩ := h3
      refine ⟨h1, fun x => ?_⟩
      rw [h2]
      constructor
      · rintro ⟨p, hp, e⟩
        exact ⟨p, (take_succ_mem hm p).2 (Or.inl hp), e⟩
      · rintro ⟨p, hp, e1, e2⟩
        rcases (take_succ_mem hm p).1 hp with hp | rfl
        · exact ⟨p, hp, e1, e2⟩
        · have := asc_get h.asc (show j < ks.length - 1 by omega) (by omega)
          omega
    · have hj' : j = pss.length := by omega
      have hkj : ks[j]?.getD 0 = zs[m]?.getD 0 / 1000 := by rw [show j = ks.length - 1 by omega]; exact hk
      subst hj'
      have h3 := h.post pss.length hj
      rw [List.getElem?_append_right (Nat.le_refl _), Nat.sub_self] at h3 ⊢
      simp only [List.getElem?_cons_zero, Option.getD_some] at h3 ⊢
      obtain ⟨h1, h2⟩ := h3
      refine ⟨List.pairwise_append.2 ⟨h1, List.pairwise_singleton _ _, fun a ha b hb => ?_⟩, fun x => ?_⟩
      · rw [List.mem_singleton] at hb
        obtain ⟨p, hp, e1, e2⟩ := (h2 a).1 ha
        have := take_lt hz hm hp
        omega
      · rw [List.mem_append, h2, List.mem_singleton]
        constructor
        · rintro (⟨p, hp, e⟩ | e)
          · exact ⟨p, (take_succ_mem hm p).2 (Or.inl hp), e⟩
          · exact ⟨_, (take_succ_mem hm _).2 (Or.inr rfl), hkj.symm, e⟩
        · rintro ⟨p, hp, e1, e2⟩
          rcases (take_succ_mem hm p).1 hp with hp | rfl
          · exact Or.inl ⟨p, hp, e1, e2⟩
          · exact Or.inr e2
theorem KInv.done {base : Int} {zs : List Int} {ks : List Int} {pss xss : List (List Int)} (h : KInv base zs zs.length ks pss) (ho : Ord (plcs xss xss.length) zs) (hn : xss.length ≤ 1000) : SegR base xss ks pss := by
  have hmem : ∀ p, p ∈ zs.take zs.length ↔ ∃ i : Nat, i < xss.length ∧ ∃ t, t ∈ tr (xss[i]?.getD []) ∧ p = t * 1000 + i := fun p => by rw [List.take_length, ho.mem, plcs_mem]
  refine ⟨⟨h.asc, fun z => ?_⟩, h.len, fun j hj => ⟨(h.post j hj).1, fun x => ?_⟩⟩
  · rw [h.mem, allT_mem]
    constructor
    · rintro ⟨p, hp, e⟩
      obtain ⟨i, hi, t, ht, e2⟩ := (hmem p).1 hp
      exact ⟨i, hi, by rw [show z = t by omega]; exact ht⟩
    · rintro ⟨i, hi, ht⟩
      exact ⟨z * 1000 + i, (hmem _).2 ⟨i, hi, z, ht, rfl⟩, by omega⟩
  · rw [(h.post j hj).2]
    constructor
    · rintro ⟨p, hp, e, e2⟩
      obtain ⟨i, hi, t, ht, e3⟩ := (hmem p).1 hp
      exact ⟨i, hi, by omega, by rw [show ks[j]?.getD 0 = t by omega]; exact ht⟩
    · rintro ⟨i, hi, e, ht⟩
      exact ⟨ks[j]?.getD 0 * 1000 + i, (hmem _).2 ⟨i, hi, _, ht, rfl⟩, by omega, by omega⟩
theorem own_last {base e g cap : Nat} {w : World} {ps : List (Cl Int)} {q : Cl Int} {n : Nat} (h : w.ownsRow base e 1 (.slice (some ⟨g, 0, none⟩) n cap) (ps ++ [q]).length ((ps ++ [q]).map Cl.v)) : w.cell? ⟨g, ps.length, none⟩ = some q.v := by
  rw [List.length_append] at h
  obtain ⟨a, c, e⟩ := own_is h
  cases e
  rw [h.cellAt ps.length (by simp), List.map_append, List.getElem?_append_right (by rw [List.length_map]; exact Nat.le_refl _), List.length_map, Nat.sub_self]
  rfl
theorem len_snoc {ps : List (Cl Int)} {q : Cl Int} {m : Nat} (h : ∀ p ∈ ps, p.xs.length ≤ m) (hq : q.xs.length ≤ m + 1) : ∀ p ∈ ps ++ [q], p.xs.length ≤ m + 1 := fun p hp => by
  rcases List.mem_append.1 hp with h1 | h1
  · have := h p h1; omega
  · rw [List.mem_singleton] at h1; subst h1; exact hq
theorem GT.low {n n' : Nat} {w : World} {kv pv : Value} {ks : List Int} {ps : List (Cl Int)} (h : GT n w kv ks pv ps) (hn : n' ≤ n) : GT n' w kv ks pv ps := ⟨own_low h.keys hn, ⟨own_low h.ll.own hn, h.ll.ok, fun p hp h0 => Nat.le_trans hn (h.ll.lo p hp h0), h.ll.apart⟩, h.kap⟩
def PostRet (e : Ending) (w w' : World) (base : Int) (xss : List (List Int)) : Prop := ∃ kv pv ks ps, e = .returned (.tuple #[kv, pv]) ∧ SegR base xss ks (ps.map Cl.xs) ∧ (ks.length ≤ 1048576 ∧ tot (ps.map Cl.xs) ≤ 1048576) ∧ GT w.heap.size w' kv ks pv ps
set_option maxHeartbeats 4000000 in
set_option maxRecDepth 100000 in
theorem postingLists_any (base : Int) (v : Value) (xss : List (List Int)) (w : World) (hv : SsAt mB 0 w.heap.size w v xss) (hbb : ∀ x ∈ xss, Bytes x) (hT : tot xss ≤ 1048576) (hL : xss.length ≤ 1000) (hb0 : 0 ≤ base) (hb1 : base ≤ 1000) :
    Calls Tryz.prog 26 #[.int .i64 base, v] w fun e w' => PostRet e w w' base xss ∧ Below w.heap.size w w' := by
  obtain ⟨i0, hi, hz0, hz1, hz2⟩ := info_parts Tryz.zinInt
  obtain ⟨j0, hj, hy0, hy1, hy2⟩ := info_parts Tryz.zinIntS
  have Hv := hide hv
  have HB := hide hbb
  obtain ⟨a, cap, rfl, hl, hc⟩ := hv
  clear hbb hc
  go_enter Tryz.func26, Tryz.ntmps26
  go_wp2_with fail
  refine (trigramPlaces_any _ xss _ (unhide Hv) (unhide HB) hT hL).mono ?_
  rintro e w1 ⟨⟨v1, zs, rfl, ho, hzl, hown⟩, hb1'⟩
  have hz1' := hb1'.size
  have HO := hide ho
  have hzl' : zs.length ≤ 1048576 := Nat.le_trans hzl (Nat.le_trans (plcs_len xss _ (Nat.le_refl _)) (Nat.le_trans (tot_take xss _) hT))
  have hpos : ∀ p, p ∈ zs → 0 ≤ p ∧ p ≤ 16777215999 := fun p hp => by
    obtain ⟨i, hi2, t, ht, e⟩ := (plcs_mem xss _ p).1 ((ho.mem p).1 hp)
    have := tr_nonneg (unhide HB (xss[i]?.getD []) (by rw [List.getElem?_eq_getElem hi2]; exact List.getElem_mem _)) ht
    omega
  have HP := hide hpos
  have SZ := hide ((own_slw (lo := 0) hown (Nat.zero_le _) (by unfold maxLen; omega)).at)
  obtain ⟨za, zc, rfl⟩ := own_is hown
  clear hown ho hzl hpos
  go_wp2_with fail
  go_loopw [4, 5, 14] (fun kv pv iv wr => ∃ (m : Nat) (ks : List Int) (ps : List (Cl Int)), m ≤ zs.length ∧ ks.length ≤ m ∧ (∀ p ∈ ps, p.xs.length ≤ m) ∧ iv = .int .i64 m ∧ KInv base zs m ks (ps.map Cl.xs) ∧ GS w1.heap.size wr kv ks pv ps ∧ Below w1.heap.size w1 wr) (fun _ _ iv _ => zs.length - (intOf iv).toNat)
  case atStart => exact ⟨0, [], [], Nat.zero_le _, Nat.le_refl _, by simp, rfl, KInv.start base zs, GT.nil, Below.refl _ _⟩
  case round =>
    obtain ⟨m, ks, ps, hm, hkm, hpm, rfl, hkv, hgs, hb⟩ := hrel
    have HPM := hide hpm
    clear hpm
    have hszr := hb.size
    have HK := hide hkv
    have HG := hide hgs
    have hpl : ps.length = ks.length := by have := hkv.len; rwa [List.length_map] at this
    have HPL := hide hpl
    obtain ⟨ka, kc, rfl⟩ := own_is hgs.keys
    obtain ⟨pa, pc, rfl⟩ := own_is hgs.ll.own
    clear hkv hgs
    by_cases hlt : m < zs.length
    · have hlt' : (m : Int) < (zs.length : Int) := by omega
      obtain ⟨_, _, e1, -, hc⟩ := (unhide SZ).below hb (Nat.le_refl _)
      cases e1
      obtain ⟨b, off, rfl, -, hbn, hcell⟩ := hc (by omega)
      have hx := hcell m hlt
      unfold mI at hx
      obtain ⟨p0, p1⟩ := unhide HP (zs[m]?.getD 0) (mem_get.2 ⟨m, hlt, rfl⟩)
      have Hlt := hide (fun hne => (unhide HK).new hlt ((unhide HK).lt (unhide HO).asc hlt hne))
      have Hsame := hide (fun (pss : List (List Int)) (l : List Int) (e : ps.map Cl.xs = pss ++ [l]) he => KInv.same (l := l) (pss := pss) (by rw [← e]; exact unhide HK) (unhide HO).asc hlt he)
      clear hcell hc
      generalize zs[m]?.getD 0 = p at *
      have d1 : p.tdiv 1000 = p / 1000 := by rw [Int.tdiv_eq_ediv_of_nonneg p0]
      have d2 : p.tmod 1000 = p % 1000 := by rw [Int.tmod_eq_emod_of_nonneg p0]
      have r0 : 0 ≤ p % 1000 := by omega
      have r1 : p % 1000 < 1000 := by omega
      have hpk : ps.length ≤ 1048576 := by omega
      by_cases hk0 : ks = []
      · have Hn := hide (unhide Hlt (Or.inl hk0))
        have hl0 : (ks.length : Int) - 1 < 0 := by rw [hk0]; decide
        have hPK : Hid (ks.length = ps.length) := hpl.symm
        have hkb : ks.length < ps.length + 1 := by omega
        have hkb' : (ks.length : Int) < (ps.length : Int) + 1 := by omega
        clear Hlt Hsame HK hpl HPL hk0
        go_wp2_with (first
          | (at_builtin; refine wpList_append_own_at _ rfl _ _ 34 rfl w1.heap.size 3 i0 (.int .i64 0) 1 8 Tryz.underlying34 hi hz0 hz1 hz2 rfl (by decide) _ _ _ rfl (World.ownsRow.alloc (w := wr) (unhide HG).keys _) ⟨wr.heap.size, 0, none⟩ 1 1 [.int .i64 (p / 1000)] rfl rfl (cell_1 (by simp)) (by intro u hu; simp at hu; subst hu; rfl) (by unfold maxLen; omega) (by omega) (by rw [sz_alloc]; show _ ≤ wr.heap.size + 1; omega) ?_; intro kv2 w2 g1 g2 _ g4; have H2 := hide (GT.key (w := wr) (unhide HG).toGT hszr g1 g2 g4); obtain ⟨kg, kcap, rfl⟩ := ownsRow_succ g1; have hz2' : w1.heap.size ≤ w2.heap.size := Nat.le_trans hszr (unhide H2).2.size; clear g1 g2 g4 HG)
          | (at_builtin; refine wpList_append_own_at _ rfl _ _ 29 rfl w1.heap.size 34 j0 (.slice none 0 0) 1 24 Tryz.underlying29 hj hy0 hy1 hy2 rfl (by decide) _ _ _ rfl (World.ownsRow.alloc (w := w2) (unhide H2).1.ll.own _) ⟨w2.heap.size, 0, none⟩ 1 1 [.slice none 0 0] rfl rfl (cell_1 (by simp)) (by intro u hu; simp at hu; subst hu; rfl) (by unfold maxLen; omega) (by omega) (by rw [sz_alloc]; omega) ?_; intro pv3 w3 g1 g2 _ _; have H3 := hide ((unhide H2).1.post0 hz2' g1 g2); obtain ⟨pg, pcap, rfl⟩ := ownsRow_succ g1; have hz3' : w1.heap.size ≤ w3.heap.size := Nat.le_trans hz2' (unhide H3).2.size; have hB3 := hide ((unhide H2).2.trans (unhide H3).2); have hcl3 : w3.cell? ⟨pg, ks.length, none⟩ = some (.slice none 0 0) := (by rw [unhide hPK]; exact own_last (unhide H3).1.ll.own); clear g1 g2 H2)
          | (at_builtin; refine wpList_append_own_at _ rfl _ _ 34 rfl w1.heap.size 3 i0 (.int .i64 0) 1 8 Tryz.underlying34 hi hz0 hz1 hz2 rfl (by decide) _ 0 [] rfl (World.ownsRow_nil _ _ _ _) ⟨w3.heap.size, 0, none⟩ 1 1 [.int .i64 (base + p % 1000)] rfl rfl (cell_1 (by simp)) (by intro u hu; simp at hu; subst hu; rfl) (by unfold maxLen; omega) (by omega) (by rw [sz_alloc]; omega) ?_; intro v4 w4 g1 g2 _ g4; have H4 := hide (GS.post (unhide H3).1 hz3' g1 g2 g4); obtain ⟨vg, vcap, rfl⟩ := ownsRow_succ g1; obtain ⟨c4, z4⟩ : w4.cell? ⟨pg, ks.length, none⟩ = some (.slice none 0 0) ∧ w4.frozen? ⟨pg, ks.length, none⟩ = false := (by rw [unhide hPK]; obtain ⟨q', _, _, _, x1, x2⟩ := unhide H4; exact ⟨x1, x2⟩); clear g1 g2 g4))
        obtain ⟨q', e1, e2, e3, -, -⟩ := unhide H4
        rw [show (⟨pg, ks.length, none⟩ : Addr) = ⟨pg, ps.length, none⟩ by rw [unhide hPK]]
        refine ⟨⟨m + 1, ks ++ [p / 1000], ps ++ [q'], by omega, by simp; omega, len_snoc (unhide HPM) (by rw [e1]; simp), by go_num, ?_, e2, hb.trans ((unhide hB3).trans e3)⟩, by simp [intOf]; omega⟩
        rw [List.map_append, List.map_singleton, e1]
        exact unhide Hn
      · have hpp : 0 < ks.length := List.length_pos_iff.2 hk0
        obtain ⟨g, oc', e, hcl⟩ := own_at (unhide HG).keys hpp
        cases e
        have hl0 : wr.cell? ⟨g, ks.length - 1, none⟩ = some (.int .i64 (ks[ks.length - 1]?.getD 0)) := by
          rw [hcl _ (by omega), List.getElem?_map, getD_of_lt (show ks.length - 1 < ks.length by omega)]
          rfl
        have hidx : ((ks.length : Int) - 1).toNat = ks.length - 1 := by omega
        have hlb : ¬ (ks.length : Int) - 1 < 0 := by omega
        have hlb2 : (0 : Int) ≤ (ks.length : Int) - 1 := by omega
        have hlb3 : (ks.length : Int) - 1 < (ks.length : Int) := by omega
        by_cases hne : ks[ks.length - 1]?.getD 0 = p / 1000
        · obtain ⟨ps0, q, rfl⟩ : ∃ ps0 q, ps = ps0 ++ [q] := ⟨ps.dropLast, ps.getLast (by intro e; rw [e] at hpl; simp at hpl; omega), (List.dropLast_concat_getLast _).symm⟩
          have hpl0 : ps0.length = ks.length - 1 := by rw [List.length_append] at hpl; simp at hpl; omega
          have Hn := hide (unhide Hsame (ps0.map Cl.xs) q.xs (by rw [List.map_append]; rfl) hne)
          have hown := ((unhide HG).last ps0 q rfl).1
          have hqm := unhide HPM q (by simp)
          obtain ⟨qa, qc, eq⟩ := own_is hown
          have elen : (ps0 ++ [q]).length = ps0.length + 1 := by simp
          have hrw := (unhide HG).ll.own
          rw [elen] at hrw HG ⊢
          obtain ⟨pg, e8⟩ : ∃ pg, pa = some ⟨pg, 0, none⟩ := by
            rcases hrw.2 with ⟨e, h0⟩ | ⟨g2, cap2, cur, e, _⟩
            · omega
            · cases e; exact ⟨g2, rfl⟩
          subst e8
          have hcl3 : wr.cell? ⟨pg, ps0.length, none⟩ = some (.slice qa q.xs.length qc) := by rw [← eq]; exact own_last (unhide HG).ll.own
          rw [eq] at hown
          have HOw := hide hown
          have Hgp := hide (fun (v' : Value) (w' : World) (o : Obj) => GS.post (x := base + p % 1000) (v' := v') (w' := w') (o := o) (unhide HG) hszr)
          rw [eq] at Hgp
          have hP0 : Hid (ks.length - 1 = ps0.length) := hpl0.symm
          have i1 : ((ks.length : Int) - 1).toNat = ps0.length := by omega
          have i2 : (ks.length : Int) - 1 < (ps0.length : Int) + 1 := by omega
          rw [hne] at hl0
          have hcl4 : wr.cell? ⟨pg, ks.length - 1, none⟩ = some (.slice qa q.xs.length qc) := by rw [unhide hP0]; exact hcl3
          have Hok := hide (unhide HPM)
          clear hcl hne hpl HPL elen hrw hown Hlt Hsame HK hpl0 i1 hcl3
          go_wp2_with (at_builtin; refine wpList_append_own_at _ rfl _ _ 34 rfl w1.heap.size 3 i0 (.int .i64 0) 1 8 Tryz.underlying34 hi hz0 hz1 hz2 rfl (by decide) _ _ _ rfl (World.ownsRow.alloc (w := wr) (unhide HOw) _) ⟨wr.heap.size, 0, none⟩ 1 1 [.int .i64 (base + p % 1000)] rfl rfl (cell_1 (by simp)) (by intro u hu; simp at hu; subst hu; rfl) (by unfold maxLen; omega) (by omega) (by rw [sz_alloc]; omega) ?_; intro v4 w4 g1 g2 _ g4; have H4 := hide (unhide Hgp v4 w4 _ g1 g2 g4); obtain ⟨vg, vcap, rfl⟩ := ownsRow_succ g1; obtain ⟨c4, z4⟩ : w4.cell? ⟨pg, ks.length - 1, none⟩ = some (.slice qa q.xs.length qc) ∧ w4.frozen? ⟨pg, ks.length - 1, none⟩ = false := (by rw [unhide hP0]; obtain ⟨q', _, _, _, x1, x2⟩ := unhide H4; exact ⟨x1, x2⟩); clear g1 g2 g4)
          obtain ⟨q', e1, e2, e3, -, -⟩ := unhide H4
          rw [show (⟨pg, ks.length - 1, none⟩ : Addr) = ⟨pg, ps0.length, none⟩ by rw [unhide hP0]]
          refine ⟨⟨m + 1, ks, ps0 ++ [q'], by omega, by omega, len_snoc (fun r hr => unhide HPM r (by simp [hr])) (by rw [e1]; simp; omega), by go_num, ?_, e2, hb.trans e3⟩, by simp [intOf]; omega⟩
          rw [List.map_append, List.map_singleton, e1]
          exact unhide Hn
        · have Hn := hide (unhide Hlt (Or.inr hne))
          generalize ks[ks.length - 1]?.getD 0 = lk at *
          have hne' : (lk != p / 1000) = true := by simp [hne]
          have hPK : Hid (ks.length = ps.length) := hpl.symm
          have hkb : ks.length < ps.length + 1 := by omega
          have hkb' : (ks.length : Int) < (ps.length : Int) + 1 := by omega
          clear Hlt Hsame HK hpl HPL hk0 hcl hne
          go_wp2_with (first
            | (at_builtin; refine wpList_append_own_at _ rfl _ _ 34 rfl w1.heap.size 3 i0 (.int .i64 0) 1 8 Tryz.underlying34 hi hz0 hz1 hz2 rfl (by decide) _ _ _ rfl (World.ownsRow.alloc (w := wr) (unhide HG).keys _) ⟨wr.heap.size, 0, none⟩ 1 1 [.int .i64 (p / 1000)] rfl rfl (cell_1 (by simp)) (by intro u hu; simp at hu; subst hu; rfl) (by unfold maxLen; omega) (by omega) (by rw [sz_alloc]; show _ ≤ wr.heap.size + 1; omega) ?_; intro kv2 w2 g1 g2 _ g4; have H2 := hide (GT.key (w := wr) (unhide HG).toGT hszr g1 g2 g4); obtain ⟨kg, kcap, rfl⟩ := ownsRow_succ g1; have hz2' : w1.heap.size ≤ w2.heap.size := Nat.le_trans hszr (unhide H2).2.size; clear g1 g2 g4 HG)
            | (at_builtin; refine wpList_append_own_at _ rfl _ _ 29 rfl w1.heap.size 34 j0 (.slice none 0 0) 1 24 Tryz.underlying29 hj hy0 hy1 hy2 rfl (by decide) _ _ _ rfl (World.ownsRow.alloc (w := w2) (unhide H2).1.ll.own _) ⟨w2.heap.size, 0, none⟩ 1 1 [.slice none 0 0] rfl rfl (cell_1 (by simp)) (by intro u hu; simp at hu; subst hu; rfl) (by unfold maxLen; omega) (by omega) (by rw [sz_alloc]; omega) ?_; intro pv3 w3 g1 g2 _ _; have H3 := hide ((unhide H2).1.post0 hz2' g1 g2); obtain ⟨pg, pcap, rfl⟩ := ownsRow_succ g1; have hz3' : w1.heap.size ≤ w3.heap.size := Nat.le_trans hz2' (unhide H3).2.size; have hB3 := hide ((unhide H2).2.trans (unhide H3).2); have hcl3 : w3.cell? ⟨pg, ks.length, none⟩ = some (.slice none 0 0) := (by rw [unhide hPK]; exact own_last (unhide H3).1.ll.own); clear g1 g2 H2)
            | (at_builtin; refine wpList_append_own_at _ rfl _ _ 34 rfl w1.heap.size 3 i0 (.int .i64 0) 1 8 Tryz.underlying34 hi hz0 hz1 hz2 rfl (by decide) _ 0 [] rfl (World.ownsRow_nil _ _ _ _) ⟨w3.heap.size, 0, none⟩ 1 1 [.int .i64 (base + p % 1000)] rfl rfl (cell_1 (by simp)) (by intro u hu; simp at hu; subst hu; rfl) (by unfold maxLen; omega) (by omega) (by rw [sz_alloc]; omega) ?_; intro v4 w4 g1 g2 _ g4; have H4 := hide (GS.post (unhide H3).1 hz3' g1 g2 g4); obtain ⟨vg, vcap, rfl⟩ := ownsRow_succ g1; obtain ⟨c4, z4⟩ : w4.cell? ⟨pg, ks.length, none⟩ = some (.slice none 0 0) ∧ w4.frozen? ⟨pg, ks.length, none⟩ = false := (by rw [unhide hPK]; obtain ⟨q', _, _, _, x1, x2⟩ := unhide H4; exact ⟨x1, x2⟩); clear g1 g2 g4))
          obtain ⟨q', e1, e2, e3, -, -⟩ := unhide H4
          rw [show (⟨pg, ks.length, none⟩ : Addr) = ⟨pg, ps.length, none⟩ by rw [unhide hPK]]
          refine ⟨⟨m + 1, ks ++ [p / 1000], ps ++ [q'], by omega, by simp; omega, len_snoc (unhide HPM) (by rw [e1]; simp), by go_num, ?_, e2, hb.trans ((unhide hB3).trans e3)⟩, by simp [intOf]; omega⟩
          rw [List.map_append, List.map_singleton, e1]
          exact unhide Hn
    · obtain rfl : m = zs.length := by omega
      have Hseg := hide ((unhide HK).done (unhide HO) hL)
      have Hcnt := hide (unhide HK).cnt
      have hBf := hb1'.trans (hb.mono hz1')
      go_wp2_with fail
      go_ret2
      exact ⟨⟨_, _, ks, ps, rfl, unhide Hseg, ⟨Nat.le_trans (unhide Hcnt).2 hzl', Nat.le_trans (unhide Hcnt).1 hzl'⟩, (unhide HG).toGT.low hz1'⟩, hBf⟩
theorem LL.footP {α : Type} {mk : α → Value} {d : α} {e te : TypeId} {base : Nat} {w : World} {v : Value} {ps : List (Cl α)} {S : Nat → Prop} (hte : te ≠ e) (h : LL mk d e te base w v ps) (hrow : ∀ g, v.ownBlock = some g → S g) (hel : ∀ p ∈ ps, 0 < p.xs.length → S p.b) : SsF mk d S w v (ps.map Cl.xs) := by
  have hlen := h.own.1
  rcases h.own.2 with ⟨rfl, hz⟩ | ⟨g, cap, cur, rfl, hbg, hg, hnc, hcm, hcs, htake⟩
  · have : ps = [] := List.eq_nil_of_length_eq_zero hz
    subst this
    exact SsF.nil _ _ _ _ _ _ (Nat.zero_le _)
  · have hgl : g < w.heap.size := (h.own.lt g rfl).2
    have hget : ∀ i : Nat, i < ps.length → ∃ p, ps[i]? = some p ∧ p ∈ ps := fun i hi => ⟨ps[i], by simp [hi], List.getElem_mem hi⟩
    refine ⟨some ⟨g, 0, none⟩, cap, by rw [List.length_map], ⟨by rw [List.length_map]; exact hnc, hcm⟩, fun _ => ⟨g, 0, fun i => ((ps[i]?).map Cl.v).getD undef, fun i k => ∃ p, ps[i]? = some p ∧ 0 < p.xs.length ∧ k = p.b, rfl, hrow g rfl, ⟨cur, te, hg⟩, fun i hi => ?_, fun i hi => ?_, fun i hi k hk => ?_, fun i j hi hj hne k hk hk' => ?_⟩⟩
    · rw [List.length_map] at hi
      obtain ⟨p, hp, -⟩ := hget i hi
      show w.cell? ⟨g, 0 + i, none⟩ = some (((ps[i]?).map Cl.v).getD undef)
      rw [Nat.zero_add, h.own.cellAt i (by omega), List.getElem?_map, hp]
      rfl
    · rw [List.length_map] at hi
      obtain ⟨p, hp, hm⟩ := hget i hi
      have e1 : ((ps[i]?).map Cl.v).getD undef = p.v := by rw [hp]; rfl
      have e2 : ((ps.map Cl.xs)[i]?).getD [] = p.xs := by rw [List.getElem?_map, hp]; rfl
      show SlF mk d _ w (((ps[i]?).map Cl.v).getD undef) (((ps.map Cl.xs)[i]?).getD []) ∧ CapOk (((ps[i]?).map Cl.v).getD undef)
      rw [e1, e2]
      exact ⟨(h.ok p hm).foot.mono (fun k hk => ⟨p, hp, hk.1, hk.2⟩), (h.ok p hm).cap⟩
    · obtain ⟨p, hp, hp0, rfl⟩ := hk
      have hm : p ∈ ps := List.mem_of_getElem? hp
      refine ⟨hel p hm hp0, fun e1 => ?_⟩
      exact h.not_row hte (h.ok p hm) rfl hp0 (by rw [e1]; rfl)
    · obtain ⟨p, hp, hp0, rfl⟩ := hk
      obtain ⟨q, hq, hq0, e1⟩ := hk'
      rw [List.length_map] at hi hj
      have hpair := List.pairwise_iff_getElem.1 h.apart
      have ep : ps[i]'hi = p := by rw [List.getElem?_eq_getElem hi] at hp; exact Option.some.inj hp
      have eq : ps[j]'hj = q := by rw [List.getElem?_eq_getElem hj] at hq; exact Option.some.inj hq
      rcases Nat.lt_or_gt_of_ne hne with hlt | hlt
      · exact hpair i j hi hj hlt (by rw [ep]; exact hp0) (by rw [eq]; exact hq0) (by rw [ep, eq]; exact e1)
      · exact hpair j i hj hi hlt (by rw [eq]; exact hq0) (by rw [ep]; exact hp0) (by rw [ep, eq]; exact e1.symm)
theorem SegF.mk' {n m : Nat} {w : World} {base : Int} {lv kv pv : Value} {lps ps : List (Cl Int)} {ks : List Int} (hl : SsF mB 0 (Rng n m) w lv (lps.map Cl.xs)) (hg : GT m w kv ks pv ps) (hm : m ≤ w.heap.size) (hk : ks.length ≤ maxLen) (hnm : n ≤ m) : SegF n w.heap.size w (.agg #[.int .i64 base, lv, kv, pv]) base (lps.map Cl.xs) ks (ps.map Cl.xs) := by
  refine ⟨lv, kv, pv, Rng n m, fun k => kv.ownBlock = some k, fun k => Rng m w.heap.size k ∧ kv.ownBlock ≠ some k, rfl, hl, ?_, ?_, fun k hk => ?_, fun k hk => ⟨fun h2 => ?_, fun h3 => ?_⟩, fun k h2 h3 => h3.2 h2⟩
  · have hlen := hg.keys.1
    rcases hg.keys.2 with ⟨e, hz⟩ | ⟨g, cap, cur, e, hbg, hgb, hnc, hcm, hcs, htake⟩
    · refine ⟨0, 0, ⟨none, 0, by rw [e, hz], by omega, fun hp => by omega⟩, fun k h1 h2 => by omega⟩
    · subst e
      refine ⟨g, g + 1, ⟨_, cap, rfl, hk, fun hp => ⟨g, 0, rfl, Nat.le_refl _, Nat.lt_succ_self _, ⟨cur, _, hgb⟩, fun i hi => ?_⟩⟩, fun k h1 h2 => by rw [show k = g by omega]; rfl⟩
      rw [Nat.zero_add, hg.keys.cellAt i (by omega), List.getElem?_map, getD_of_lt hi]
      rfl
  · refine hg.ll.footP (by decide) (fun g e => ?_) (fun p hp h0 => ?_)
    · have h1 := hg.ll.own.lt g e
      refine ⟨⟨h1.1, h1.2⟩, fun e2 => ?_⟩
      rcases own_ne hg.ll.own hg.keys (by decide) with e3 | e3
      · rw [e3] at e; cases e
      · exact e3 (by rw [e, e2])
    · exact ⟨⟨hg.ll.lo p hp h0, (hg.ll.ok p hp).lt h0⟩, fun e2 => hg.kap p hp h0 e2.symm⟩
  · rcases hk with h | h | h
    · exact ⟨h.1, Nat.lt_of_lt_of_le h.2 hm⟩
    · have := hg.keys.lt k h
      exact ⟨by omega, this.2⟩
    · exact ⟨by have := h.1.1; omega, h.1.2⟩
  · have := hg.keys.lt k h2
    have := hk.2
    omega
  · have := h3.1.1
    have := hk.2
    omega
theorem run_bclone (x : Value) (w : World) : Sem.run Tryz.prog (callFunc 25 #[x]) w = .ok (.enter 25 #[x]) w := by kernel_rfl
def BuildGot (e : Ending) (w w' : World) (base : Int) (xss : List (List Int)) : Prop :=
  (Fits base xss ∧ ∃ v ks pss, e = .returned (.tuple #[v, .int .i64 0]) ∧ SegR base xss ks pss ∧ (ks.length ≤ 1048576 ∧ tot pss ≤ 1048576) ∧ SegF w.heap.size w'.heap.size w' v base xss ks pss) ∨ (¬ Fits base xss ∧ e = .returned (.tuple #[.agg #[.int .i64 0, .slice none 0 0, .slice none 0 0, .slice none 0 0], .int .i64 4]))
set_option maxHeartbeats 4000000 in
set_option maxRecDepth 100000 in
theorem implBuild_any (base : Int) (v : Value) (xss : List (List Int)) (w : World) (hv : SsAt mB 0 w.heap.size w v xss) (hbb : ∀ x ∈ xss, Bytes x) (hT : tot xss ≤ 1048576) (hL : xss.length ≤ 1048576) (hb0 : -9223372036854775808 ≤ base) (hb1 : base ≤ 9223372036854775807) :
    Calls Tryz.prog 9 #[.int .i64 base, v] w fun e w' => BuildGot e w w' base xss ∧ Below w.heap.size w w' := by
  obtain ⟨j0, hj, hy0, hy1, hy2⟩ := info_parts Tryz.zinByteS
  have Hv := hide hv
  have HB := hide hbb
  obtain ⟨a, cap, rfl, hl, hc⟩ := hv
  clear hbb hc
  have hb00 := below1 w (.cells #[.int .i64 0, .slice none 0 0, .slice none 0 0, .slice none 0 0] 38)
  have RR0 := Row4.new w 38 (.int .i64 0) (.slice none 0 0) (.slice none 0 0) (.slice none 0 0)
  go_enter Tryz.func9, Tryz.ntmps9
  go_wp2_with fail
  refine (fitSegment_any base _ xss _ ((unhide Hv).below hb00 (Nat.le_refl _)) (unhide HB) hT hL hb0 hb1).mono ?_
  rintro e w1 ⟨hr, q1, hw1⟩
  have hB1 : Below w.heap.size w w1 := by rw [hw1]; exact below_drewN hb00 q1
  have RR1 : Row4 w1 w.heap.size 38 (.int .i64 0) (.slice none 0 0) (.slice none 0 0) (.slice none 0 0) := by rw [hw1]; exact RR0
  have hz1 : w.heap.size + 1 ≤ w1.heap.size := by rw [hw1]; show _ ≤ (w.alloc _).heap.size; rw [sz_alloc]; exact Nat.le_refl _
  clear hw1 RR0 hb00
  rcases hr.cases with ⟨rfl, hm⟩ | ⟨rfl, hm⟩
  · have Hm := hide hm
    have h0 := hm.1
    have h1 := hm.2.2.1
    have HRR := hide RR1
    have hL2 : xss.length ≤ 1000 := by omega
    clear hm hr RR1
    go_wp2_with fail
    have hb20 := below1 w1 (.cells #[.int .i64 base, .slice none 0 0, .slice none 0 0, .slice none 0 0] 38)
    have RS0 := Row4.new w1 38 (.int .i64 base) (.slice none 0 0) (.slice none 0 0) (.slice none 0 0)
    go_loopw [18] (fun iv wr => ∃ (k : Nat) (lv : Value) (ps : List (Cl Int)), k ≤ xss.length ∧ ps.length ≤ k ∧ iv = .int .i64 k ∧ ps.map Cl.xs = xss.take k ∧ Row4 wr w1.heap.size 38 (.int .i64 base) lv (.slice none 0 0) (.slice none 0 0) ∧ LB (w1.heap.size + 1) wr lv ps ∧ Below w1.heap.size w1 wr) (fun iv _ => xss.length - (intOf iv).toNat)
    case atStart => exact ⟨0, _, [], Nat.zero_le _, Nat.le_refl _, rfl, by simp, RS0, LL.nil, hb20⟩
    case round =>
      obtain ⟨k, lv, ps, hk, hpk, rfl, hln, hbox, hll, hb⟩ := hrel
      have hszr := hb.size
      have Hll := hide hll
      have Hln := hide hln
      have Hbx := hide hbox
      obtain ⟨la, lc, rfl⟩ := own_is hll.own
      obtain ⟨f0, f1, f2, f3, g0, g1, g2, g3⟩ := hbox.facts
      have hBl : w1.heap.size < wr.heap.size := World.rowIs.lt hbox
      clear hll hln hbox
      by_cases hlt : k < xss.length
      · have hlt' : (k : Int) < (xss.length : Int) := by omega
        obtain ⟨_, _, e1, -, hc⟩ := (unhide Hv).below (hB1.trans (hb.mono (by omega))) (Nat.le_refl _)
        cases e1
        obtain ⟨b, off, rfl, hbn, hcell⟩ := hc (by omega)
        obtain ⟨s, hx, hs, -⟩ := hcell k hlt
        have Hs := hide hs
        have ht := tot_get xss k
        have Hsn := hide (take_snoc xss [] k hlt)
        obtain ⟨sa, sc, rfl, -, -⟩ := hs
        clear hcell hc
        generalize xss[k]?.getD [] = x at *
        have hS : Hid (∀ W' : World, Below wr.heap.size wr W' → W'.cell? ⟨w1.heap.size, 1, none⟩ = some (.slice la ps.length lc) ∧ W'.frozen? ⟨w1.heap.size, 1, none⟩ = false) := fun W' hW => by
          have := ((unhide Hbx).below hW (by omega)).facts
          exact ⟨this.2.1, this.2.2.2.2.2.1⟩
        have hS2 : Hid (∀ W' : World, Below (w1.heap.size + 1) wr W' → W'.cell? ⟨w1.heap.size, 1, none⟩ = some (.slice la ps.length lc) ∧ W'.frozen? ⟨w1.heap.size, 1, none⟩ = false) := fun W' hW => by
          have := ((unhide Hbx).below hW (by omega)).facts
          exact ⟨this.2.1, this.2.2.2.2.2.1⟩
        go_wp2_with fail
        go_region_law (
          (first
            | (refine step_call_o 25 #[.tmp 24] _ rfl #[.slice sa x.length sc] rfl (by first | (simp [Act.eval]; done) | (simp [Act.eval, Act.put]; done)) (run_bclone _) (bclone_any _ x _ (by exact unhide Hs) (by omega)) ?_; rintro e w5 ⟨⟨v5, rfl, hown5⟩, hb5⟩; have hB5 : Below wr.heap.size wr w5 := ⟨hb5.os, hb5.tape, hb5.output, hb5.size, hb5.block⟩; have Hown5 : Hid (w5.ownsRow wr.heap.size 5 1 v5 x.length (x.map mB)) := hown5; have hz5 := hB5.size; have HLk := hide ((unhide Hll).keep hB5 (Nat.le_refl _)); have Hpu := hide (LB.push (unhide Hll) (by omega) hB5 (Below.refl _ wr) (unhide Hown5)); obtain ⟨ya, yc, rfl⟩ := own_is hown5; obtain ⟨c5, z5⟩ := unhide hS _ hB5; obtain ⟨c6, z6⟩ := unhide hS _ (hB5.alloc hz5 (.cells #[.slice ya x.length yc] 22)); clear hown5 hb5; refine ⟨_, rfl, ?_⟩)
            | (refine step_append_lies _ rfl (.tmp 23) (.tmp 26) 36 rfl (w1.heap.size + 1) 22 j0 (.slice none 0 0) 1 24 Tryz.underlying36 hj hy0 hy1 hy2 rfl (by decide) (.slice la ps.length lc) ps.length (ps.map Cl.v) (by first | (simp [Act.eval]; done) | (simp [Act.eval, Act.put]; done)) (by refine Pushd.own (w := w5) (o := .cells #[.slice ya x.length yc] 22) ?_ (unhide HLk).own; exact ⟨rfl, rfl, rfl, rfl⟩) ⟨w5.heap.size, 0, none⟩ 1 1 [.slice ya x.length yc] (by first | (simp [Act.eval]; done) | (simp [Act.eval, Act.put]; done)) rfl (by refine Pushd.news (w := w5) (cs := #[.slice ya x.length yc]) (t := 22) ?_; exact ⟨rfl, rfl, rfl, rfl⟩) (by intro u hu; simp at hu; subst hu; rfl) (by decide) (by unfold maxLen; omega) (by omega) (by show w1.heap.size + 1 ≤ (w5.alloc _).heap.size; rw [sz_alloc]; omega) (w5.heap.size + 1) (sz_alloc w5 _) (fun gg cap' w7 q1 q2 q3 q4 => ?_); have h7 := hide (unhide Hpu w7 (.slice (some ⟨gg, 0, none⟩) (ps.length + 1) cap') q1 q2); have hB7 : Below (w1.heap.size + 1) wr w7 := (by obtain ⟨_, _, _, r⟩ := unhide h7; exact r); obtain ⟨c7, z7⟩ := unhide hS2 _ hB7; clear q1 q2 q3 q4)))
        all_goals
          go_wp2
          obtain ⟨p, r1, r2, r3⟩ := unhide h7
          exact ⟨⟨k + 1, _, ps ++ [p], by omega, by simp; omega, by go_num, by rw [unhide Hsn, ← unhide Hln, ← r1, List.map_append]; rfl, ((unhide Hbx).below hB7 (by omega)).put1, r2.putlo (by omega), bput (hb.trans (hB7.mono (by omega))) (Nat.le_refl _) _⟩, by simp [intOf]; omega⟩
      · obtain rfl : k = xss.length := by omega
        have Hx : Hid (ps.map Cl.xs = xss) := by
          have := unhide Hln
          rwa [List.take_length] at this
        obtain ⟨w4, hw4⟩ : ∃ w4, w4 = wr := ⟨_, rfl⟩
        rw [← hw4] at hb hszr Hll Hbx f0 f1 f2 f3 g0 g1 g2 g3 hBl ⊢
        clear hw4
        go_wp2_with fail
        refine (postingLists_any base _ xss _ ((unhide Hv).below (hB1.trans (hb.mono (by omega))) (Nat.le_refl _)) (unhide HB) hT hL2 h0 (by omega)).mono ?_
        rintro e w5 ⟨⟨kv, pv, ks, qs, rfl, hseg, hcnt, hgt⟩, hb5⟩
        have Hcnt := hide hcnt
        clear hcnt
        have hz5 := hb5.size
        have Hseg := hide hseg
        have Hgt := hide hgt
        have SL := hide ((LB.footR (unhide Hll)).keep hb5 (Nat.le_refl _))
        have Hb5 := hide ((unhide Hbx).below hb5 hBl)
        obtain ⟨ka, kc, rfl⟩ := own_is hgt.keys
        obtain ⟨pa, pc, rfl⟩ := own_is hgt.ll.own
        clear f0 f1 f2 f3 g0 g1 g2 g3
        obtain ⟨f0, f1, f2, f3, g0, g1, g2, g3⟩ := (unhide Hb5).facts
        have hB5 : Below w1.heap.size w1 w5 := hb.trans (hb5.mono (by omega))
        have hRR := hide ((unhide HRR).below hB5 (by omega))
        obtain ⟨r0, r1, r2, r3, t0, t1, t2, t3⟩ := (unhide hRR).facts
        clear hseg hgt
        go_wp2_with fail
        have hks : ks.length ≤ maxLen := by
          have h8 := own_cap (unhide Hgt).keys
          have := h8.le
          omega
        have hF := SegF.mk' (base := base) (unhide SL) (unhide Hgt) hz5 hks (by omega)
        rw [unhide Hx] at hF
        have hF' := ((((((hF.put (b := w1.heap.size) (o := 2) (u := .slice ka ks.length kc) (by omega)).put (b := w1.heap.size) (o := 3) (u := .slice pa qs.length pc) (by omega)).put (b := w.heap.size) (o := 0) (u := .int .i64 base) (by omega)).put (b := w.heap.size) (o := 1) (u := .slice la ps.length lc) (by omega)).put (b := w.heap.size) (o := 2) (u := .slice ka ks.length kc) (by omega)).put (b := w.heap.size) (o := 3) (u := .slice pa qs.length pc) (by omega)).low (lo' := w.heap.size) (by omega) (Nat.le_of_eq (show w5.heap.size = ((((((w5.setCell ⟨w1.heap.size, 2, none⟩ (.slice ka ks.length kc)).setCell ⟨w1.heap.size, 3, none⟩ (.slice pa qs.length pc)).setCell ⟨w.heap.size, 0, none⟩ (.int .i64 base)).setCell ⟨w.heap.size, 1, none⟩ (.slice la ps.length lc)).setCell ⟨w.heap.size, 2, none⟩ (.slice ka ks.length kc)).setCell ⟨w.heap.size, 3, none⟩ (.slice pa qs.length pc)).heap.size by simp only [sz_put]))
        have hRF := (((((unhide hRR).other (b' := w1.heap.size) (o := 2) (u := .slice ka ks.length kc) (by omega)).other (b' := w1.heap.size) (o := 3) (u := .slice pa qs.length pc) (by omega)).put0 (u := .int .i64 base)).put1 (u := .slice la ps.length lc)).put2 (u := .slice ka ks.length kc) |>.put3 (u := .slice pa qs.length pc)
        obtain ⟨e0, e1, e2, e3, -⟩ := hRF.facts
        have hBB := bput (bput (bput (bput (bput (bput (hB1.trans (hB5.mono (by omega))) (b := w1.heap.size) (o := 2) (by omega) (.slice ka ks.length kc)) (b := w1.heap.size) (o := 3) (by omega) (.slice pa qs.length pc)) (b := w.heap.size) (o := 0) (Nat.le_refl _) (.int .i64 base)) (b := w.heap.size) (o := 1) (Nat.le_refl _) (.slice la ps.length lc)) (b := w.heap.size) (o := 2) (Nat.le_refl _) (.slice ka ks.length kc)) (b := w.heap.size) (o := 3) (Nat.le_refl _) (.slice pa qs.length pc)
        exact bodyPost_ret (v := .tuple #[.agg #[.int .i64 base, .slice la ps.length lc, .slice ka ks.length kc, .slice pa qs.length pc], .int .i64 0]) (by simp [results, Tryz.results9, go_sem, e0, e1, e2, e3]) rfl ⟨Or.inl ⟨unhide Hm, _, ks, qs.map Cl.xs, rfl, unhide Hseg, unhide Hcnt, hF'⟩, hBB⟩
  · have Hm := hide hm
    have HRR := hide RR1
    obtain ⟨r0, r1, r2, r3, t0, t1, t2, t3⟩ := RR1.facts
    clear hm hr RR1
    go_wp2_with fail
    obtain ⟨e0, e1, e2, e3, -⟩ := ((((unhide HRR).put0 (u := .int .i64 0)).put1 (u := .slice none 0 0)).put2 (u := .slice none 0 0)).put3 (u := .slice none 0 0) |>.facts
    refine bodyPost_ret (v := .tuple #[.agg #[.int .i64 0, .slice none 0 0, .slice none 0 0, .slice none 0 0], .int .i64 4]) (by simp [results, Tryz.results9, go_sem, e0, e1, e2, e3]) rfl ⟨Or.inr ⟨unhide Hm, rfl⟩, bput (bput (bput (bput hB1 (Nat.le_refl _) _) (Nat.le_refl _) _) (Nat.le_refl _) _) (Nat.le_refl _) _⟩
theorem implBuild_fit (base : Int) (v : Value) (xss : List (List Int)) (w : World) (hv : SsAt mB 0 w.heap.size w v xss) (hbb : ∀ x ∈ xss, Bytes x) (hT : tot xss ≤ 1048576) (hL : xss.length ≤ 1048576) (hb0 : -9223372036854775808 ≤ base) (hb1 : base ≤ 9223372036854775807) (hf : Fits base xss) :
    Calls Tryz.prog 9 #[.int .i64 base, v] w fun e w' => (∃ v ks pss, e = .returned (.tuple #[v, .int .i64 0]) ∧ SegR base xss ks pss ∧ (ks.length ≤ 1048576 ∧ tot pss ≤ 1048576) ∧ SegF w.heap.size w'.heap.size w' v base xss ks pss) ∧ Below w.heap.size w w' :=
  (implBuild_any base v xss w hv hbb hT hL hb0 hb1).mono (fun e w' ⟨h1, h2⟩ => ⟨by
    rcases h1 with ⟨-, h⟩ | ⟨h, -⟩
    · exact h
    · exact absurd hf h, h2⟩)
end Go.Proofs.YtinhliecfjlocaaGreat
