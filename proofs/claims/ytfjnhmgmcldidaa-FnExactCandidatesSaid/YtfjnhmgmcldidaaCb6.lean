import Derived.Test.YtfjnhmgmcldidaaCb5
namespace Go.Proofs.Ytfjnhmgmcldidaa
open Go.RowKit

theorem Obk.belC {g m : Nat} {a b : World} (h : Obk g a b) (hm : m ≤ g) : Below m a b := ⟨h.os, h.tape, h.output, by rw [h.size]; exact Nat.le_refl _, fun k hk => h.block k (by omega)⟩
theorem wrap_pos {pos base : Int} {k : Nat} (hp : In64' pos) (hk : k < 1024) : wrap64 (pos - base) = (k : Int) ↔ pos = wrap64 (base + k) := by
  unfold In64' at hp
  unfold wrap64
  omega
/-- A set of sixteen words, all nought. -/
theorem ln_new (w : World) : (w.alloc (.cells #[.int .u64 0, .int .u64 0, .int .u64 0, .int .u64 0, .int .u64 0, .int .u64 0, .int .u64 0, .int .u64 0, .int .u64 0, .int .u64 0, .int .u64 0, .int .u64 0, .int .u64 0, .int .u64 0, .int .u64 0, .int .u64 0] 55)).rowIs w.heap.size 55 16 (lnW (fun _ => 0)) :=
  World.rowIs_alloc w #[.int .u64 0, .int .u64 0, .int .u64 0, .int .u64 0, .int .u64 0, .int .u64 0, .int .u64 0, .int .u64 0, .int .u64 0, .int .u64 0, .int .u64 0, .int .u64 0, .int .u64 0, .int .u64 0, .int .u64 0, .int .u64 0] _ _ (fun i hi => by
    match i, hi with
    | 0, _ => rfl
    | 1, _ => rfl
    | 2, _ => rfl
    | 3, _ => rfl
    | 4, _ => rfl
    | 5, _ => rfl
    | 6, _ => rfl
    | 7, _ => rfl
    | 8, _ => rfl
    | 9, _ => rfl
    | 10, _ => rfl
    | 11, _ => rfl
    | 12, _ => rfl
    | 13, _ => rfl
    | 14, _ => rfl
    | 15, _ => rfl
    | k + 16, h => exact absurd (show k + 16 < 16 from h) (by omega))
/-- The lines whose positions stand in a list. -/
def LnD (base : Int) (n : Nat) (g : Nat → Nat) (D : List Int) : Prop := LnF g ∧ ∀ i : Nat, LnB g i = true ↔ (i < n ∧ wrap64 (base + i) ∈ D)
theorem LnD.nil (base : Int) (n : Nat) : LnD base n (fun _ => 0) [] := ⟨fun j => by simp, fun i => by simp [LnB]⟩
theorem LnD.yes {base : Int} {n : Nat} {g : Nat → Nat} {D : List Int} {z : Int} {k : Nat} (h : LnD base n g D) (hz : z = wrap64 (base + k)) (hk : k < n) (hn : n ≤ 1000) : LnD base n (lnP g k) (D ++ [z]) := by
  refine ⟨lnF_put h.1 k, fun i => ?_⟩
  rw [lnB_put, Bool.or_eq_true, h.2 i, decide_eq_true_iff, List.mem_append, List.mem_singleton]
  constructor
  · rintro (⟨h1, h2⟩ | rfl)
    · exact ⟨h1, .inl h2⟩
    · exact ⟨hk, .inr hz.symm⟩
  · rintro ⟨h1, h2 | h2⟩
    · exact .inl ⟨h1, h2⟩
    · right
      rw [hz] at h2
      unfold wrap64 at h2
      omega
theorem LnD.no {base : Int} {n : Nat} {g : Nat → Nat} {D : List Int} {z : Int} (h : LnD base n g D) (hz : ∀ k : Nat, k < n → z ≠ wrap64 (base + k)) : LnD base n g (D ++ [z]) := by
  refine ⟨h.1, fun i => ?_⟩
  rw [h.2 i, List.mem_append, List.mem_singleton]
  constructor
  · rintro ⟨h1, h2⟩; exact ⟨h1, .inl h2⟩
  · rintro ⟨h1, h2 | h2⟩
    · exact ⟨h1, h2⟩
    · exact absurd h2.symm (hz i h1)
/-- The positions at these places. -/
def plD (pss : List (List Int)) (js : List Int) : List Int := js.flatMap fun j => pss[j.toNat]?.getD []
theorem plD_snoc (pss : List (List Int)) (js : List Int) (j : Int) : plD pss (js ++ [j]) = plD pss js ++ pss[j.toNat]?.getD [] := by simp [plD]

set_option maxHeartbeats 8000000 in
set_option maxRecDepth 100000 in
theorem linesAt_any (v tv : Value) (base : Int) (xss pss : List (List Int)) (ks js : List Int) (w : World) (hv : SegRd w v base xss ks pss) (htv : SlAt mI 0 0 w.heap.size w tv js) (hjs : ∀ j ∈ js, 0 ≤ j ∧ j < pss.length) (hn : xss.length ≤ 1000) (hjl : js.length ≤ 1048576) (hb : In64' base) (hp : ∀ k i : Nat, In64' ((pss[k]?.getD [])[i]?.getD 0)) :
    Calls Try.prog 40 #[v, tv] w fun e w' => ∃ (lv : Value) (h : Nat → Nat), e = .returned lv ∧ w'.ownsRow w.heap.size 61 2 lv (blkOf h 16).length (flB (blkOf h 16)) ∧ LnD base xss.length h (plD pss js) ∧ Below w.heap.size w w' := by
  obtain ⟨lv, kv, pv, rfl, h1, h2, h3⟩ := id hv
  obtain ⟨la, lc, rfl, -, -⟩ := id h1
  obtain ⟨ka, kc, rfl, -, -⟩ := id h2
  obtain ⟨pa, pc, rfl, hpl, hps⟩ := ss_at h3
  obtain ⟨ta, tc, rfl, -, htc⟩ := id htv
  obtain ⟨n, hnn⟩ : ∃ n, n = xss.length := ⟨_, rfl⟩
  rw [← hnn] at hn ⊢
  obtain ⟨W2, hW2⟩ : ∃ W2, W2 = (w.alloc (.cells #[.int .i64 base, .slice la n lc, .slice ka ks.length kc, .slice pa pss.length pc] 32)).alloc (.cells #[.int .u64 0, .int .u64 0, .int .u64 0, .int .u64 0, .int .u64 0, .int .u64 0, .int .u64 0, .int .u64 0, .int .u64 0, .int .u64 0, .int .u64 0, .int .u64 0, .int .u64 0, .int .u64 0, .int .u64 0, .int .u64 0] 55) := ⟨_, rfl⟩
  have hB2 : Below w.heap.size w W2 := by rw [hW2]; exact below2 w _ _
  have hz2 : W2.heap.size = w.heap.size + 2 := by rw [hW2, sz_alloc, sz_alloc]
  have hR2 : Row4 W2 w.heap.size 32 (.int .i64 base) (.slice la n lc) (.slice ka ks.length kc) (.slice pa pss.length pc) := by rw [hW2]; exact (Row4.new w _ _ _ _ _).alloc _
  have hS2 : W2.rowIs (w.heap.size + 1) 55 16 (lnW (fun _ => 0)) := by
    have := ln_new (w.alloc (.cells #[.int .i64 base, .slice la n lc, .slice ka ks.length kc, .slice pa pss.length pc] 32))
    rw [sz_alloc] at this
    rw [hW2]
    exact this
  have HPS : Hid (∀ W, Below w.heap.size w W → ∀ j : Nat, j < pss.length → ∃ b off sa sc, pa = some ⟨b, off, none⟩ ∧ W.cell? ⟨b, off + j, none⟩ = some (.slice sa (pss[j]?.getD []).length sc) ∧ SlAt mI 0 0 w.heap.size w (.slice sa (pss[j]?.getD []).length sc) (pss[j]?.getD [])) := fun W hW j hj => by
    obtain ⟨b, off, sa, sc, rfl, hb, hcell, hsl, -⟩ := hps j hj
    exact ⟨b, off, sa, sc, rfl, by rw [hW.cell (p := ⟨b, off + j, none⟩) hb]; exact hcell, hsl⟩
  have HTC : Hid (∀ W, Below w.heap.size w W → ∀ j : Nat, j < js.length → ∃ b off, ta = some ⟨b, off, none⟩ ∧ W.cell? ⟨b, off + j, none⟩ = some (.int .i64 (js[j]?.getD 0))) := fun W hW j hj => by
    obtain ⟨b, off, rfl, -, hb, hcell⟩ := htc (by omega)
    exact ⟨b, off, rfl, by rw [hW.cell (p := ⟨b, off + j, none⟩) hb]; exact hcell j hj⟩
  have HW2 := hide hW2
  have HB2 := hide hB2
  have HR2 := hide hR2
  have HS2 := hide hS2
  have HJS := hide hjs
  have HBI := hide hb
  have HPI := hide hp
  have HNN := hide hnn
  have hz2' : w.heap.size + 2 ≤ W2.heap.size := by omega
  clear h1 h2 h3 htc hps hW2 hB2 hR2 hS2 hz2 hv htv hjs hb hp hnn
  go_enter Try.func40, Try.ntmps40
  go_wp2_with fail
  rw [← unhide HW2]
  clear HW2
  go_loopw [13] (fun jv wr => ∃ (j : Nat) (g : Nat → Nat), j ≤ js.length ∧ jv = .int .i64 (j : Nat) ∧ wr.rowIs (w.heap.size + 1) 55 16 (lnW g) ∧ LnD base n g (plD pss (js.take j)) ∧ Obk (w.heap.size + 1) W2 wr) (fun jv _ => js.length - (intOf jv).toNat)
  case atStart => exact ⟨0, _, by omega, rfl, unhide HS2, LnD.nil _ _, ⟨rfl, rfl, rfl, rfl, fun _ _ => rfl⟩⟩
  case round =>
    clear HS2
    obtain ⟨j, g, hj, rfl, hS, hD, hob⟩ := hrel
    obtain ⟨w3, rfl⟩ : ∃ w3, w3 = wr := ⟨_, rfl⟩
    have hB3 : Below w.heap.size w w3 := (unhide HB2).trans (hob.belC (by omega))
    by_cases hjl : j < js.length
    · have hjl' : (j : Int) < (js.length : Int) := by omega
      obtain ⟨tb, to, rfl, z0⟩ := unhide HTC w3 hB3 j hjl
      obtain ⟨t, ht⟩ : ∃ t, t = js[j]?.getD 0 := ⟨_, rfl⟩
      have htm : t ∈ js := by rw [ht, List.getElem?_eq_getElem hjl]; exact List.getElem_mem hjl
      obtain ⟨ht0, ht1⟩ := unhide HJS t htm
      obtain ⟨q, rfl⟩ := Int.eq_ofNat_of_zero_le ht0
      have hql : q < pss.length := by omega
      have hql' : (q : Int) < (pss.length : Int) := by omega
      rw [← ht] at z0
      obtain ⟨pb, po, sa, sc, rfl, hpc, hpsl⟩ := unhide HPS w3 hB3 q hql
      obtain ⟨ps, hps⟩ : ∃ ps, ps = pss[q]?.getD [] := ⟨_, rfl⟩
      rw [← hps] at hpc hpsl
      have HPSI : Hid (∀ i : Nat, In64' (ps[i]?.getD 0)) := fun i => by rw [hps]; exact unhide HPI q i
      obtain ⟨a9, c9, e9, hsm, hc9⟩ := id hpsl
      cases e9
      unfold maxLen at hsm
      obtain ⟨y0, y1, y2, y3, -⟩ := Row4.facts (World.rowIs.of_block (unhide HR2) (hob.block w.heap.size (by omega)))
      have HSN : Hid (plD pss (js.take (j + 1)) = plD pss (js.take j) ++ ps) := by
        show plD pss _ = _
        rw [take_snoc hjl, ← ht, plD_snoc, hps]
        rfl
      have HD0 : Hid (LnD base n g (plD pss (js.take j) ++ ps.take 0)) := by rw [List.take_zero, List.append_nil]; exact hD
      have HS := hide hS
      have HOB := hide hob
      have HC9 := hide hc9
      clear hS hD hob hpsl hc9 hps ht htm hB3
      go_wp2_with fail
      go_loopw [23] (fun iv wx => ∃ (i : Nat) (g : Nat → Nat), i ≤ ps.length ∧ iv = .int .i64 (i : Nat) ∧ wx.rowIs (w.heap.size + 1) 55 16 (lnW g) ∧ LnD base n g (plD pss (js.take j) ++ ps.take i) ∧ Obk (w.heap.size + 1) W2 wx) (fun iv _ => ps.length - (intOf iv).toNat)
      case atStart => exact ⟨0, g, by omega, rfl, unhide HS, unhide HD0, unhide HOB⟩
      case round =>
        clear HS HD0 HOB y0 y1 y2 y3 z0 hpc
        obtain ⟨i, g, hi, rfl, hS, hD, hob⟩ := hrel
        obtain ⟨w4, rfl⟩ : ∃ w4, w4 = wr := ⟨_, rfl⟩
        by_cases hil : i < ps.length
        · have hil' : (i : Int) < (ps.length : Int) := by omega
          obtain ⟨sb, so, rfl, -, hsb, hsc⟩ := unhide HC9 (by omega)
          have x0 := hsc i hil
          have hB4 : Below w.heap.size w w4 := (unhide HB2).trans (hob.belC (by omega))
          obtain ⟨z, hz⟩ : ∃ z, z = ps[i]?.getD 0 := ⟨_, rfl⟩
          have hzi := unhide HPSI i
          rw [← hz] at x0 hzi
          unfold mI at x0
          have x1 : w4.cell? ⟨sb, so + i, none⟩ = some (.int .i64 z) := by rw [hB4.cell (p := ⟨sb, so + i, none⟩) hsb]; exact x0
          obtain ⟨y0, y1, y2, y3, -⟩ := Row4.facts (World.rowIs.of_block (unhide HR2) (hob.block w.heap.size (by omega)))
          have HTK : Hid (ps.take (i + 1) = ps.take i ++ [z]) := by rw [hz]; exact take_snoc hil
          obtain ⟨d, hd⟩ : ∃ d, d = wrap64 (z - base) := ⟨_, rfl⟩
          have HDD := hide hd
          by_cases hd0 : 0 ≤ d
          · by_cases hdn : d < (n : Int)
            · obtain ⟨k, hk⟩ := Int.eq_ofNat_of_zero_le hd0
              have hkn : k < n := by omega
              have hzk : z = wrap64 (base + k) := (wrap_pos hzi (by omega)).1 (by rw [← hd, hk])
              have HD2 : Hid (LnD base n (lnP g k) (plD pss (js.take j) ++ ps.take (i + 1))) := by rw [unhide HTK, ← List.append_assoc]; exact hD.yes hzk hkn hn
              have HPU := hide (lnPut_any (w.heap.size + 1) k g w4 hD.1 (by omega) hS)
              have HOB := hide hob
              clear hS hD hob hsc x0 hB4 hzk hzi hz
              have hd0' : (0 : Int) ≤ wrap64 (z - base) := by rw [← hd]; exact hd0
              have hdn' : wrap64 (z - base) < (n : Int) := by rw [← hd]; exact hdn
              have hkw : wrap64 (z - base) = (k : Int) := by rw [← hd]; exact hk
              clear hd hd0 hdn hk
              go_wp2_with fail
              refine (unhide HPU).mono ?_
              rintro e w5 ⟨rfl, hS5, hob5⟩
              have HS5 := hide hS5
              have HOB5 := hide ((unhide HOB).trans hob5)
              clear hS5 hob5 HPU HOB x1 y0 y1 y2 y3
              go_wp2
              go_roundw
              case rel => exact ⟨i + 1, _, by omega, by go_num, unhide HS5, unhide HD2, unhide HOB5⟩
              case measure => simp [intOf]; omega
            · have HD2 : Hid (LnD base n g (plD pss (js.take j) ++ ps.take (i + 1))) := by
                rw [unhide HTK, ← List.append_assoc]
                refine hD.no fun k hk e9 => ?_
                have := (wrap_pos hzi (by omega : k < 1024)).2 e9
                omega
              have HS := hide hS
              have HOB := hide hob
              have hd0' : (0 : Int) ≤ wrap64 (z - base) := by rw [← hd]; exact hd0
              have hdn' : ¬ wrap64 (z - base) < (n : Int) := by rw [← hd]; exact hdn
              clear hS hD hob hsc x0 hB4 hzi hz hd hd0 hdn
              go_wp2
              go_roundw
              case rel => exact ⟨i + 1, g, by omega, by go_num, unhide HS, unhide HD2, unhide HOB⟩
              case measure => simp [intOf]; omega
              
          · have HD2 : Hid (LnD base n g (plD pss (js.take j) ++ ps.take (i + 1))) := by
              rw [unhide HTK, ← List.append_assoc]
              refine hD.no fun k hk e9 => ?_
              have := (wrap_pos hzi (by omega : k < 1024)).2 e9
              omega
            have HS := hide hS
            have HOB := hide hob
            have hd0' : ¬ (0 : Int) ≤ wrap64 (z - base) := by rw [← hd]; exact hd0
            clear hS hD hob hsc x0 hB4 hzi hz hd hd0
            go_wp2
            go_roundw
            case rel => exact ⟨i + 1, g, by omega, by go_num, unhide HS, unhide HD2, unhide HOB⟩
            case measure => simp [intOf]; omega
            
        · have hil' : ¬ (i : Int) < (ps.length : Int) := by omega
          have HD2 : Hid (LnD base n g (plD pss (js.take (j + 1)))) := by
            rw [unhide HSN]
            have e9 : ps.take i = ps := List.take_of_length_le (by omega)
            rw [e9] at hD
            exact hD
          have HS := hide hS
          have HOB := hide hob
          clear hS hD hob
          go_wp2
          go_roundw
          case rel => exact ⟨j + 1, g, by omega, by go_num, unhide HS, unhide HD2, unhide HOB⟩
          case measure => simp [intOf]; omega
    · have hjl' : ¬ (j : Int) < (js.length : Int) := by omega
      have HD : Hid (LnD base n g (plD pss js)) := by have e9 : js.take j = js := List.take_of_length_le (by omega); rw [e9] at hD; exact hD
      have HBL := hide (blocks_any (w.heap.size + 1) g w3 hS)
      have HB3 := hide hB3
      have hz3 := hB3.size
      clear hS hD hob hB3
      go_wp2_with fail
      refine (unhide HBL).mono ?_
      rintro e w5 ⟨lv, rfl, hown, hb5⟩
      have hz5 := hb5.size
      obtain ⟨oa, oc, e1⟩ := own_is hown
      subst e1
      have HX : Hid (w5.ownsRow w.heap.size 61 2 (.slice oa (blkOf g 16).length oc) (blkOf g 16).length (flB (blkOf g 16)) ∧ Below w.heap.size w w5) := ⟨own_low hown hz3, (unhide HB3).trans (hb5.mono hz3)⟩
      obtain ⟨bl, hbl⟩ : ∃ bl, bl = (blkOf g 16).length := ⟨_, rfl⟩
      rw [← hbl]
      have HBLN := hide hbl
      clear hown hb5 HBL hbl
      go_wp2
      go_ret
      rw [unhide HBLN]
      exact ⟨_, g, rfl, (unhide HX).1, unhide HD, (unhide HX).2⟩

end Go.Proofs.Ytfjnhmgmcldidaa
