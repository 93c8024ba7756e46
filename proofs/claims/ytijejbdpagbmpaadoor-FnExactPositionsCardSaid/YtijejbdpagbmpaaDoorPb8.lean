import Derived.Test.YtijejbdpagbmpaaDoorPb9
import Derived.Test.YtijejbdpagbmpaaDoorPb1b
import Derived.Test.YtijejbdpagbmpaaDoorPq
import Derived.Deep.DeepCutAuto
import Derived.Deep.RegionHeld3
namespace Go.Proofs.YtijejbdpagbmpaaDoor
open Go.RowKit

theorem own_ne5 {base n B : Nat} {w : World} {v s f l k : Value} {b : Bool} {xs : List Value} (h : w.ownsRow base 3 1 v n xs) (r : Row5 w B s b f l k) : v.ownBlock ≠ some B := fun e => by
  rcases h.2 with ⟨rfl, -⟩ | ⟨g, cap, cur, rfl, -, hg, -⟩
  · cases e
  · have e2 : g = B := Option.some.inj e
    subst e2
    rw [r.blk] at hg
    have := Option.some.inj hg
    injection this with _ h2
    exact absurd h2 (by decide)
theorem Row5.frz {w : World} {D : Nat} {s f l k : Value} {b : Bool} (h : Row5 w D s b f l k) : w.frozen? ⟨D, 0, none⟩ = false ∧ w.frozen? ⟨D, 1, none⟩ = false ∧ w.frozen? ⟨D, 2, none⟩ = false ∧ w.frozen? ⟨D, 3, none⟩ = false ∧ w.frozen? ⟨D, 4, none⟩ = false :=
  ⟨World.rowIs.frozen h 0, World.rowIs.frozen h 1, World.rowIs.frozen h 2, World.rowIs.frozen h 3, World.rowIs.frozen h 4⟩
theorem five_put {w : World} {B q : Nat} {v0 v1 v2 v3 v4 : Value} (h : q ≠ B) : (((((w.setCell ⟨B, 0, none⟩ v0).setCell ⟨B, 1, none⟩ v1).setCell ⟨B, 2, none⟩ v2).setCell ⟨B, 3, none⟩ v3).setCell ⟨B, 4, none⟩ v4).heap[q]? = w.heap[q]? := by
  rw [Below.heap_setCell _ _ _ _ h, Below.heap_setCell _ _ _ _ h, Below.heap_setCell _ _ _ _ h, Below.heap_setCell _ _ _ _ h, Below.heap_setCell _ _ _ _ h]
theorem run_pairs (x : Value) : ∀ w, Sem.run Tryd.prog (callFunc 23 #[x]) w = .ok (.enter 23 #[x]) w := fun w => by kernel_rfl
theorem run_list (x : Value) : ∀ w, Sem.run Tryd.prog (callFunc 22 #[x]) w = .ok (.enter 22 #[x]) w := fun w => by kernel_rfl
theorem tot_lim2 : ∀ {S : List (List Int)} {m : Nat}, (∀ x, x ∈ S → x.length ≤ m) → tot S ≤ S.length * m
  | [], _, _ => by simp [tot]
  | x :: r, m, h => by
    have h1 := tot_lim2 (S := r) (fun y hy => h y (List.mem_cons_of_mem _ hy))
    have h2 := h x (List.mem_cons_self ..)
    simp only [tot, List.length_cons, Nat.succ_mul]
    omega
theorem own_foot {base n : Nat} {w : World} {v : Value} {xs : List Int} (h : w.ownsRow base 3 1 v n (xs.map mI)) : SlF mI 0 (fun k => v.ownBlock = some k) w v xs := by
  obtain ⟨b, hok, -⟩ := own_cl h
  refine hok.foot.mono (fun k hk => ?_)
  obtain ⟨a, cap, e, -, hc⟩ := hok
  obtain ⟨off, rfl, -⟩ := hc hk.1
  have e2 : v = _ := e
  rw [e2, hk.2]
  rfl
theorem tot_fol (ln : List Lk) (n : Nat) (hn : n ≤ 503) : tot (folL ln n) ≤ 1048576 := by
  have h1 : tot (folL ln n) ≤ (folL ln n).length * n := tot_lim2 (fun x hx => by
    obtain ⟨i, -, rfl⟩ := List.mem_map.1 hx
    unfold folR
    rw [List.length_map]
    have := List.length_filter_le (mkd ln i) (List.range n)
    rwa [List.length_range] at this)
  have h2 : (folL ln n).length = n := by simp [folL]
  rw [h2] at h1
  have h3 : n * n ≤ 503 * 503 := Nat.mul_le_mul hn hn
  omega
/-- Behind the first statement of a round. -/
def PosMid (V : World) (B : Nat) (nl : Bool) (fv lv wv : Value) (ps qs : List (Cl Int)) (X : List Int) (wx : World) : Prop :=
  ∃ sv p, p.xs = X ∧ Row5 wx B sv nl fv lv wv ∧ LI V.heap.size wx sv (ps ++ [p]) ∧ LI V.heap.size wx wv qs ∧ (∀ k, FootL sv (ps ++ [p]) k → ¬ FootL wv qs k) ∧ FrO (fun k => k = B ∨ V.heap.size ≤ k) V wx
/-- What Positions leaves. -/
def PosRet (l r : Bool) (xs : List El) (w : World) (e : Ending) (w' : World) : Prop :=
  ∃ sv fv lv wv S b F L W, ∃ T1 T2 T3 T4 : Nat → Prop, e = .returned (.agg #[sv, .bool b, fv, lv, wv]) ∧ AnsA l r xs S b F L W ∧ AutoF T1 T2 T3 T4 w' sv fv lv wv S F L W ∧ (∀ k, T1 k ∨ T2 k ∨ T3 k ∨ T4 k → w.heap.size ≤ k ∧ k < w'.heap.size) ∧ (∀ j, T1 j → ¬ T2 j ∧ ¬ T3 j ∧ ¬ T4 j) ∧ (∀ j, T2 j → ¬ T3 j ∧ ¬ T4 j) ∧ (∀ j, T3 j → ¬ T4 j) ∧ tot S ≤ 1048576 ∧ F.length ≤ 10000 ∧ L.length ≤ 10000 ∧ tot W ≤ 1048576 ∧ Below w.heap.size w w'
/-- The box of the answer behind its first statement. -/
def PosBox (w2 : World) (nl : Bool) (F Z : List Int) (bv : Value) (wx : World) : Prop :=
  ∃ B fv lv, bv = .pointer (some ⟨B, 0, none⟩) ∧ w2.heap.size ≤ B ∧ Row5 wx B (.slice none 0 0) nl fv lv (.slice none 0 0) ∧ wx.ownsRow w2.heap.size 3 1 fv F.length (F.map mI) ∧ wx.ownsRow w2.heap.size 3 1 lv Z.length (Z.map mI) ∧ (∀ k, fv.ownBlock = some k → lv.ownBlock ≠ some k) ∧ Below w2.heap.size w2 wx

section
variable {w2 w4 : World} {nl : Bool} {F Z : List Int} {fv lv : Value}
theorem PosBox.lit (hB : Below w2.heap.size w2 w4) (o1 : w4.ownsRow w2.heap.size 3 1 fv F.length (F.map mI)) (o2 : w4.ownsRow w2.heap.size 3 1 lv Z.length (Z.map mI)) (dj : ∀ k, fv.ownBlock = some k → lv.ownBlock ≠ some k) :
    PosBox w2 nl F Z (.pointer (some ⟨w4.heap.size, 0, none⟩)) (w4.alloc (.cells #[.slice none 0 0, .bool nl, fv, lv, .slice none 0 0] 29)) :=
  ⟨w4.heap.size, fv, lv, rfl, hB.size, Row5.new w4 _ _ _ _ _, own_keep o1 (below1 w4 _) (Nat.le_refl _), own_keep o2 (below1 w4 _) (Nat.le_refl _), dj, hB.alloc hB.size _⟩
theorem PosBox.put {B : Nat} (hB0 : w2.heap.size ≤ B) (hB : Below w2.heap.size w2 w4) (r : Row5 w4 B (.slice none 0 0) false (.slice none 0 0) (.slice none 0 0) (.slice none 0 0)) (o1 : w4.ownsRow w2.heap.size 3 1 fv F.length (F.map mI)) (o2 : w4.ownsRow w2.heap.size 3 1 lv Z.length (Z.map mI)) (dj : ∀ k, fv.ownBlock = some k → lv.ownBlock ≠ some k) :
    PosBox w2 nl F Z (.pointer (some ⟨B, 0, none⟩)) (((((w4.setCell ⟨B, 0, none⟩ (.slice none 0 0)).setCell ⟨B, 1, none⟩ (.bool nl)).setCell ⟨B, 2, none⟩ fv).setCell ⟨B, 3, none⟩ lv).setCell ⟨B, 4, none⟩ (.slice none 0 0)) :=
  ⟨B, fv, lv, rfl, hB0, ((((r.put0 _).put1 _).put2 _).put3 _).put4 _, own_blk o1 (fun q hq => five_put (fun e => own_ne5 o1 r (by rw [← e]; exact hq))), own_blk o2 (fun q hq => five_put (fun e => own_ne5 o2 r (by rw [← e]; exact hq))), dj, bput (bput (bput (bput (bput hB hB0 _) hB0 _) hB0 _) hB0 _) hB0 _⟩
end

set_option maxHeartbeats 16000000 in
set_option maxRecDepth 100000 in
theorem implPos_any (l r : Bool) (v : Value) (xs : List El) (w : World) (hv : ElsAt 0 w.heap.size w v xs) (htz : TZ w) (hlt : Tryd.laysTZ_ren.g 1 < w.heap.size) :
    Calls Tryd.prog 7 #[.agg #[.bool l, .bool r, v]] w fun e w' => PosRet l r xs w e w' := by
  obtain ⟨a, cp, rfl, -, -⟩ := id hv
  have Hv := hide hv
  obtain ⟨W0, hW0⟩ : ∃ W0, W0 = (w.alloc (.cells #[.bool l, .bool r, .slice a xs.length cp] 33)).alloc (.cells #[.slice none 0 0, .bool false, .slice none 0 0, .slice none 0 0, .slice none 0 0] 29) := ⟨_, rfl⟩
  have hz0 : W0.heap.size = w.heap.size + 2 := by rw [hW0, sz_alloc, sz_alloc]
  have hb0 : Below w.heap.size w W0 := by rw [hW0]; exact below2 w _ _
  have HR : Hid (Row5 W0 (w.heap.size + 1) (.slice none 0 0) false (.slice none 0 0) (.slice none 0 0) (.slice none 0 0)) := by
    have := Row5.new (w.alloc (.cells #[.bool l, .bool r, .slice a xs.length cp] 33)) (.slice none 0 0) false (.slice none 0 0) (.slice none 0 0) (.slice none 0 0)
    rw [sz_alloc, ← hW0] at this
    exact this
  have HTZ := hide htz
  have HW0 := hide hW0
  clear hv hW0 htz
  go_enter Tryd.func7, Tryd.ntmps7
  go_wp2_with fail
  rw [← unhide HW0]
  clear HW0
  refine (wholeTree_any closPos l r _ xs _ ((unhide Hv).below hb0 (Nat.le_refl _))).mono ?_
  rintro e w1 ⟨hret, hb1⟩
  have hz1 := hb1.size
  have HB01 := hide (hb0.trans (hb1.mono (by omega)))
  have HR1 := hide ((unhide HR).on (hb1.block _ (by omega)))
  clear hb1 hb0 HR
  rcases hret with ⟨U, L0, rfl, ⟨T, x, rfl⟩, hok, hsx, hl, hpos⟩ | ⟨rfl, hbad⟩
  · have hMl := whL_len l r L0
    obtain ⟨M, hM⟩ : ∃ M, M = whL l r L0 := ⟨_, rfl⟩
    rw [← hM] at hpos hMl
    obtain ⟨A, ln, ss, c, hadd, hnu, hed, hso, hbd, hasc, hsm, hall⟩ := hpos
    have hn5 : lvs M ≤ 503 := by
      have := lvs_half M
      rw [hsm.ws] at this
      omega
    have HANS : Hid (AnsA l r xs (setsOf M) A.nl (edg A false 0) (edg A true 0) (folL ln (lvs M))) := Or.inl ⟨hok, L0, A, ln, ss, hsx, hl, by rw [← hM]; exact hso, by rw [← hM], rfl, rfl, rfl, by rw [← hM]⟩
    have HSS := hide hso.sets
    have HLKB := hide hso.lkb
    have HAO := hide (automatonOf_any hadd (by omega) w1 ((unhide HTZ).below (unhide HB01) hlt) (by have := (unhide HB01).size; omega))
    have HBD := hide hbd
    have HASC := hide hasc
    have HALL := hide hall
    clear hok hsx hl hM hMl hnu hed hso hadd hsm hbd hasc hall
    go_wp2_with fail
    refine (unhide HAO).mono ?_
    rintro e w2 ⟨f, g, rfl, haut, hf, hg, hb2⟩
    obtain ⟨F, hF⟩ : ∃ F, F = edg A false 0 := ⟨_, rfl⟩
    obtain ⟨Z, hZ⟩ : ∃ Z, Z = edg A true 0 := ⟨_, rfl⟩
    have eF : (blN f 512).map Int.ofNat = F := by rw [bl_is hf (unhide HASC).1 (fun y hy => by have := (unhide HBD).1 y hy; omega), hF]; simp [edg]
    have eZ : (blN g 512).map Int.ofNat = Z := by rw [bl_is hg (unhide HASC).2 (fun y hy => by have := (unhide HBD).2 y hy; omega), hZ]; simp [edg]
    have hFl : F.length ≤ 512 := by rw [← eF, List.length_map]; exact blN_len f 512
    have hZl : Z.length ≤ 512 := by rw [← eZ, List.length_map]; exact blN_len g 512
    have hz2 := hb2.size
    have HB02 := hide ((unhide HB01).trans (hb2.mono (by have := (unhide HB01).size; omega)))
    have hA0 : w1.heap.size < w2.heap.size := haut.1.lt
    have HR2 := hide ((unhide HR1).on (hb2.block _ (unhide HR1).lt))
    have hS : Hid (∀ W', Below w2.heap.size w2 W' → W'.cell? ⟨w1.heap.size, 2, none⟩ = some (.bool A.nl) ∧ W'.cell? ⟨w1.heap.size, 3, none⟩ = some (.int .u64 (f 0 : Nat)) ∧ W'.cell? ⟨w1.heap.size, 4, none⟩ = some (.int .u64 (f 1 : Nat)) ∧ W'.cell? ⟨w1.heap.size, 5, none⟩ = some (.int .u64 (f 2 : Nat)) ∧ W'.cell? ⟨w1.heap.size, 6, none⟩ = some (.int .u64 (f 3 : Nat)) ∧ W'.cell? ⟨w1.heap.size, 7, none⟩ = some (.int .u64 (f 4 : Nat)) ∧ W'.cell? ⟨w1.heap.size, 8, none⟩ = some (.int .u64 (f 5 : Nat)) ∧ W'.cell? ⟨w1.heap.size, 9, none⟩ = some (.int .u64 (f 6 : Nat)) ∧ W'.cell? ⟨w1.heap.size, 10, none⟩ = some (.int .u64 (f 7 : Nat)) ∧ W'.cell? ⟨w1.heap.size, 11, none⟩ = some (.int .u64 (g 0 : Nat)) ∧ W'.cell? ⟨w1.heap.size, 12, none⟩ = some (.int .u64 (g 1 : Nat)) ∧ W'.cell? ⟨w1.heap.size, 13, none⟩ = some (.int .u64 (g 2 : Nat)) ∧ W'.cell? ⟨w1.heap.size, 14, none⟩ = some (.int .u64 (g 3 : Nat)) ∧ W'.cell? ⟨w1.heap.size, 15, none⟩ = some (.int .u64 (g 4 : Nat)) ∧ W'.cell? ⟨w1.heap.size, 16, none⟩ = some (.int .u64 (g 5 : Nat)) ∧ W'.cell? ⟨w1.heap.size, 17, none⟩ = some (.int .u64 (g 6 : Nat)) ∧ W'.cell? ⟨w1.heap.size, 18, none⟩ = some (.int .u64 (g 7 : Nat))) := fun W' hW => by
      obtain ⟨FF, hFF, htl⟩ := haut.2
      have h9 := hFF.of_block (hW.block _ hA0)
      have key : ∀ k, k < 17 → W'.cell? ⟨w1.heap.size, 2 + k, none⟩ = some (endF A.nl f g k) := fun k hk => by rw [h9.cell (by omega), htl k hk]
      exact ⟨key 0 (by omega), key 1 (by omega), key 2 (by omega), key 3 (by omega), key 4 (by omega), key 5 (by omega), key 6 (by omega), key 7 (by omega), key 8 (by omega), key 9 (by omega), key 10 (by omega), key 11 (by omega), key 12 (by omega), key 13 (by omega), key 14 (by omega), key 15 (by omega), key 16 (by omega)⟩
    have HL1 : Hid (∀ W', Below w2.heap.size w2 W' → Calls Tryd.prog 22 #[.agg #[.int .u64 (f 0 : Nat), .int .u64 (f 1 : Nat), .int .u64 (f 2 : Nat), .int .u64 (f 3 : Nat), .int .u64 (f 4 : Nat), .int .u64 (f 5 : Nat), .int .u64 (f 6 : Nat), .int .u64 (f 7 : Nat)]] W' fun e w' => ∃ v', e = .returned v' ∧ w'.ownsRow W'.heap.size 3 1 v' F.length (F.map mI) ∧ Below W'.heap.size W' w') := fun W' hW => by
      refine (list_any f hf.1 W' ((unhide HTZ).below ((unhide HB02).trans (hW.mono (unhide HB02).size)) hlt) (by have := hW.size; have := (unhide HB02).size; omega)).mono ?_
      rintro e w' ⟨v', q1, q2, q3⟩
      exact ⟨v', q1, by rw [← eF, List.length_map]; exact q2, q3⟩
    have HL2 : Hid (∀ W', Below w2.heap.size w2 W' → Calls Tryd.prog 22 #[.agg #[.int .u64 (g 0 : Nat), .int .u64 (g 1 : Nat), .int .u64 (g 2 : Nat), .int .u64 (g 3 : Nat), .int .u64 (g 4 : Nat), .int .u64 (g 5 : Nat), .int .u64 (g 6 : Nat), .int .u64 (g 7 : Nat)]] W' fun e w' => ∃ v', e = .returned v' ∧ w'.ownsRow W'.heap.size 3 1 v' Z.length (Z.map mI) ∧ Below W'.heap.size W' w') := fun W' hW => by
      refine (list_any g hg.1 W' ((unhide HTZ).below ((unhide HB02).trans (hW.mono (unhide HB02).size)) hlt) (by have := hW.size; have := (unhide HB02).size; omega)).mono ?_
      rintro e w' ⟨v', q1, q2, q3⟩
      exact ⟨v', q1, by rw [← eZ, List.length_map]; exact q2, q3⟩
    rw [← hF, ← hZ] at HANS
    have HAUT := hide haut
    clear haut hf hg hb2 HAO hF hZ eF eZ HB01
    go_wp2_with fail
    go_cut [6] (fun bv wx => PosBox w2 A.nl F Z bv wx)
    case first =>
      have hbA : Below w2.heap.size w2 w2.drew := (Below.refl w2.heap.size w2).drew
      have hbB : ∀ o : Obj, Below w2.heap.size w2 (w2.alloc o) := fun o => below1 w2 o
      have hbC : ∀ o : Obj, Below w2.heap.size w2 (w2.alloc o).drew := fun o => (below1 w2 o).drew
      have hbE : ∀ o : Obj, Below w2.heap.size w2 (w2.drew.alloc o) := fun o => hbA.alloc (Nat.le_refl _) o
      have hr2C : Row5 (w2.alloc (.cells #[.slice none 0 0, .bool false, .slice none 0 0, .slice none 0 0, .slice none 0 0] 29)).drew w2.heap.size (.slice none 0 0) false (.slice none 0 0) (.slice none 0 0) (.slice none 0 0) := Row5.on (Row5.new w2 _ _ _ _ _) rfl
      have hr2E : Row5 (w2.drew.alloc (.cells #[.slice none 0 0, .bool false, .slice none 0 0, .slice none 0 0, .slice none 0 0] 29)) w2.heap.size (.slice none 0 0) false (.slice none 0 0) (.slice none 0 0) (.slice none 0 0) := Row5.on (Row5.new w2 _ _ _ _ _) rfl
      have hzC := hr2C.lt
      have hzE := hr2E.lt
      have HR2C := hide hr2C
      have HR2E := hide hr2E
      have HzC := hide hzC
      have HzE := hide hzE
      clear hr2C hr2E hzC hzE
      go_region_held3 (fun W' => W'.cell? ⟨w1.heap.size, 2, none⟩ = some (.bool A.nl) ∧ W'.cell? ⟨w1.heap.size, 3, none⟩ = some (.int .u64 (f 0 : Nat)) ∧ W'.cell? ⟨w1.heap.size, 4, none⟩ = some (.int .u64 (f 1 : Nat)) ∧ W'.cell? ⟨w1.heap.size, 5, none⟩ = some (.int .u64 (f 2 : Nat)) ∧ W'.cell? ⟨w1.heap.size, 6, none⟩ = some (.int .u64 (f 3 : Nat)) ∧ W'.cell? ⟨w1.heap.size, 7, none⟩ = some (.int .u64 (f 4 : Nat)) ∧ W'.cell? ⟨w1.heap.size, 8, none⟩ = some (.int .u64 (f 5 : Nat)) ∧ W'.cell? ⟨w1.heap.size, 9, none⟩ = some (.int .u64 (f 6 : Nat)) ∧ W'.cell? ⟨w1.heap.size, 10, none⟩ = some (.int .u64 (f 7 : Nat)) ∧ W'.cell? ⟨w1.heap.size, 11, none⟩ = some (.int .u64 (g 0 : Nat)) ∧ W'.cell? ⟨w1.heap.size, 12, none⟩ = some (.int .u64 (g 1 : Nat)) ∧ W'.cell? ⟨w1.heap.size, 13, none⟩ = some (.int .u64 (g 2 : Nat)) ∧ W'.cell? ⟨w1.heap.size, 14, none⟩ = some (.int .u64 (g 3 : Nat)) ∧ W'.cell? ⟨w1.heap.size, 15, none⟩ = some (.int .u64 (g 4 : Nat)) ∧ W'.cell? ⟨w1.heap.size, 16, none⟩ = some (.int .u64 (g 5 : Nat)) ∧ W'.cell? ⟨w1.heap.size, 17, none⟩ = some (.int .u64 (g 6 : Nat)) ∧ W'.cell? ⟨w1.heap.size, 18, none⟩ = some (.int .u64 (g 7 : Nat)))
        (first | (with_reducible exact unhide hS _ (hBp _ _ _ _ _ _ hle3)) | (with_reducible exact unhide hS _ (hBp _ _ _ _ _ _ hle2)) | (with_reducible exact unhide hS _ hbA) | (with_reducible exact unhide hS _ hB4) | (with_reducible exact unhide hS _ (hB4a _)) | (with_reducible exact unhide hS _ hB3) | (with_reducible exact unhide hS _ (hB3a _)) | (with_reducible exact unhide hS _ (hbC _)) | (with_reducible exact unhide hS _ (hbE _)) | (with_reducible exact unhide hS _ (hbB _)) | (with_reducible exact unhide hS _ (Below.refl _ _)) | go_keep)
        (first
          | (go_at_call 22; with_reducible refine (unhide HL1 _ ?_).mono ?_; (first | (with_reducible exact hbA) | (with_reducible exact hbC _) | (with_reducible exact hbE _) | (with_reducible exact hbB _)); rintro e w3 ⟨v3, rfl, ho3, hb3⟩; obtain ⟨f3, c3, rfl⟩ := own_is ho3; have hB3 : Below w2.heap.size w2 w3 := (by first | exact hbA.trans (hb3.mono hbA.size) | exact (hbC _).trans (hb3.mono (hbC _).size) | exact (hbE _).trans (hb3.mono (hbE _).size)); have hB3a : ∀ o : Obj, Below w2.heap.size w2 (w3.alloc o) := fun o => hB3.alloc hB3.size o; have ho3' : w3.ownsRow w2.heap.size 3 1 (.slice f3 F.length c3) F.length (F.map mI) := (own_low ho3 (by first | exact hbA.size | exact (hbC _).size | exact (hbE _).size)); have HO3 := hide ho3'; (first | (have RB := hide (Row5.on (unhide HR2C) (hb3.block _ (unhide HzC)))) | (have RB := hide (Row5.on (unhide HR2E) (hb3.block _ (unhide HzE)))) | skip); clear ho3 ho3' hb3)
          | (go_at_call 22; with_reducible refine (unhide HL2 _ ?_).mono ?_; (first | (with_reducible exact hB3) | (with_reducible exact hB3a _)); rintro e w4 ⟨v4, rfl, ho4, hb4⟩; obtain ⟨f4, c4, rfl⟩ := own_is ho4; have hb34 : Below w3.heap.size w3 w4 := (by first | exact hb4 | exact (below1 w3 _).trans (hb4.mono (by rw [sz_alloc]; omega))); have hB4 : Below w2.heap.size w2 w4 := hB3.trans (hb34.mono hB3.size); have hB4a : ∀ o : Obj, Below w2.heap.size w2 (w4.alloc o) := fun o => hB4.alloc hB4.size o; have hBp : ∀ (N : Nat) (q0 q1 q2 q3 q4 : Value), w2.heap.size ≤ N → Below w2.heap.size w2 (((((w4.setCell ⟨N, 0, none⟩ q0).setCell ⟨N, 1, none⟩ q1).setCell ⟨N, 2, none⟩ q2).setCell ⟨N, 3, none⟩ q3).setCell ⟨N, 4, none⟩ q4) := (fun N q0 q1 q2 q3 q4 hN => bput (bput (bput (bput (bput hB4 hN q0) hN q1) hN q2) hN q3) hN q4); have hle2 : w2.heap.size ≤ w2.heap.size := Nat.le_refl _; have hle3 : w2.heap.size ≤ w3.heap.size := hB3.size; have ho4' : w4.ownsRow w3.heap.size 3 1 (.slice f4 Z.length c4) Z.length (Z.map mI) := (own_low ho4 (by first | exact Nat.le_refl _ | (rw [sz_alloc]; omega))); have HO4 := hide (own_low ho4' hB3.size); have HO34 := hide (own_keep (unhide HO3) hb34 (Nat.le_refl _)); have hdj : ∀ k, (Value.slice f3 F.length c3).ownBlock = some k → (Value.slice f4 Z.length c4).ownBlock ≠ some k := (fun k h1 h2 => by have q1 := ((unhide HO3).lt k h1).2; have q2 := (ho4'.lt k h2).1; omega); have HDJ := hide hdj; clear hdj; (first | (have RB4 := hide ((unhide RB).on (hb34.block _ (unhide RB).lt)); obtain ⟨z0, z1, z2, z3, z4⟩ := (unhide RB4).facts; obtain ⟨y0, y1, y2, y3, y4⟩ := (unhide RB4).frz) | (have RC := hide ((Row5.new w3 (.slice none 0 0) false (.slice none 0 0) (.slice none 0 0) (.slice none 0 0)).on (w' := w4) (by exact hb4.block w3.heap.size (by rw [sz_alloc]; omega))); obtain ⟨z0, z1, z2, z3, z4⟩ := (unhide RC).facts; obtain ⟨y0, y1, y2, y3, y4⟩ := (unhide RC).frz) | skip); clear ho4 ho4' hb4 hb34))
      all_goals go_wp2_with fail
      all_goals go_meet
      · exact PosBox.lit hB4 (unhide HO34) (unhide HO4) (unhide HDJ)
      · exact PosBox.put hle3 hB4 (unhide RC) (unhide HO34) (unhide HO4) (unhide HDJ)
      · exact PosBox.put hle2 hB4 (unhide RB4) (unhide HO34) (unhide HO4) (unhide HDJ)
    case rest =>
      obtain ⟨B, fv, lv, rfl, hB, hrow, ho1, ho2, hdj, hbc⟩ := hcut
      obtain ⟨V, rfl⟩ : ∃ V, V = wc := ⟨_, rfl⟩
      obtain ⟨fa, fc, rfl⟩ := own_is ho1
      obtain ⟨la, lc, rfl⟩ := own_is ho2
      obtain ⟨⟨sv0, fv0, gs, hs, hM, hSl, hset, hfit, hbt, hzero⟩, -⟩ := unhide HAUT
      obtain ⟨n, hn⟩ : ∃ n, n = lvs M := ⟨_, rfl⟩
      rw [← hn] at hM hSl hset hzero hn5 HANS HBD HLKB
      have hMc := hM.keep (w' := V) (fun k _ hk => hbc.block k hk)
      obtain ⟨s0a, s0c, rfl⟩ := own_is hM.so
      obtain ⟨f0a, f0c, rfl⟩ := own_is hM.fo
      obtain ⟨u0, -, -, -⟩ := hMc.facts
      have hA0B : w1.heap.size < B := by omega
      have hBV := hrow.lt
      have HM := hide hM
      have HSET := hide hset
      have HFIT := hide hfit
      have HBT := hide hbt
      have HSL := hide hSl
      have HROW := hide hrow
      have HO1 := hide ho1
      have HO2 := hide ho2
      have HDJ := hide hdj
      have HBC := hide hbc
      clear hrow ho1 ho2 hdj hM hMc hset hfit hbt hzero hSl hn HAUT hS HL1 HL2
      go_wp2_with fail
      go_loopw [42] (fun iv wr => ∃ (i : Nat) (sv wv : Value) (ps qs : List (Cl Int)), i ≤ n ∧ iv = .int .i64 i ∧ Row5 wr B sv A.nl (.slice fa F.length fc) (.slice la Z.length lc) wv ∧ LI V.heap.size wr sv ps ∧ LI V.heap.size wr wv qs ∧ ps.map Cl.xs = (setsOf M).take i ∧ qs.map Cl.xs = (folL ln n).take i ∧ (∀ k, FootL sv ps k → ¬ FootL wv qs k) ∧ FrO (fun k => k = B ∨ V.heap.size ≤ k) V wr) (fun iv _ => n - (intOf iv).toNat)
      case atStart => exact ⟨0, _, _, [], [], Nat.zero_le _, rfl, unhide HROW, LL.nil, LL.nil, by simp, by simp, fun k h1 => by rcases h1 with h1 | ⟨p, hp, -⟩; (cases h1); (cases hp), FrO.refl _ _⟩
      case round =>
        obtain ⟨i, sv, wv, ps, qs, hi, rfl, hrow, hls, hlw, hps, hqs, hdj2, hfr⟩ := hrel
        obtain ⟨V2, rfl⟩ : ∃ V2, V2 = wr := ⟨_, rfl⟩
        have hz3 := hfr.size
        have hBV2 := hrow.lt
        have hold : ∀ q, q < w2.heap.size → V2.heap[q]? = w2.heap[q]? := fun q hq => (hfr.block q (by rintro (h | h) <;> omega)).trans ((unhide HBC).block q hq)
        obtain ⟨sa, sc, rfl⟩ := own_is hls.own
        obtain ⟨wa, wcc, rfl⟩ := own_is hlw.own
        have HRW := hide hrow
        have HLS := hide hls
        have HLW := hide hlw
        have HPS := hide hps
        have HQS := hide hqs
        have HDJ2 := hide hdj2
        have HFR := hide hfr
        have HOLD := hide hold
        by_cases hin : i < n
        · have hin' : (i : Int) < (n : Int) := by omega
          have hso := own_blk (w' := V2) (unhide HM).so (fun q hq => hold q (own_lt (unhide HM).so q hq))
          obtain ⟨gS, capS, mS, Fs9, e9, -, hrS, hmS, hFS, -⟩ := own_row hso (by omega)
          cases e9
          have key : ∀ j, j < 4 → V2.cell? ⟨gS, i * 4 + j, none⟩ = some (.int .u64 (gs i j : Nat)) := fun j hj => by
            have h1 := hFS (i * 4 + j) (by omega)
            rw [flatF_at _ _ _ (by omega), show (i * 4 + j) / 4 = i by omega, show (i * 4 + j) % 4 = j by omega] at h1
            rw [hrS.cell (by omega), ← Option.some.inj h1]; rfl
          have c0 := key 0 (by omega)
          have c1 := key 1 (by omega)
          have c2 := key 2 (by omega)
          have c3 := key 3 (by omega)
          rw [Nat.add_zero] at c0
          obtain ⟨hcan, hwo⟩ := unhide HSET i hin
          obtain ⟨X, hX⟩ : ∃ X, X = ss[i]?.getD [] := ⟨_, rfl⟩
          rw [← hX] at hcan hwo
          have HX := hide hX
          have HPR : Hid (∀ W', Calls Tryd.prog 23 #[.agg #[.int .u64 (gs i 0 : Nat), .int .u64 (gs i 1 : Nat), .int .u64 (gs i 2 : Nat), .int .u64 (gs i 3 : Nat)]] W' fun e w' => ∃ v', e = .returned v' ∧ w'.ownsRow W'.heap.size 3 1 v' X.length (X.map mI) ∧ Below W'.heap.size W' w') := fun W' => pairs_own (gs i) X W' hwo hcan
          have hXl := canon_len hcan
          clear hso hrS hmS hFS key hcan hwo hX hrow hls hlw hps hqs hdj2 hfr hold
          have hb3 : Below V2.heap.size V2 (V2.alloc (.cells #[.int .u64 (gs i 0 : Nat), .int .u64 (gs i 1 : Nat), .int .u64 (gs i 2 : Nat), .int .u64 (gs i 3 : Nat)] 68)) := below1 V2 _
          have d0 := (Row5.facts ((unhide HRW).on (hb3.block _ hBV2))).1
          have HB3 := hide hb3
          clear hb3
          go_wp2_with fail
          go_cut [7] (fun iv wx => iv = .int .i64 i ∧ PosMid V B A.nl (.slice fa F.length fc) (.slice la Z.length lc) (.slice wa qs.length wcc) ps qs X wx)
          case first =>
            obtain ⟨j0, hj, hy0, hy1, hy2⟩ := info_parts Tryd.zinIS
            have hpl : ps.length ≤ 503 := by
              have h1 := congrArg List.length (unhide HPS)
              rw [List.length_map, List.length_take] at h1
              omega
            have HPUSH : Hid (∀ (w3 : World) (x3 : Option Addr) (y3 : Nat), w3.ownsRow (V2.heap.size + 1) 3 1 (.slice x3 X.length y3) X.length (X.map mI) → Below V2.heap.size V2 w3 → ∀ (WA w7 : World) (gg cap : Nat), w7.ownsRow V.heap.size 27 1 (.slice (some ⟨gg, 0, none⟩) (ps.length + 1) cap) (ps.length + 1) (ps.map Cl.v ++ [.slice x3 X.length y3]) → WA.grownBy w7 (Value.slice sa ps.length sc).ownBlock → ((Value.slice sa ps.length sc).ownBlock = some gg ∨ gg = w3.heap.size + 1) → Pushd w3 WA (.cells #[.slice x3 X.length y3] 27) →
                (w7.cell? ⟨B, 0, none⟩ = some (.slice sa ps.length sc) ∧ w7.frozen? ⟨B, 0, none⟩ = false) ∧ PosMid V B A.nl (.slice fa F.length fc) (.slice la Z.length lc) (.slice wa qs.length wcc) ps qs X (w7.setCell ⟨B, 0, none⟩ (.slice (some ⟨gg, 0, none⟩) (ps.length + 1) cap))) := fun w3 x3 y3 o3 hb WA w7 gg cap r1 r2 r3 hP => by
              obtain ⟨pb, hpok, hplo⟩ := own_cl o3
              have hzb := hb.size
              have hl3 := (unhide HLS).keep hb (Nat.le_refl _)
              obtain ⟨q1, q2, q3⟩ := LI.pushed (p := ⟨.slice x3 X.length y3, X, pb⟩) hl3 (by omega) hpok (fun h0 => by have := hplo h0; show V.heap.size ≤ pb; omega) (fun q hq h0 h1 => by have h2 := hplo h1; have h3 := ((unhide HLS).ok q hq).lt h0; show q.b ≠ pb; omega) hP r1 r2 r3
              have hnB : ¬ ((Value.slice sa ps.length sc).ownBlock = some B ∨ w3.heap.size ≤ B) := by
                rintro (h | h)
                · have := ((unhide HLS).own.lt _ h).1; omega
                · omega
              have hr7 := ((unhide HRW).on (hb.block _ hBV2)).on (q2.block _ hnB)
              refine ⟨⟨hr7.facts.1, hr7.frz.1⟩, _, _, rfl, hr7.put0 _, LI.keepF q1 (fun k hk => Below.heap_setCell _ _ _ _ (by have := (LI.lt q1 hk).1; show k ≠ B; omega)), ?_, ?_, ?_⟩
              · refine LI.keepF (unhide HLW) (fun k hk => ?_)
                have hk2 := LI.lt (unhide HLW) hk
                refine ((Below.heap_setCell _ _ _ _ (by show k ≠ B; omega)).trans (q2.block k ?_)).trans (hb.block k hk2.2)
                rintro (h | h)
                · exact unhide HDJ2 k (Or.inl h) hk
                · omega
              · intro k h1 h2
                have hk2 := LI.lt (unhide HLW) h2
                rcases q3 k h1 with h | ⟨h0, hk3⟩ | h
                · exact unhide HDJ2 k h h2
                · have h5 := hplo h0; have h6 : k = pb := hk3; omega
                · omega
              · refine (unhide HFR).trans ((fro_of hb (fun k hk => Or.inr (by omega))).trans ((q2.mono (fun k hk => ?_)).trans ((obk_put _ _).fro (Or.inl rfl))))
                rcases hk with hk | hk
                · exact Or.inr ((unhide HLS).own.lt _ hk).1
                · exact Or.inr (by omega)
            have hB3d : Below V2.heap.size V2 (V2.alloc (.cells #[.int .u64 (gs i 0 : Nat), .int .u64 (gs i 1 : Nat), .int .u64 (gs i 2 : Nat), .int .u64 (gs i 3 : Nat)] 68)).drew := (unhide HB3).drew
            have hz3d : V2.heap.size + 1 ≤ (V2.alloc (.cells #[.int .u64 (gs i 0 : Nat), .int .u64 (gs i 1 : Nat), .int .u64 (gs i 2 : Nat), .int .u64 (gs i 3 : Nat)] 68)).drew.heap.size := by show V2.heap.size + 1 ≤ (V2.alloc _).heap.size; rw [sz_alloc]; exact Nat.le_refl _
            have HZ3D := hide hz3d
            have HB3D := hide hB3d
            clear hz3d hB3d
            go_region_law (
              (first
                | (refine step_call_o 23 #[.tmp 49] _ rfl #[.agg #[.int .u64 (gs i 0 : Nat), .int .u64 (gs i 1 : Nat), .int .u64 (gs i 2 : Nat), .int .u64 (gs i 3 : Nat)]] rfl (by first | (simp [Act.eval]; done) | (simp [Act.eval, Act.put]; done)) (run_pairs _) (unhide HPR _) ?_; rintro e w3 ⟨v3, rfl, ho3, hb4⟩; have hB3 : Below V2.heap.size V2 w3 := (unhide HB3D).trans (hb4.mono (unhide HB3D).size); obtain ⟨x3, y3, rfl⟩ := own_is ho3; have HO3 := hide (own_low ho3 (unhide HZ3D)); have hz4 := hB3.size; have hr3 := (unhide HRW).on (hB3.block _ hBV2); have f0 := hr3.facts.1; have f0a := (Row5.facts (hr3.on ((below1 w3 (.cells #[.slice x3 X.length y3] 27)).block _ hr3.lt))).1; have HLS3 := hide ((unhide HLS).keep hB3 (Nat.le_refl _)); clear ho3 hb4 hr3; refine ⟨_, rfl, ?_⟩)
                | (refine step_append_lies _ rfl (.tmp 48) (.tmp 51) 26 rfl V.heap.size 27 j0 (.slice none 0 0) 1 24 Tryd.underlying26 hj hy0 hy1 hy2 rfl (by decide) (.slice sa ps.length sc) ps.length (ps.map Cl.v) (by first | (simp [Act.eval]; done) | (simp [Act.eval, Act.put]; done)) (by refine Pushd.own (w := w3) (o := .cells #[.slice x3 X.length y3] 27) ?_ (unhide HLS3).own; exact ⟨rfl, rfl, rfl, rfl⟩) ⟨w3.heap.size, 0, none⟩ 1 1 [.slice x3 X.length y3] (by first | (simp [Act.eval]; done) | (simp [Act.eval, Act.put]; done)) rfl (by refine Pushd.news (w := w3) (cs := #[.slice x3 X.length y3]) (t := 27) ?_; exact ⟨rfl, rfl, rfl, rfl⟩) (by intro u hu; simp at hu; subst hu; rfl) (by decide) (by unfold maxLen; omega) (by omega) (by show V.heap.size ≤ (w3.alloc _).heap.size; rw [sz_alloc]; omega) (w3.heap.size + 1) (sz_alloc w3 _) (fun gg cap w7 r1 r2 r3 r4 => ?_); have h7 := hide (unhide HPUSH w3 x3 y3 (unhide HO3) hB3 _ w7 gg cap r1 r2 r3 (by exact ⟨rfl, rfl, rfl, rfl⟩)); obtain ⟨⟨c7, z7⟩, -⟩ := unhide h7; clear r1 r2 r3 r4)))
            all_goals go_wp2_with fail
            all_goals go_meet
            all_goals exact ⟨rfl, (unhide h7).2⟩
          case rest =>
            obtain ⟨rfl, sv1, p1, hp1, hrow1, hls1, hlw1, hdj1, hfr1⟩ := hcut
            obtain ⟨V4, rfl⟩ : ∃ V4, V4 = wc := ⟨_, rfl⟩
            obtain ⟨P1, hP1⟩ : ∃ P1, P1 = ps ++ [p1] := ⟨_, rfl⟩
            rw [← hP1] at hls1 hdj1
            obtain ⟨s1a, s1c, rfl⟩ := own_is hls1.own
            have hz5 := hfr1.size
            have hB4 := hrow1.lt
            have hold4 : ∀ q, q < w2.heap.size → V4.heap[q]? = w2.heap[q]? := fun q hq => (hfr1.block q (by rintro (h | h) <;> omega)).trans ((unhide HBC).block q hq)
            obtain ⟨gF, capF, mF, FF, e9, -, hgF, hrF, hmF, hFF, -⟩ := (unhide HM).folRow hin
            cases e9
            have hrF4 := hrF.of_block (hold4 gF hgF)
            have key8 : ∀ j, j < 8 → V4.cell? ⟨gF, i * 8 + j, none⟩ = some (.int .u64 (hs i j : Nat)) := fun j hj => by rw [hrF4.cell (by omega), hFF j hj]; rfl
            have e0 := key8 0 (by omega)
            have e1 := key8 1 (by omega)
            have e2 := key8 2 (by omega)
            have e3 := key8 3 (by omega)
            have e4 := key8 4 (by omega)
            have e5 := key8 5 (by omega)
            have e6 := key8 6 (by omega)
            have e7 := key8 7 (by omega)
            rw [Nat.add_zero] at e0
            have a1 : V4.cell? ⟨w1.heap.size, 1, none⟩ = some (.slice (some ⟨gF, 0, none⟩) n f0c) := cell_keep (unhide HM).facts.2.1 (hold4 _ hA0)
            have b4 := hrow1.facts.2.2.2.2
            obtain ⟨R, hR⟩ : ∃ R, R = folR ln n i := ⟨_, rfl⟩
            have hRl : R.length ≤ 503 := by
              rw [hR]
              unfold folR
              rw [List.length_map]
              have := List.length_filter_le (mkd ln i) (List.range n)
              rw [List.length_range] at this
              omega
            have HLL : Hid (∀ W', Below V4.heap.size V4 W' → Calls Tryd.prog 22 #[.agg #[.int .u64 (hs i 0 : Nat), .int .u64 (hs i 1 : Nat), .int .u64 (hs i 2 : Nat), .int .u64 (hs i 3 : Nat), .int .u64 (hs i 4 : Nat), .int .u64 (hs i 5 : Nat), .int .u64 (hs i 6 : Nat), .int .u64 (hs i 7 : Nat)]] W' fun e w' => ∃ v', e = .returned v' ∧ w'.ownsRow W'.heap.size 3 1 v' R.length (R.map mI) ∧ Below W'.heap.size W' w') := fun W' hW => by
              have hzz := (unhide HB02).size
              have htz4 : TZ V4 := (unhide HTZ).same ((hold4 _ (by omega)).trans ((unhide HB02).block _ hlt))
              refine (list_any (hs i) (unhide HFIT i) W' (htz4.below hW (by omega)) (by have := hW.size; omega)).mono ?_
              rintro e w' ⟨v', q1, q2, q3⟩
              have eR : (blN (hs i) 512).map Int.ofNat = R := by rw [fol_is (unhide HLKB) (unhide HBT i) (by omega), hR]; rfl
              exact ⟨v', q1, by rw [← eR, List.length_map]; exact q2, q3⟩
            have HR := hide hR
            have HP1 := hide hP1
            have HPX := hide hp1
            have HRW1 := hide hrow1
            have HLS1 := hide hls1
            have HLW1 := hide hlw1
            have HDJ1 := hide hdj1
            have HFR1 := hide hfr1
            have hB4d : Below V4.heap.size V4 V4.drew := (Below.refl V4.heap.size V4).drew
            have HB4D := hide hB4d
            clear key8 hrF4 hR hP1 hp1 hrow1 hls1 hlw1 hdj1 hfr1 hB4d hold4 hrF hFF
            obtain ⟨j0, hj, hy0, hy1, hy2⟩ := info_parts Tryd.zinIS
            have hql : qs.length ≤ 503 := by
              have h1 := congrArg List.length (unhide HQS)
              rw [List.length_map, List.length_take] at h1
              omega
            have HPUSH : Hid (∀ (w5 : World) (x5 : Option Addr) (y5 : Nat), w5.ownsRow V4.heap.size 3 1 (.slice x5 R.length y5) R.length (R.map mI) → Below V4.heap.size V4 w5 → ∀ (WA w7 : World) (gg cap : Nat), w7.ownsRow V.heap.size 27 1 (.slice (some ⟨gg, 0, none⟩) (qs.length + 1) cap) (qs.length + 1) (qs.map Cl.v ++ [.slice x5 R.length y5]) → WA.grownBy w7 (Value.slice wa qs.length wcc).ownBlock → ((Value.slice wa qs.length wcc).ownBlock = some gg ∨ gg = w5.heap.size + 1) → Pushd w5 WA (.cells #[.slice x5 R.length y5] 27) →
                (w7.cell? ⟨B, 4, none⟩ = some (.slice wa qs.length wcc) ∧ w7.frozen? ⟨B, 4, none⟩ = false) ∧ ∃ p2 : Cl Int, p2.xs = R ∧ Row5 (w7.setCell ⟨B, 4, none⟩ (.slice (some ⟨gg, 0, none⟩) (qs.length + 1) cap)) B (.slice s1a P1.length s1c) A.nl (.slice fa F.length fc) (.slice la Z.length lc) (.slice (some ⟨gg, 0, none⟩) (qs.length + 1) cap) ∧ LI V.heap.size (w7.setCell ⟨B, 4, none⟩ (.slice (some ⟨gg, 0, none⟩) (qs.length + 1) cap)) (.slice s1a P1.length s1c) P1 ∧ LI V.heap.size (w7.setCell ⟨B, 4, none⟩ (.slice (some ⟨gg, 0, none⟩) (qs.length + 1) cap)) (.slice (some ⟨gg, 0, none⟩) (qs.length + 1) cap) (qs ++ [p2]) ∧ (∀ k, FootL (.slice s1a P1.length s1c) P1 k → ¬ FootL (.slice (some ⟨gg, 0, none⟩) (qs.length + 1) cap) (qs ++ [p2]) k) ∧ FrO (fun k => k = B ∨ V.heap.size ≤ k) V (w7.setCell ⟨B, 4, none⟩ (.slice (some ⟨gg, 0, none⟩) (qs.length + 1) cap))) := fun w5 x5 y5 o5 hb WA w7 gg cap r1 r2 r3 hP => by
              obtain ⟨pb, hpok, hplo⟩ := own_cl o5
              have hzb := hb.size
              have hl5 := (unhide HLW1).keep hb (Nat.le_refl _)
              obtain ⟨q1, q2, q3⟩ := LI.pushed (p := ⟨.slice x5 R.length y5, R, pb⟩) hl5 (by omega) hpok (fun h0 => by have := hplo h0; show V.heap.size ≤ pb; omega) (fun q hq h0 h1 => by have h2 := hplo h1; have h3 := ((unhide HLW1).ok q hq).lt h0; show q.b ≠ pb; omega) hP r1 r2 r3
              have hnB : ¬ ((Value.slice wa qs.length wcc).ownBlock = some B ∨ w5.heap.size ≤ B) := by
                rintro (h | h)
                · have := ((unhide HLW1).own.lt _ h).1; omega
                · omega
              have hr7 := ((unhide HRW1).on (hb.block _ hB4)).on (q2.block _ hnB)
              refine ⟨⟨hr7.facts.2.2.2.2, hr7.frz.2.2.2.2⟩, _, rfl, hr7.put4 _, ?_, LI.keepF q1 (fun k hk => Below.heap_setCell _ _ _ _ (by have := (LI.lt q1 hk).1; show k ≠ B; omega)), ?_, ?_⟩
              · refine LI.keepF (unhide HLS1) (fun k hk => ?_)
                have hk2 := LI.lt (unhide HLS1) hk
                refine ((Below.heap_setCell _ _ _ _ (by show k ≠ B; omega)).trans (q2.block k ?_)).trans (hb.block k hk2.2)
                rintro (h | h)
                · exact unhide HDJ1 k hk (Or.inl h)
                · omega
              · intro k h2 h1
                have hk2 := LI.lt (unhide HLS1) h2
                rcases q3 k h1 with h | ⟨h0, hk3⟩ | h
                · exact unhide HDJ1 k h2 h
                · have h5 := hplo h0; have h6 : k = pb := hk3; omega
                · omega
              · refine (unhide HFR1).trans ((fro_of hb (fun k hk => Or.inr (by omega))).trans ((q2.mono (fun k hk => ?_)).trans ((obk_put _ _).fro (Or.inl rfl))))
                rcases hk with hk | hk
                · exact Or.inr ((unhide HLW1).own.lt _ hk).1
                · exact Or.inr (by omega)
            go_wp2_with fail
            go_region_law (
              (first
                | (refine step_call_o 22 #[.tmp 62] _ rfl #[.agg #[.int .u64 (hs i 0 : Nat), .int .u64 (hs i 1 : Nat), .int .u64 (hs i 2 : Nat), .int .u64 (hs i 3 : Nat), .int .u64 (hs i 4 : Nat), .int .u64 (hs i 5 : Nat), .int .u64 (hs i 6 : Nat), .int .u64 (hs i 7 : Nat)]] rfl (by first | (simp [Act.eval]; done) | (simp [Act.eval, Act.put]; done)) (run_list _) (unhide HLL _ (unhide HB4D)) ?_; rintro e w5 ⟨v5, rfl, ho5, hb6⟩; have hB5 : Below V4.heap.size V4 w5 := (unhide HB4D).trans (hb6.mono (unhide HB4D).size); obtain ⟨x5, y5, rfl⟩ := own_is ho5; have HO5 := hide (own_low ho5 (unhide HB4D).size); have hz6 := hB5.size; have hr5 := (unhide HRW1).on (hB5.block _ hB4); have f4 := hr5.facts.2.2.2.2; have f4a := (Row5.facts (hr5.on ((below1 w5 (.cells #[.slice x5 R.length y5] 27)).block _ hr5.lt))).2.2.2.2; have HLW5 := hide ((unhide HLW1).keep hB5 (Nat.le_refl _)); clear ho5 hb6 hr5; refine ⟨_, rfl, ?_⟩)
                | (refine step_append_lies _ rfl (.tmp 55) (.tmp 64) 26 rfl V.heap.size 27 j0 (.slice none 0 0) 1 24 Tryd.underlying26 hj hy0 hy1 hy2 rfl (by decide) (.slice wa qs.length wcc) qs.length (qs.map Cl.v) (by first | (simp [Act.eval]; done) | (simp [Act.eval, Act.put]; done)) (by refine Pushd.own (w := w5) (o := .cells #[.slice x5 R.length y5] 27) ?_ (unhide HLW5).own; exact ⟨rfl, rfl, rfl, rfl⟩) ⟨w5.heap.size, 0, none⟩ 1 1 [.slice x5 R.length y5] (by first | (simp [Act.eval]; done) | (simp [Act.eval, Act.put]; done)) rfl (by refine Pushd.news (w := w5) (cs := #[.slice x5 R.length y5]) (t := 27) ?_; exact ⟨rfl, rfl, rfl, rfl⟩) (by intro u hu; simp at hu; subst hu; rfl) (by decide) (by unfold maxLen; omega) (by omega) (by show V.heap.size ≤ (w5.alloc _).heap.size; rw [sz_alloc]; omega) (w5.heap.size + 1) (sz_alloc w5 _) (fun gg cap w7 r1 r2 r3 r4 => ?_); have h7 := hide (unhide HPUSH w5 x5 y5 (unhide HO5) hB5 _ w7 gg cap r1 r2 r3 (by exact ⟨rfl, rfl, rfl, rfl⟩)); obtain ⟨⟨c7, z7⟩, -⟩ := unhide h7; clear r1 r2 r3 r4)))
            all_goals
              go_wp2
              go_roundw
              case rel =>
                obtain ⟨-, p2, t1, t2, t3, t4, t5, t6⟩ := unhide h7
                refine ⟨i + 1, _, _, P1, qs ++ [p2], by omega, by go_num, t2, t3, t4, ?_, ?_, t5, t6⟩
                · rw [unhide HP1, List.map_append, unhide HPS, ← unhide HSS, List.take_add_one, List.getElem?_eq_getElem (by rw [unhide HSL]; exact hin)]
                  simp only [List.map_cons, List.map_nil, unhide HPX, unhide HX]
                  rw [List.getElem?_eq_getElem (by rw [unhide HSL]; exact hin)]
                  rfl
                · rw [List.map_append, unhide HQS, folL_next _ _ _ hin, ← unhide HR]
                  simp [t1]
              case measure => simp [intOf]; omega
        · obtain rfl : i = n := by omega
          have hps2 : ps.map Cl.xs = setsOf M := by rw [hps, List.take_of_length_le (by rw [← unhide HSS, unhide HSL]; exact Nat.le_refl _)]
          have hqs2 : qs.map Cl.xs = folL ln i := by rw [hqs, List.take_of_length_le (by simp [folL])]
          have hpl : ps.length = i := by
            have h1 := congrArg List.length hps2
            rw [List.length_map, ← unhide HSS, unhide HSL] at h1
            exact h1
          have hql : qs.length = i := by
            have h1 := congrArg List.length hqs2
            rw [List.length_map] at h1
            simpa [folL] using h1
          have hH : w.heap.size + 1 < w2.heap.size := (unhide HR2).lt
          have HRA := hide ((unhide HR2).on (hold _ hH))
          have HF2 := hide (own_blk (w' := V2) (unhide HO1) (fun q hq => hfr.block q (by have h1 := own_ne5 (unhide HO1) (unhide HROW); have h2 := ((unhide HO1).lt q hq).2; rintro (h | h); (exact h1 (by rw [← h]; exact hq)); omega)))
          have HZ2 := hide (own_blk (w' := V2) (unhide HO2) (fun q hq => hfr.block q (by have h1 := own_ne5 (unhide HO2) (unhide HROW); have h2 := ((unhide HO2).lt q hq).2; rintro (h | h); (exact h1 (by rw [← h]; exact hq)); omega)))
          have HPS2 := hide hps2
          have HQS2 := hide hqs2
          have HPL := hide hpl
          have HQL := hide hql
          have htS : tot (setsOf M) ≤ 1048576 := by
            have h1 : tot ss ≤ ss.length * 300 := tot_lim2 (fun x hx => by
              obtain ⟨j, hj, rfl⟩ := List.mem_iff_getElem.1 hx
              have h2 := (unhide HSET j (by rw [unhide HSL] at hj; exact hj)).1
              rw [List.getElem?_eq_getElem hj] at h2
              exact canon_len h2)
            rw [unhide HSL, unhide HSS] at h1
            omega
          have HTS := hide htS
          clear hps hqs hps2 hqs2 hls hlw hrow hfr hold hdj2 hpl hql htS
          go_wp2_with (first | (refine wpList_load_row rfl 29 (.tmp 6) rfl B (by first | (simp [Act.eval]; done) | (simp [Act.eval, Act.put]; done)) 29 _ _ _ (Row5.blk (unhide HRW)) Tryd.underlying29 rfl (by kernel_rfl) ?_) | (refine wpList_store_row rfl 29 (.tmp 2) (.tmp 68) rfl (w.heap.size + 1) #[.slice sa ps.length sc, .bool A.nl, .slice fa F.length fc, .slice la Z.length lc, .slice wa qs.length wcc] (by first | (simp [Act.eval]; done) | (simp [Act.eval, Act.put]; done)) (by first | (simp [Act.eval]; done) | (simp [Act.eval, Act.put]; done)) 29 _ (Row5.blk (unhide HRA)) (by kernel_rfl) rfl (all5 _ _ _ _ _ _ _ _ _ _ _ _ _) ?_))
          refine bodyPost_ret (au_ret (Row5.row (unhide HRA) _ _ _ _ _) rfl _ rfl) rfl ?_
          have hset : ∀ k, k ≠ w.heap.size + 1 → (V2.setRow (w.heap.size + 1) #[.slice sa ps.length sc, .bool A.nl, .slice fa F.length fc, .slice la Z.length lc, .slice wa qs.length wcc]).heap[k]? = V2.heap[k]? := fun k hk => setRow_other _ _ _ _ hk
          have hsz : (V2.setRow (w.heap.size + 1) #[.slice sa ps.length sc, .bool A.nl, .slice fa F.length fc, .slice la Z.length lc, .slice wa qs.length wcc]).heap.size = V2.heap.size := setRow_size _ _ _
          have hbf : Below w.heap.size w (V2.setRow (w.heap.size + 1) #[.slice sa ps.length sc, .bool A.nl, .slice fa F.length fc, .slice la Z.length lc, .slice wa qs.length wcc]) := ((unhide HB02).trans ((unhide HBC).mono (by omega))).trans (((unhide HFR).below (m := w.heap.size) (fun k hk => by rintro (h | h) <;> omega)).trans ((row_obk _ _ _).below (by omega)))
          generalize V2.setRow (w.heap.size + 1) #[.slice sa ps.length sc, .bool A.nl, .slice fa F.length fc, .slice la Z.length lc, .slice wa qs.length wcc] = WF at *
          have l1 : LI V.heap.size WF _ ps := LI.keepF (unhide HLS) (fun k hk => hset k (by have := (LI.lt (unhide HLS) hk).1; omega))
          have l2 : LI V.heap.size WF _ qs := LI.keepF (unhide HLW) (fun k hk => hset k (by have := (LI.lt (unhide HLW) hk).1; omega))
          have l3 := own_blk (w' := WF) (unhide HF2) (fun k hk => hset k (by have := ((unhide HF2).lt k hk).1; omega))
          have l4 := own_blk (w' := WF) (unhide HZ2) (fun k hk => hset k (by have := ((unhide HZ2).lt k hk).1; omega))
          have m1 := l1.footX (by rw [unhide HPL]; unfold maxLen; omega)
          have m2 := l2.footX (by rw [unhide HQL]; unfold maxLen; omega)
          rw [unhide HPS2] at m1
          rw [unhide HQS2] at m2
          refine ⟨_, _, _, _, setsOf M, A.nl, F, Z, folL ln i, FootL (.slice sa ps.length sc) ps, fun k => (Value.slice fa F.length fc).ownBlock = some k, fun k => (Value.slice la Z.length lc).ownBlock = some k, FootL (.slice wa qs.length wcc) qs, rfl, unhide HANS, ⟨m1, own_foot l3, own_foot l4, m2⟩, ?_, ?_, ?_, ?_, unhide HTS, by omega, by omega, tot_fol ln i hn5, hbf⟩
          · rintro k (h | h | h | h)
            · have := LI.lt l1 h; omega
            · have := l3.lt k h; omega
            · have := l4.lt k h; omega
            · have := LI.lt l2 h; omega
          · intro j h1
            have h2 := LI.lt (unhide HLS) h1
            refine ⟨fun h => ?_, fun h => ?_, unhide HDJ2 j h1⟩
            · have := ((unhide HO1).lt j h).2; omega
            · have := ((unhide HO2).lt j h).2; omega
          · intro j h1
            refine ⟨unhide HDJ j h1, fun h => ?_⟩
            have h2 := LI.lt (unhide HLW) h
            have := ((unhide HO1).lt j h1).2
            omega
          · intro j h1 h
            have h2 := LI.lt (unhide HLW) h
            have := ((unhide HO2).lt j h1).2
            omega
  · have HANS : Hid (AnsA l r xs [] false [] [] []) := Or.inr ⟨hbad, rfl, rfl, rfl, rfl, rfl⟩
    clear hbad
    go_wp2_with (refine wpList_store_row rfl 29 (.tmp 2) (.tmp 16) rfl (w.heap.size + 1) #[.slice none 0 0, .bool false, .slice none 0 0, .slice none 0 0, .slice none 0 0] (by simp [Act.eval]) (by simp [Act.eval]) 29 _ (Row5.blk (unhide HR1)) (by kernel_rfl) rfl (all5 _ _ _ _ _ _ _ _ _ _ _ _ _) ?_)
    refine bodyPost_ret (au_ret (Row5.row (unhide HR1) _ _ _ _ _) rfl _ rfl) rfl ?_
    exact ⟨_, _, _, _, [], false, [], [], [], fun _ => False, fun _ => False, fun _ => False, fun _ => False, rfl, unhide HANS, ⟨SsF.nil _ _ _ _ _ _ (Nat.zero_le _), SlF.none _, SlF.none _, SsF.nil _ _ _ _ _ _ (Nat.zero_le _)⟩, by simp, by simp, by simp, by simp, by simp [tot], by simp, by simp, by simp [tot], (unhide HB01).trans ((row_obk _ _ _).below (by omega))⟩

end Go.Proofs.YtijejbdpagbmpaaDoor
