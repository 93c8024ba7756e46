import Derived.Test.YtfdkdjngeomcdaaDoorWk4
import Derived.Test.YtfdkdjngeomcdaaDoorPk6
namespace Go.Proofs.YtfdkdjngeomcdaaDoor
open Go.RowKit

/-- The pending set behind k bytes, by classes. -/
def stP (fs hs : Nat → Nat → Nat) (b : Bool) (f l : Nat → Nat) (C : Nat → Nat) : Nat → (Nat → Nat) × Bool
  | 0 => (f, b)
  | k + 1 => (orL fs (blN (andW (stP fs hs b f l C k).1 (hs (C k))) 512), !(eq8 (andW (andW (stP fs hs b f l C k).1 (hs (C k))) l)))
set_option maxRecDepth 100000 in
theorem fit_stP {fs hs : Nat → Nat → Nat} {b : Bool} {f l : Nat → Nat} {C : Nat → Nat} (hf : Fit f) (hfs : ∀ i, Fit (fs i)) (k : Nat) : Fit (stP fs hs b f l C k).1 := by
  cases k with
  | zero => exact hf
  | succ k => unfold stP; exact fit_orL hfs _
/-- The walker, ready to be read. -/
structure WkR (w : World) (B A N m gc : Nat) (hv fv : Value) (K : Nat → Nat) (hs fs : Nat → Nat → Nat) (b : Bool) (f l : Nat → Nat) : Prop where
  box : WkBox w B A (.slice (some ⟨gc, 0, none⟩) 256 256) hv
  aut : AutR w A N fv fs b f l
  cls : w.rowIs gc 3 256 (fun x => .int .i64 (K x : Nat))
  hol : RsP w hv m hs
  lt : ∀ x, x < 256 → K x < m
  fh : ∀ j, j < m → Fit (hs j)
  ff : Fit f
  fl : Fit l
  fs : ∀ i, Fit (fs i)
  inn : ∀ j, j < m → ∀ i, Bt (hs j) i = true → i < N
theorem WkR.keep {w w' : World} {B A N m gc n : Nat} {hv fv : Value} {K : Nat → Nat} {hs fs : Nat → Nat → Nat} {b : Bool} {f l : Nat → Nat} (h : WkR w B A N m gc hv fv K hs fs b f l) (hb : Below n w w') (hn : w.heap.size ≤ n) : WkR w' B A N m gc hv fv K hs fs b f l :=
  ⟨h.box.keep (hb.block B (Nat.lt_of_lt_of_le h.box.lt hn)), h.aut.keep hb hn, h.cls.of_block (hb.block gc (Nat.lt_of_lt_of_le h.cls.lt hn)), own_keep h.hol hb hn, h.lt, h.fh, h.ff, h.fl, h.fs, h.inn⟩

set_option maxHeartbeats 8000000 in
set_option maxRecDepth 100000 in
theorem accepts_any (B A N m gc : Nat) (hv fv lv : Value) (K : Nat → Nat) (hs fs : Nat → Nat → Nat) (b : Bool) (f l : Nat → Nat) (bs : List Int) (w : World) (hW : WkR w B A N m gc hv fv K hs fs b f l) (hlv : SlAt mB 0 0 w.heap.size w lv bs) (hbs : BytesOk bs) (htz : TZ w) (htl : Tryd.laysTZ_ren.g 1 < w.heap.size) :
    Calls Tryd.prog 18 #[.pointer (some ⟨B, 0, none⟩), lv] w fun e w' => e = .returned (.bool (stP fs hs b f l (fun k => K (bs[k]?.getD 0).toNat) bs.length).2) ∧ Below w.heap.size w w' := by
  obtain ⟨la, lc, rfl, -, -⟩ := id hlv
  obtain ⟨C, hC⟩ : ∃ C : Nat → Nat, C = fun k => K (bs[k]?.getD 0).toNat := ⟨_, rfl⟩
  rw [← hC]
  have HC := hide hC
  have HW := hide hW
  have Hlv := hide hlv
  have Hbs := hide hbs.2
  have hn := hbs.1
  have HTZ : Hid (∀ W, Below w.heap.size w W → TZ W) := fun W hW => htz.below hW htl
  have HS := hide (start_any B A N _ hv fv fs b f l w hW.box hW.aut)
  unfold pd at HS
  obtain ⟨x9, hx9⟩ : ∃ x9, x9 = (stP fs hs b f l C bs.length).2 := ⟨_, rfl⟩
  rw [← hx9]
  have HX9 := hide hx9
  clear hC hW hlv hbs htz hx9
  go_enter Tryd.func18, Tryd.ntmps18
  go_wp2_with fail
  refine (unhide HS).mono ?_
  rintro e w1 ⟨rfl, hb1⟩
  have hz1 := hb1.size
  have h0 : (w1.alloc (.cells (c9 f b) 90)).heap[w1.heap.size]? = some (.cells (c9 f b) 90 (0, 0)) := (pushd_alloc w1 _).new
  have hB1 : Below w.heap.size w (w1.alloc (.cells (c9 f b) 90)) := hb1.alloc hz1 _
  have H0 := hide h0
  have HB1 := hide hB1
  obtain ⟨D, hD⟩ : ∃ D, D = w1.heap.size := ⟨_, rfl⟩
  have hDw : w.heap.size ≤ D := by omega
  have HD := hide hD
  clear h0 hB1 hb1 HS hD
  go_wp2_with fail
  rw [← unhide HD] at H0 ⊢
  go_loopw [12] (fun iv wr => ∃ i : Nat, i ≤ bs.length ∧ iv = .int .i64 i ∧ wr.heap[D]? = some (.cells (c9 (stP fs hs b f l C i).1 (stP fs hs b f l C i).2) 90 (0, 0)) ∧ Below w.heap.size w wr) (fun iv _ => bs.length - (intOf iv).toNat)
  case atStart => exact ⟨0, by omega, rfl, unhide H0, unhide HB1⟩
  case round =>
    clear H0 HB1 HD hz1
    obtain ⟨i, hi, rfl, hbx, hb⟩ := hrel
    by_cases hlt : i < bs.length
    · have hlt' : (i : Int) < (bs.length : Int) := by omega
      obtain ⟨_, _, e, -, hc⟩ := (unhide Hlv).below hb (Nat.le_refl _)
      cases e
      obtain ⟨lb, lo, rfl, -, -, hcell⟩ := hc (by omega)
      have d3 := hcell i hlt
      obtain ⟨x, hx⟩ : ∃ x, x = bs[i]?.getD 0 := ⟨_, rfl⟩
      have hx2 : 0 ≤ x ∧ x ≤ 255 := unhide Hbs x (by rw [hx, List.getElem?_eq_getElem hlt]; exact List.getElem_mem hlt)
      rw [← hx] at d3
      unfold mB at d3
      obtain ⟨t, rfl⟩ := Int.eq_ofNat_of_zero_le hx2.1
      have ht : t < 256 := by omega
      have ht' : (t : Int) < 256 := by omega
      have hWr := (unhide HW).keep hb (Nat.le_refl _)
      obtain ⟨-, k1, -⟩ := hWr.box.cells
      have k3 := hWr.cls.cell ht
      have hCi : C i = K t := by
        rw [unhide HC]
        show K (bs[i]?.getD 0).toNat = K t
        rw [← hx]
        rfl
      obtain ⟨P, hP⟩ : ∃ P, P = (stP fs hs b f l C i).1 := ⟨_, rfl⟩
      obtain ⟨y, hy⟩ : ∃ y, y = (stP fs hs b f l C i).2 := ⟨_, rfl⟩
      rw [← hP, ← hy] at hbx
      have hPf : Fit P := by rw [hP]; exact fit_stP hWr.ff hWr.fs i
      have HST := hide (step_any B A N (K t) m _ hv fv hs fs b f l P y wr.drew (hWr.box.keep rfl) (hWr.aut.keep (Below.refl wr.heap.size wr).drew (Nat.le_refl _)) (own_keep hWr.hol (Below.refl wr.heap.size wr).drew (Nat.le_refl _)) (hWr.lt t ht) hPf (hWr.fh _ (hWr.lt t ht)) hWr.fl hWr.fs (hWr.inn _ (hWr.lt t ht)) ((unhide HTZ _ hb).same rfl) (by have := hb.size; show _ < wr.heap.size; omega))
      obtain ⟨P', hP'⟩ : ∃ P', P' = orL fs (blN (andW P (hs (K t))) 512) := ⟨_, rfl⟩
      obtain ⟨y', hy'⟩ : ∃ y', y' = !(eq8 (andW (andW P (hs (K t))) l)) := ⟨_, rfl⟩
      rw [← hP', ← hy'] at HST
      unfold pd at HST
      have HNX : Hid ((stP fs hs b f l C (i + 1)).1 = P' ∧ (stP fs hs b f l C (i + 1)).2 = y') := ⟨by show orL fs (blN (andW (stP fs hs b f l C i).1 (hs (C i))) 512) = P'; rw [← hP, hCi, hP'], by show (!(eq8 (andW (andW (stP fs hs b f l C i).1 (hs (C i))) l))) = y'; rw [← hP, hCi, hy']⟩
      have hrow := blk_row9 hbx
      have p0 := hrow.cell (i := 0) (by omega)
      have p1 := hrow.cell (i := 1) (by omega)
      have p2 := hrow.cell (i := 2) (by omega)
      have p3 := hrow.cell (i := 3) (by omega)
      have p4 := hrow.cell (i := 4) (by omega)
      have p5 := hrow.cell (i := 5) (by omega)
      have p6 := hrow.cell (i := 6) (by omega)
      have p7 := hrow.cell (i := 7) (by omega)
      have p8 := hrow.cell (i := 8) (by omega)
      simp only [pdF, wd, Nat.reduceLT, if_true, if_false, Nat.lt_irrefl] at p0 p1 p2 p3 p4 p5 p6 p7 p8
      have HBX := hide hbx
      have HB := hide hb
      have hDl : D < wr.heap.size := (Array.getElem?_eq_some_iff.1 hbx).1
      clear hc hcell hx hWr hCi hP hy hP' hy' hbx hb hrow
      go_wp2_with fail
      refine wp_region_quiet_tail 9 (by kernel_rfl) (by kernel_rfl) ?_
      simp only [List.take_succ_cons, List.take_zero, List.drop_succ_cons, List.drop_zero]
      repeat (first | go_big_quiet_skip | (go_big_quiet_want; go_big_quiet_op; go_big_quiet_on))
      refine wpQuiet_nil ?_
      go_wp2_with fail
      refine (unhide HST).mono ?_
      rintro e w2 ⟨rfl, hb2⟩
      have hblk2 : w2.heap[D]? = some (.cells (c9 P y) 90 (0, 0)) := (hb2.block D hDl).trans (unhide HBX)
      have HBK := hide hblk2
      have HB2 : Hid (Below w.heap.size w w2) := (unhide HB).trans ⟨hb2.os, hb2.tape, hb2.output, hb2.size, fun k hk => hb2.block k (by have := (unhide HB).size; show k < wr.heap.size; omega)⟩
      clear hblk2 hb2 HST p0 p1 p2 p3 p4 p5 p6 p7 p8
      go_wp2_with (first | (refine wpList_store_row rfl 90 (.tmp 5) (.tmp 25) rfl D #[.int .u64 (P' 0 : Nat), .int .u64 (P' 1 : Nat), .int .u64 (P' 2 : Nat), .int .u64 (P' 3 : Nat), .int .u64 (P' 4 : Nat), .int .u64 (P' 5 : Nat), .int .u64 (P' 6 : Nat), .int .u64 (P' 7 : Nat), .bool y'] (by first | rfl | (simp [Act.eval]; done)) (by first | rfl | (simp [Act.eval]; done)) 90 _ (unhide HBK) (by kernel_rfl) rfl (all9 _ _) ?_) | fail)
      go_roundw
      case rel =>
        refine ⟨i + 1, by omega, by go_num, ?_, (unhide HB2).trans (Obk.bel2 ⟨rfl, rfl, rfl, by simp [World.setRow], fun k hk => setRow_other _ _ k _ hk⟩ hDw)⟩
        rw [(unhide HNX).1, (unhide HNX).2]
        exact setRow_heap _ _ _ _ _ _ (unhide HBK)
      case measure => simp [intOf]; omega
    · obtain rfl : i = bs.length := by omega
      rw [← unhide HX9] at hbx
      have p8 := (blk_row9 hbx).cell (i := 8) (by omega)
      simp only [pdF, Nat.lt_irrefl, if_false] at p8
      have HB := hide hb
      clear hbx hb
      go_wp2
      go_ret
      exact ⟨rfl, unhide HB⟩

end Go.Proofs.YtfdkdjngeomcdaaDoor
