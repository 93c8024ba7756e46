import Derived.Test.YtfgngdfhejeolaaO2
import Derived.Deep.RegionHeld3
namespace Go.Proofs.Ytfgngdfhejeolaa
open Go.RowKit

/-- The number of the three bytes from k on. -/
def tri3 (bs : List Int) (k : Nat) : Int := bs[k]?.getD 0 * 65536 + bs[k + 1]?.getD 0 * 256 + bs[k + 2]?.getD 0
def tris (bs : List Int) (n : Nat) : List Int := (List.range n).map (tri3 bs)
theorem tris_len (bs : List Int) (n : Nat) : (tris bs n).length = n := by simp [tris]
theorem tris_succ (bs : List Int) (n : Nat) : tris bs (n + 1) = tris bs n ++ [tri3 bs n] := by simp [tris, List.range_succ]

theorem run_l3num (x y z : Value) (w : World) : Sem.run Try.prog (callFunc 24 #[x, y, z]) w = .ok (.enter 24 #[x, y, z]) w := by kernel_rfl
theorem l3num_any (x y z : Int) (w : World) (hx : 0 ≤ x ∧ x ≤ 255) (hy : 0 ≤ y ∧ y ≤ 255) (hz : 0 ≤ z ∧ z ≤ 255) :
    Calls Try.prog 24 #[.int .i64 x, .int .i64 y, .int .i64 z] w fun e w' => e = .returned (.int .i64 (x * 65536 + y * 256 + z)) ∧ w' = w := by
  have y1 : wrap64 (x * 65536) = x * 65536 := by unfold wrap64; omega
  have y2 : wrap64 (y * 256) = y * 256 := by unfold wrap64; omega
  have y3 : wrap64 (x * 65536 + y * 256) = x * 65536 + y * 256 := by unfold wrap64; omega
  have y4 : wrap64 (x * 65536 + y * 256 + z) = x * 65536 + y * 256 + z := by unfold wrap64; omega
  go_enter Try.func24, Try.ntmps24
  go_wp2
  go_ret
  exact ⟨rfl, rfl⟩

set_option maxHeartbeats 2000000 in
set_option maxRecDepth 100000 in
theorem specTri_own (v : Value) (bs : List Int) (w : World) (hv : SlAt mB 0 0 w.heap.size w v bs) (hbb : ∀ i : Nat, 0 ≤ bs[i]?.getD 0 ∧ bs[i]?.getD 0 ≤ 255) (hl : bs.length ≤ 1048576) :
    Calls Try.prog 6 #[v] w fun e w' => OrdOwn e w w' (tris bs (bs.length - 2)) ∧ Below w.heap.size w w' := by
  obtain ⟨i0, hi, hz0, hz1, hz2⟩ := info_parts Try.zinInt
  obtain ⟨a, cap, rfl, hml, hc⟩ := hv
  have Hbb := hide hbb
  clear hbb
  go_enter Try.func6, Try.ntmps6
  go_wp2_with fail
  go_loopw [3, 4] (fun ov iv wr => ∃ n : Nat, n ≤ bs.length - 2 ∧ iv = .int .i64 n ∧ wr.ownsRow w.heap.size 3 1 ov n ((tris bs n).map mI) ∧ Below w.heap.size w wr) (fun _ iv _ => bs.length - (intOf iv).toNat)
  case atStart => exact ⟨0, Nat.zero_le _, rfl, World.ownsRow_nil _ _ _ _, Below.refl _ _⟩
  case round =>
    obtain ⟨n, hn, rfl, hown, hb⟩ := hrel
    have hszr := hb.size
    have Hown := hide hown
    obtain ⟨oa, oc, rfl⟩ := own_is hown
    clear hown
    by_cases hlt : n + 2 < bs.length
    · have hlt' : (n : Int) + 2 < (bs.length : Int) := by omega
      obtain ⟨b, off, rfl, -, hbn, hcell⟩ := hc (by omega)
      have hx0 : wr.cell? ⟨b, off + n, none⟩ = some (.int .u8 (bs[n]?.getD 0)) := by rw [hb.cell (p := ⟨b, off + n, none⟩) hbn]; exact hcell n (by omega)
      have hx1 : wr.cell? ⟨b, off + (n + 1), none⟩ = some (.int .u8 (bs[n + 1]?.getD 0)) := by rw [hb.cell (p := ⟨b, off + (n + 1), none⟩) hbn]; exact hcell (n + 1) (by omega)
      have hx2 : wr.cell? ⟨b, off + ((n : Int) + 2).toNat, none⟩ = some (.int .u8 (bs[n + 2]?.getD 0)) := by rw [hb.cell (p := ⟨b, off + ((n : Int) + 2).toNat, none⟩) hbn, show ((n : Int) + 2).toNat = n + 2 by omega]; exact hcell (n + 2) (by omega)
      have q0 := unhide Hbb n
      have q1 := unhide Hbb (n + 1)
      have q2 := unhide Hbb (n + 2)
      have HT : Hid (tri3 bs n = bs[n]?.getD 0 * 65536 + bs[n + 1]?.getD 0 * 256 + bs[n + 2]?.getD 0) := rfl
      have hS : Hid (∀ W' : World, Below w.heap.size w W' → W'.cell? ⟨b, off + n, none⟩ = some (.int .u8 (bs[n]?.getD 0)) ∧ W'.cell? ⟨b, off + (n + 1), none⟩ = some (.int .u8 (bs[n + 1]?.getD 0)) ∧ W'.cell? ⟨b, off + ((n : Int) + 2).toNat, none⟩ = some (.int .u8 (bs[n + 2]?.getD 0))) := fun W' hW => ⟨by rw [hW.cell (p := ⟨b, off + n, none⟩) hbn]; exact hcell n (by omega), by rw [hW.cell (p := ⟨b, off + (n + 1), none⟩) hbn]; exact hcell (n + 1) (by omega), by rw [hW.cell (p := ⟨b, off + ((n : Int) + 2).toNat, none⟩) hbn, show ((n : Int) + 2).toNat = n + 2 by omega]; exact hcell (n + 2) (by omega)⟩
      clear hcell hc
      generalize bs[n]?.getD 0 = x0 at *
      generalize bs[n + 1]?.getD 0 = x1 at *
      generalize bs[n + 2]?.getD 0 = x2 at *
      have y3 : wrap64 x0 = x0 := w64i (by omega) (by omega)
      have y4 : wrap64 x1 = x1 := w64i (by omega) (by omega)
      have y5 : wrap64 x2 = x2 := w64i (by omega) (by omega)
      have k1 : IntKind.i64.wrap ((n : Int) + 2) = (n : Int) + 2 := k64i (by omega) (by omega)
      have k2 : IntKind.i64.wrap ((n : Int) + 1) = (n : Int) + 1 := k64i (by omega) (by omega)
      have k3 : IntKind.i64.wrap x0 = x0 := k64i (by omega) (by omega)
      have k4 : IntKind.i64.wrap x1 = x1 := k64i (by omega) (by omega)
      have k5 : IntKind.i64.wrap x2 = x2 := k64i (by omega) (by omega)
      have Hq0 := hide q0
      have Hq1 := hide q1
      have Hq2 := hide q2
      have hlt1 : (n : Int) + 1 < (bs.length : Int) := by omega
      have hlt0 : (n : Int) < (bs.length : Int) := by omega
      have hp1 : (0 : Int) ≤ (n : Int) + 1 := by omega
      have hp2 : (0 : Int) ≤ (n : Int) + 2 := by omega
      have hst : Hid (∀ (W w' : World) (v' : Value) (o : Obj), Pushd wr W o → w'.ownsRow w.heap.size 3 1 v' (n + 1) ((tris bs n).map mI ++ [.int .i64 (x0 * 65536 + x1 * 256 + x2)]) → W.grownBy w' (Value.slice oa n oc).ownBlock → w'.ownsRow w.heap.size 3 1 v' (n + 1) ((tris bs (n + 1)).map mI) ∧ Below w.heap.size w w') := fun W w' v' o hP q1 q2 => by
        have e := tris_len bs n
        obtain ⟨r1, r2⟩ := grow_int (os := tris bs n) (u := tri3 bs n) (v' := v') (by rw [e]; exact unhide Hown) hszr hP (by rw [e, unhide HT]; exact q1) q2
        rw [← tris_succ, tris_len] at r1
        exact ⟨r1, hb.trans r2⟩
      go_wp2_with fail
      go_region_held3 (fun W' => W'.cell? ⟨b, off + n, none⟩ = some (.int .u8 x0) ∧ W'.cell? ⟨b, off + (n + 1), none⟩ = some (.int .u8 x1) ∧ W'.cell? ⟨b, off + ((n : Int) + 2).toNat, none⟩ = some (.int .u8 x2))
        (first | go_keep | exact unhide hS _ (unhide hs).2)
        (first
          | (refine step_call_o 24 #[.tmp 17, .tmp 23, .tmp 29] _ rfl #[.int .i64 x0, .int .i64 x1, .int .i64 x2] rfl (by simp [Act.eval]) (run_l3num _ _ _) (l3num_any x0 x1 x2 _ (unhide Hq0) (unhide Hq1) (unhide Hq2)) ?_; rintro e w2 ⟨rfl, rfl⟩; refine ⟨_, rfl, ?_⟩)
          | (refine step_append_lies _ rfl (.tmp 12) (.tmp 31) 23 rfl w.heap.size 3 i0 (.int .i64 0) 1 8 Try.underlying23 hi hz0 hz1 hz2 rfl (by decide) (.slice oa n oc) n ((tris bs n).map mI) (by simp [Act.eval]) (by refine Pushd.own (w := wr) (o := .cells #[.int .i64 (x0 * 65536 + x1 * 256 + x2)] 3) ?_ (unhide Hown); exact ⟨rfl, rfl, rfl, rfl⟩) ⟨wr.heap.size, 0, none⟩ 1 1 [.int .i64 (x0 * 65536 + x1 * 256 + x2)] (by simp [Act.eval]) rfl (by refine Pushd.news (w := wr) (cs := #[.int .i64 (x0 * 65536 + x1 * 256 + x2)]) (t := 3) ?_; exact ⟨rfl, rfl, rfl, rfl⟩) (by intro u hu; simp at hu; subst hu; rfl) (by decide) (by unfold maxLen; omega) (by omega) (by show w.heap.size ≤ (wr.alloc _).heap.size; rw [sz_alloc]; omega) (wr.heap.size + 1) (sz_alloc wr _) (fun g cap' w' q1 q2 q3 q4 => ?_); have hs := hide (unhide hst _ w' (.slice (some ⟨g, 0, none⟩) (n + 1) cap') (.cells #[.int .i64 (x0 * 65536 + x1 * 256 + x2)] 3) (by exact ⟨rfl, rfl, rfl, rfl⟩) q1 q2); clear q1 q2 q3 q4))
      all_goals
        go_wp2
        exact ⟨⟨n + 1, by omega, by go_num, (unhide hs).1, (unhide hs).2⟩, by simp [intOf]; omega⟩
    · have hlt' : ¬ (n : Int) + 2 < (bs.length : Int) := by omega
      have hz : Hid (n = bs.length - 2) := by show n = bs.length - 2; omega
      have hsl := hide ((own_slw (lo := w.heap.size) (unhide Hown) (Nat.le_refl _) (by unfold maxLen; omega)).at.mono (Nat.zero_le _) (Nat.le_refl _))
      have hcp := hide (own_cap (unhide Hown))
      clear hc
      go_wp2_with fail
      refine (l3order_own (tris bs n).length _ _ _ (Nat.le_refl _) (by rw [tris_len]; omega) (unhide hsl) (unhide hcp)).mono ?_
      rintro e w1 ⟨⟨v1, ys, rfl, h1, h2, h3⟩, hb1⟩
      have hone : v1.oneCell' = true := by obtain ⟨_, _, rfl⟩ := own_is h3; rfl
      go_wp2_with fail
      go_ret
      refine ⟨⟨_, ys, rfl, by rw [← unhide hz]; exact h1, by rw [← unhide hz]; exact h2, own_low h3 hszr⟩, hb.trans (hb1.mono hszr)⟩

theorem specTri_any (v : Value) (bs : List Int) (w : World) (hv : SlAt mB 0 0 w.heap.size w v bs) (hbb : ∀ i : Nat, 0 ≤ bs[i]?.getD 0 ∧ bs[i]?.getD 0 ≤ 255) (hl : bs.length ≤ 1048576) :
    Calls Try.prog 6 #[v] w fun e w' => OrdRet e w w' (tris bs (bs.length - 2)) ∧ Below w.heap.size w w' :=
  (specTri_own v bs w hv hbb hl).mono (fun _ _ ⟨⟨v1, ys, h1, h2, h3, h4⟩, hb⟩ => ⟨⟨v1, ys, h1, h2, h3, own_slw h4 (Nat.le_refl _) (by rw [tris_len] at h3; unfold maxLen; omega)⟩, hb⟩)

end Go.Proofs.Ytfgngdfhejeolaa
