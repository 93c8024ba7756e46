import Derived.Test.YtkajdhliejjohaaFc5
import Derived.Test.YtkajdhliejjohaaP5
namespace Go.Proofs.Ytkajdhliejjohaa
open Go.RowKit

/-- Lines of a code. -/
def dLs : Nat → List Int → List (List Int) × List Int
  | 0, xs => ([], xs)
  | n + 1, xs => ((dLn xs).1 :: (dLs n (dLn xs).2).1, (dLs n (dLn xs).2).2)
theorem dLs_ok : ∀ (n : Nat) (xs : List Int), Cod xs → (dLs n xs).1.length = n ∧ tot (dLs n xs).1 ≤ 20 * n ∧ (∀ l ∈ (dLs n xs).1, Cod l) ∧ Cod (dLs n xs).2
  | 0, xs, h => ⟨rfl, Nat.le_refl _, (fun x hx => absurd hx List.not_mem_nil), h⟩
  | n + 1, xs, h => by
    have h1 := dLn_ok xs h
    have h2 := dLs_ok n (dLn xs).2 h1.2.2
    unfold dLs
    refine ⟨by simp only [List.length_cons]; omega, ?_, fun l hl => ?_, h2.2.2.2⟩
    · show (dLn xs).1.length + tot (dLs n (dLn xs).2).1 ≤ 20 * (n + 1)
      omega
    · rcases List.mem_cons.1 hl with rfl | hl
      · exact h1.2.1
      · exact h2.2.2.1 l hl

set_option maxHeartbeats 4000000 in
set_option maxRecDepth 100000 in
theorem l4drawLines_any (N D : Nat) (xs : List Int) (most : Int) (w : World) (h : CdAt N D w xs) (hx : Cod xs) (hD : D < w.heap.size) (hm1 : 1 ≤ most) (hm2 : most ≤ 100) :
    Calls Try.prog 32 #[.pointer (some ⟨D, 0, none⟩), .int .i64 most] w fun e w' => (∃ v, e = .returned v ∧ ∃ ps, ps.map Cl.xs = (dLs (1 + xs.headD 0 % most).toNat xs.tail).1 ∧ LB w.heap.size w' v ps) ∧ CdAt N D w' (dLs (1 + xs.headD 0 % most).toNat xs.tail).2 ∧ Mv w.heap.size D w w' := by
  obtain ⟨j0, hj, hy0, hy1, hy2⟩ := info_parts Try.zinByteS
  have H := hide h
  have HX := hide hx
  have hh := hx.head
  obtain ⟨y, hy⟩ : ∃ y, xs.headD 0 = y := ⟨_, rfl⟩
  rw [hy] at hh ⊢
  have HY := hide hy
  clear hy hx h
  have hq1 := Int.emod_nonneg y (b := most) (by omega)
  have hq2 := Int.emod_lt_of_pos y (b := most) (by omega)
  obtain ⟨q, hq⟩ : ∃ q, y % most = q := ⟨_, rfl⟩
  rw [hq] at hq1 hq2 ⊢
  have hmz : ¬ most = 0 := by omega
  have ht : Int.tmod y most = q := by rw [Int.tmod_eq_emod_of_nonneg hh.1]; exact hq
  obtain ⟨n, hn⟩ : ∃ n : Nat, (1 + q).toNat = n := ⟨_, rfl⟩
  rw [hn]
  have HN : Hid (1 + q = (n : Int)) := by show 1 + q = (n : Int); omega
  have hn8 : n ≤ 100 := by omega
  clear hn
  obtain ⟨R, hR⟩ : ∃ R, dLs n xs.tail = R := ⟨_, rfl⟩
  rw [hR]
  have HR := hide hR
  clear hR
  go_enter Try.func32, Try.ntmps32
  go_wp2_with fail
  refine (next_any N D xs w (unhide H) (unhide HX)).mono ?_
  rintro e w1 ⟨he, hc1, ho1⟩
  rw [unhide HY] at he
  subst he
  have HC1 := hide hc1
  have HM1 := hide (ho1.mv w.heap.size)
  clear hc1 ho1
  go_wp2_with fail
  go_loopw [6, 7] (fun ov i wr => ∃ (m : Nat) (zs : List Int) (ps : List (Cl Int)), m ≤ n ∧ i = .int .i64 (m : Nat) ∧ Cod zs ∧ ps.length = m ∧ (ps.map Cl.xs ++ (dLs (n - m) zs).1 = R.1 ∧ (dLs (n - m) zs).2 = R.2) ∧ LB w.heap.size wr ov ps ∧ CdAt N D wr zs ∧ Mv w.heap.size D w wr) (fun _ i _ => n - (intOf i).toNat)
  case atStart =>
    exact ⟨0, xs.tail, [], Nat.zero_le _, rfl, (unhide HX).tail, rfl, ⟨by rw [← unhide HR]; rfl, by rw [← unhide HR]; rfl⟩, LL.nil, unhide HC1, unhide HM1⟩
  case round =>
    obtain ⟨m, zs, ps, hm, rfl, hzs, hos, heq, hll, hcd, hmv⟩ := hrel
    have Hll := hide hll
    have HCD := hide hcd
    have HMV := hide hmv
    have HZ := hide hzs
    have HOS := hide hos
    have hszr := hmv.size
    obtain ⟨oa, oc, rfl⟩ := own_is hll.own
    have hpl : ps.length ≤ 100 := by omega
    by_cases hlt : m < n
    · have hlt' : (m : Int) < 1 + q := by have := unhide HN; omega
      obtain ⟨q', hq'⟩ : ∃ q, n - m = q + 1 := ⟨n - m - 1, by omega⟩
      have hq'' : n - (m + 1) = q' := by omega
      rw [hq', dLs] at heq
      have HQ := hide hq''
      clear hll hcd hmv hq' hq''
      have HE2 := hide heq
      have hlen := (dLn_ok zs hzs).1
      have HZ2 := hide (dLn_ok zs hzs).2.2
      clear heq hzs hos
      go_wp2_with fail
      refine (l4drawLine_any N D zs wr (unhide HCD) (unhide HZ) (by omega)).mono ?_
      rintro e w4 ⟨⟨lv, rfl, ho4⟩, hc4, hm4⟩
      obtain ⟨x, hxe⟩ : ∃ x, (dLn zs).1 = x := ⟨_, rfl⟩
      rw [hxe] at ho4 HE2 hlen
      clear hxe
      have hz4 : wr.heap.size ≤ w4.heap.size := hm4.size
      have HC4 := hide hc4
      have Hst := hide (LB.pushMv (unhide Hll) hszr hD hm4 (unhide HMV) ho4)
      have Hk := hide ((unhide Hll).keepMv hm4 (Nat.le_refl _) hD)
      obtain ⟨la, lc, rfl⟩ := own_is ho4
      clear hc4 ho4 hm4
      go_wp2_with (at_builtin; refine wpList_append_own _ rfl _ _ 24 rfl w.heap.size 22 j0 (.slice none 0 0) 1 24 Try.underlying24 hj hy0 hy1 hy2 rfl (by decide) _ _ _ rfl (World.ownsRow.alloc (w := w4) (unhide Hk).own _) ⟨w4.heap.size, 0, none⟩ 1 1 [.slice la x.length lc] rfl rfl ?_ ?_ ?_ ?_ ?_ ?_)
      · exact cell_1 (by simp)
      · intro u hu; simp at hu; subst hu; rfl
      · unfold maxLen; omega
      · omega
      · rw [sz_alloc]; omega
      intro v3 w3 h5 hg5 _
      have h3 := hide (unhide Hst w3 v3 h5 hg5)
      obtain ⟨g3, cap3, rfl⟩ := ownsRow_succ h5
      clear h5 hg5
      go_wp2
      obtain ⟨p, r1, r2, r3, r4⟩ := unhide h3
      refine ⟨⟨m + 1, (dLn zs).2, ps ++ [p], by omega, by go_num, unhide HZ2, by simp [unhide HOS], ?_, r2, (unhide HC4).keep r4 hD, r3⟩, by simp [intOf]; omega⟩
      rw [unhide HQ, List.map_append, List.append_assoc, List.map_cons, List.map_nil, List.singleton_append, r1]
      exact unhide HE2
    · obtain rfl : m = n := by omega
      have hlt' : ¬ (m : Int) < 1 + q := by have := unhide HN; omega
      rw [Nat.sub_self, dLs, List.append_nil] at heq
      have HE2 := hide heq
      clear heq hll hcd hmv hzs hos
      go_wp2
      go_ret
      refine ⟨⟨_, rfl, ps, (unhide HE2).1, unhide Hll⟩, ?_, unhide HMV⟩
      rw [← (unhide HE2).2]; exact unhide HCD

end Go.Proofs.Ytkajdhliejjohaa
