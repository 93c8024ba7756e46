import Derived.Test.YtjoaapoppcibdaaP13
import Derived.Test.YtjoaapoppcibdaaJ19
import Derived.Test.YtjoaapoppcibdaaJ21
namespace Go.Proofs.Ytjoaapoppcibdaa
open Go.RowKit

set_option maxHeartbeats 1000000 in
set_option maxRecDepth 100000 in
theorem SkV.repG {u : Value} {mn mx : Int} {L S : List (List Int)} (iu : ∃ T x, u = .iface T x) (hS : CutR L S) (h : ∀ B w, SkB B w (.slice none 0 0) [] [] false → Calls Try.prog 50 #[.pointer (some ⟨B, 0, none⟩), .agg #[u, .int .i64 mn, .int .i64 mx]] w fun e w' => RepQ B w w' L e) : SkV (rV u mn mx) S := by
  refine ⟨⟨_, _, rfl⟩, fun w => ?_⟩
  obtain ⟨T, x, rfl⟩ := iu
  unfold rV
  have HH := hide h
  have HS := hide hS
  have t1 := tb_re
  have t2 := tb_rs
  have t3 := tb_rc
  have t4 := tb_ra
  have t5 := tb_rr
  obtain ⟨h1, h2, h3⟩ := sk_start w
  have H4 := hide (h1.keep (below1 _ (.cells #[.iface T x, .int .i64 mn, .int .i64 mx] 91)) (Nat.le_refl _))
  have H5 := hide (h2.alloc (.cells #[.iface T x, .int .i64 mn, .int .i64 mx] 91))
  have H6 := hide (h3.alloc (by rw [sz_alloc, sz_alloc]; omega) (.cells #[.iface T x, .int .i64 mn, .int .i64 mx] 91))
  have hz2 : w.heap.size + 1 < (((w.alloc zS).alloc zS).alloc (.cells #[.iface T x, .int .i64 mn, .int .i64 mx] 91)).heap.size := by rw [sz_alloc, sz_alloc, sz_alloc]; omega
  clear h1 h2 h3 h hS
  go_enter Try.func20, Try.ntmps20
  go_wp2_with fail
  generalize (((w.alloc zS).alloc zS).alloc (.cells #[.iface T x, .int .i64 mn, .int .i64 mx] 91)) = w2 at *
  refine (unhide HH _ _ (unhide H4)).mono ?_
  rintro e w5 ⟨rfl, lv5, ps5, c5, hk5, hf5⟩
  have hz5 := hf5.size
  have h52 : ∀ k, k ≤ w.heap.size → w5.heap[k]? = w2.heap[k]? := fun k h1 => hf5.block k (by omega) (by omega) (by intro h; cases h)
  obtain ⟨y0, y1, y2, y3⟩ := hk5.box.facts4
  obtain ⟨z0, z1, z2, z3⟩ := ((unhide H5).blk (h52 _ (Nat.le_refl _))).facts4
  have hR := sk_fin (S := S) (R := w.heap.size) hk5 ((unhide H6).trans ⟨hf5.os, hf5.tape, hf5.output, by omega, fun k hk => h52 k (by omega)⟩) (Nat.le_refl _) (by omega) (unhide HS)
  have HRR := hide hR
  obtain ⟨la, lc, rfl⟩ := own_is hk5.row.own
  clear hR h52 hk5 hf5
  go_wp2
  refine bodyPost_ret (v := .agg #[.slice la ps5.length lc, .bool c5]) (by simp [results, Try.results20, go_sem, z0, z1]) rfl (unhide HRR)

theorem cut_gap : CutR [[256]] [[256]] := ⟨[[256]], List.pairwise_singleton _ _, by simp, Or.inr ⟨fun h => by rcases h with h | ⟨x, h, h2⟩ <;> simp at h; subst h; simp at h2, rfl⟩⟩
theorem SkV.rep0 {u : Value} (iu : ∃ T x, u = .iface T x) (mx : Int) : SkV (rV u 0 mx) [[256]] := SkV.repG iu cut_gap (fun B w h => addRep_zero B u mx w iu h)
theorem SkV.rep {u : Value} {S1 S : List (List Int)} (hu : SkV u S1) (m1 : Sm S1) (mn mx : Int) (hmn : mn ≠ 0) (hS : CutR (S1 ++ prd (S1.map (fun a => jn2 a [256])) S1) S) : SkV (rV u mn mx) S := SkV.repG hu.1 hS (fun B w h => addRep_some B u mn mx S1 w hu m1 hmn h)

/-- The bytes of a set ascend. -/
theorem bytes_lt (set : List Int) : ∀ n : Nat, ∀ b ∈ bytesOf set n, b < (n : Int)
  | 0, b, h => by cases h
  | n + 1, b, h => by
    by_cases q : inPs set n
    · rw [bytes_in q] at h
      rcases List.mem_append.1 h with h | h
      · have := bytes_lt set n b h; omega
      · rw [List.mem_singleton.1 h]; omega
    · rw [bytes_out q] at h
      have := bytes_lt set n b h; omega
theorem lexc_one {a b : Int} (h : a < b) : lexc [a] [b] < 0 := by
  simp [lexc, h]
theorem bytes_asc (set : List Int) : ∀ n : Nat, LAsc ((bytesOf set n).map (fun b => [b]))
  | 0 => List.Pairwise.nil
  | n + 1 => by
    by_cases q : inPs set n
    · rw [bytes_in q, List.map_append]
      refine List.pairwise_append.2 ⟨bytes_asc set n, List.pairwise_singleton _ _, fun a ha b hb => ?_⟩
      obtain ⟨x, hx, rfl⟩ := List.mem_map.1 ha
      rw [List.map_singleton] at hb
      rw [List.mem_singleton.1 hb]
      exact lexc_one (bytes_lt set n x hx)
    · rw [bytes_out q]
      exact bytes_asc set n
theorem leaf_cut (set : List Int) : CutR (leafS set) (leafS set) := by
  unfold leafS
  by_cases h : 8 < (bytesOf set 256).length
  · rw [if_pos h]; exact cut_gap
  · rw [if_neg h]
    refine ⟨_, bytes_asc set 256, fun z => Iff.rfl, Or.inr ⟨fun k => ?_, rfl⟩⟩
    rcases k with k | ⟨x, hx, k⟩
    · rw [List.length_map] at k; omega
    · obtain ⟨b, -, rfl⟩ := List.mem_map.1 hx
      simp at k
theorem leaf_len (set : List Int) : (leafS set).length ≤ 50 := (leaf_cut set).small.1

set_option maxHeartbeats 1000000 in
set_option maxRecDepth 100000 in
theorem SkV.s {g : Nat → Nat} {set : List Int} (hg : WordsOf set g) : SkV (sV g) (leafS set) := by
  refine ⟨⟨_, _, rfl⟩, fun w => ?_⟩
  have HM := hide (fun w => leafSk_any g set w hg)
  unfold sV ws4
  unfold ws4 at HM
  have t1 := tb_se
  have t2 := tb_ss
  obtain ⟨h1, h2, h3⟩ := sk_start w
  have H4 := hide (h1.keep (below1 _ (.cells #[.int .u64 (g 0 : Nat), .int .u64 (g 1 : Nat), .int .u64 (g 2 : Nat), .int .u64 (g 3 : Nat)] 83)) (Nat.le_refl _))
  have H5 := hide (h2.alloc (.cells #[.int .u64 (g 0 : Nat), .int .u64 (g 1 : Nat), .int .u64 (g 2 : Nat), .int .u64 (g 3 : Nat)] 83))
  have H6 := hide (h3.alloc (by rw [sz_alloc, sz_alloc]; omega) (.cells #[.int .u64 (g 0 : Nat), .int .u64 (g 1 : Nat), .int .u64 (g 2 : Nat), .int .u64 (g 3 : Nat)] 83))
  have hz2 : w.heap.size + 1 < (((w.alloc zS).alloc zS).alloc (.cells #[.int .u64 (g 0 : Nat), .int .u64 (g 1 : Nat), .int .u64 (g 2 : Nat), .int .u64 (g 3 : Nat)] 83)).heap.size := by rw [sz_alloc, sz_alloc, sz_alloc]; omega
  clear h1 h2 h3 hg
  go_enter Try.func20, Try.ntmps20
  go_wp2_with fail
  generalize (((w.alloc zS).alloc zS).alloc (.cells #[.int .u64 (g 0 : Nat), .int .u64 (g 1 : Nat), .int .u64 (g 2 : Nat), .int .u64 (g 3 : Nat)] 83)) = w2 at *
  refine (unhide HM w2).mono ?_
  rintro e w3 ⟨lv1, qs1, rfl, hl1, hq1, hb3⟩
  have hz3 := hb3.size
  have hn1 : qs1.length ≤ 1048576 := by have := leaf_len set; rw [← hq1, List.length_map] at this; omega
  have H33 := hide hb3
  have HQ1 := hide hq1
  have HL1 := hide hl1
  obtain ⟨l1a, l1c, rfl⟩ := own_is hl1.own
  have HA := hide (addAll_any (w.heap.size + 1) _ _ [] [] qs1 false w3 ((unhide H4).keep hb3 (Nat.le_refl _)) ⟨(unhide HL1).base (by omega), fun k hk e => by cases e⟩ hn1 (fun p hp => by cases hp))
  clear hb3 hl1 hq1
  go_wp2_with fail
  refine (unhide HA).mono ?_
  rintro e w5 ⟨rfl, lv5, ps5, c5, hk5, -, hf5, -⟩
  have hz5 := hf5.size
  have h52 : ∀ k, k ≤ w.heap.size → w5.heap[k]? = w2.heap[k]? := fun k h1 => (hf5.block k (by omega) (by omega) (by intro h; cases h)).trans ((unhide H33).block k (by omega))
  obtain ⟨y0, y1, y2, y3⟩ := hk5.box.facts4
  obtain ⟨z0, z1, z2, z3⟩ := ((unhide H5).blk (h52 _ (Nat.le_refl _))).facts4
  have hR := sk_fin (S := leafS set) (R := w.heap.size) hk5 ((unhide H6).trans ⟨hf5.os.trans (unhide H33).os, hf5.tape.trans (unhide H33).tape, hf5.output.trans (unhide H33).output, by omega, fun k hk => h52 k (by omega)⟩) (Nat.le_refl _) (by omega) (by rw [List.nil_append, unhide HQ1]; exact leaf_cut set)
  have HRR := hide hR
  obtain ⟨la, lc, rfl⟩ := own_is hk5.row.own
  clear hR h52 hk5 hf5 HA
  go_wp2
  refine bodyPost_ret (v := .agg #[.slice la ps5.length lc, .bool c5]) (by simp [results, Try.results20, go_sem, z0, z1]) rfl (unhide HRR)

end Go.Proofs.Ytjoaapoppcibdaa
