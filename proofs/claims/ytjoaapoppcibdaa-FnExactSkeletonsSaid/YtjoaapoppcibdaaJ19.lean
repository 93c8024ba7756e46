import Derived.Test.YtjoaapoppcibdaaP13
namespace Go.Proofs.Ytjoaapoppcibdaa
open Go.RowKit

/-- What addRepeated leaves. -/
def RepQ (B : Nat) (w w' : World) (L : List (List Int)) (e : Ending) : Prop := e = .returned (.tuple #[]) ∧ ∃ lv ps c, SkB B w' lv L ps c ∧ Fr B none w w'

theorem OwnN.weak {a b : World} {v v' : Value} (h : OwnN b v v') (hs : a.heap.size ≤ b.heap.size) : OwnN a v v' := h.imp id (Or.imp id (fun ⟨k, h1, h2⟩ => ⟨k, by omega, h2⟩))
theorem gap_cl {w : World} {N : Nat} (h1 : w.heap[N]? = some (.cells #[.int .i64 256] 3 (0, 0))) : Cl.ok mI 0 3 w ⟨.slice (some ⟨N, 0, none⟩) 1 1, [256], N⟩ := by
  refine ⟨_, 1, rfl, ⟨Nat.le_refl _, by unfold maxLen; omega⟩, fun _ => ⟨0, rfl, ⟨_, h1⟩, fun i hi => ?_⟩⟩
  have hi' : i < 1 := hi
  obtain rfl : i = 0 := by omega
  simp [World.cell?, h1]
  rfl

set_option maxHeartbeats 1000000 in
set_option maxRecDepth 100000 in
theorem addRep_zero (B : Nat) (u : Value) (mx : Int) (w : World) (hu : ∃ T x, u = .iface T x) (h : SkB B w (.slice none 0 0) [] [] false) :
    Calls Try.prog 50 #[.pointer (some ⟨B, 0, none⟩), .agg #[u, .int .i64 0, .int .i64 mx]] w fun e w' => RepQ B w w' [[256]] e := by
  obtain ⟨T, x, rfl⟩ := hu
  have H := hide h
  have hB : B < w.heap.size := World.rowIs.lt h.box
  clear h
  go_enter Try.func50, Try.ntmps50
  go_wp2_with fail
  have hb2 := below2 w (.cells #[.iface T x, .int .i64 0, .int .i64 mx] 91) (.cells #[.int .i64 256] 3)
  have hn2 : ((w.alloc (.cells #[.iface T x, .int .i64 0, .int .i64 mx] 91)).alloc (.cells #[.int .i64 256] 3)).heap[w.heap.size + 1]? = some (.cells #[.int .i64 256] 3 (0, 0)) := by
    have h := (pushd_alloc (w.alloc (.cells #[.iface T x, .int .i64 0, .int .i64 mx] 91)) (.cells #[.int .i64 256] 3)).new
    rw [sz_alloc] at h
    exact h
  have HA := hide (add_any B _ [] [] false ⟨.slice (some ⟨w.heap.size + 1, 0, none⟩) 1 1, [256], w.heap.size + 1⟩ _ ((unhide H).keep hb2 (Nat.le_refl _)) (gap_cl hn2) (fun _ => by show B + 1 ≤ w.heap.size + 1; omega) (fun q hq => by cases hq))
  have HB2 := hide hb2
  clear hn2 hb2
  generalize ((w.alloc (.cells #[.iface T x, .int .i64 0, .int .i64 mx] 91)).alloc (.cells #[.int .i64 256] 3)) = w2 at *
  refine (unhide HA).mono ?_
  rintro e w3 ⟨rfl, lv, ps, c, hs, -, hf, -⟩
  have HRR : Hid (RepQ B w w3 [[256]] (.returned (.tuple #[]))) := ⟨rfl, lv, ps, c, hs, Fr.trans (v := .slice none 0 0) (Below.fr (unhide HB2) (Nat.le_refl _)) (Or.inl rfl) hf⟩
  clear hs hf
  go_wp2
  first | (refine bodyPost_ret (results_none rfl _ _ _) rfl ?_) | (refine bodyPost_end (results_none rfl _ _ _) rfl ?_)
  exact unhide HRR

set_option maxHeartbeats 4000000 in
set_option maxRecDepth 100000 in
theorem addRep_some (B : Nat) (u : Value) (mn mx : Int) (S1 : List (List Int)) (w : World) (hu : SkV u S1) (m1 : Sm S1) (hmn : mn ≠ 0) (h : SkB B w (.slice none 0 0) [] [] false) :
    Calls Try.prog 50 #[.pointer (some ⟨B, 0, none⟩), .agg #[u, .int .i64 mn, .int .i64 mx]] w fun e w' => RepQ B w w' (S1 ++ prd (S1.map (fun a => jn2 a [256])) S1) e := by
  obtain ⟨i1', hi', hz0', hz1', hz2'⟩ := info_parts Try.zinIntS
  obtain ⟨⟨T, x, rfl⟩, hu⟩ := hu
  have HU := hide hu
  have H := hide h
  have hB : B < w.heap.size := World.rowIs.lt h.box
  have hmn' : (mn == 0) = false := by simpa using hmn
  have t5 := fld_sk
  clear h hu hmn
  go_enter Try.func50, Try.ntmps50
  go_wp2_with fail
  have hb2 := below1 w (.cells #[.iface T x, .int .i64 mn, .int .i64 mx] 91)
  have hz2 : w.heap.size < (w.alloc (.cells #[.iface T x, .int .i64 mn, .int .i64 mx] 91)).heap.size := by rw [sz_alloc]; omega
  generalize (w.alloc (.cells #[.iface T x, .int .i64 mn, .int .i64 mx] 91)) = w2 at *
  refine (unhide HU w2).mono ?_
  rintro e w3 ⟨lv1, qs, c1, rfl, hl1, hq1, hb3⟩
  have hz3 := hb3.size
  have hB3 : Below w.heap.size w w3 := hb2.trans (hb3.mono (by omega))
  have HL1 := hide hl1
  have HQ1 := hide hq1
  have hn1 : qs.length ≤ 50 := by have := m1.1; rw [← hq1, List.length_map] at this; exact this
  have HX1 : Hid (∀ q ∈ qs, q.xs.length ≤ 60) := fun q hq => m1.2 q.xs (by rw [← unhide HQ1]; exact List.mem_map_of_mem hq)
  have HB3 := hide hB3
  obtain ⟨l1a, l1c, rfl⟩ := own_is hl1.own
  clear hl1 hq1 hb3 hb2 hB3
  go_wp2_with fail
  go_loopw [5, 20] (fun ov iv wr => ∃ (i : Nat) (os : List (Cl Int)), i ≤ qs.length ∧ iv = .int .i64 i ∧ os.map Cl.xs = ((qs.map Cl.xs).take i).map (fun a => jn2 a [256]) ∧ LL mI 0 3 52 w3.heap.size wr ov os ∧ Below w3.heap.size w3 wr) (fun _ iv _ => qs.length - (intOf iv).toNat)
  case atStart => exact ⟨0, [], Nat.zero_le _, rfl, rfl, LL.nil, Below.refl _ _⟩
  case round =>
    obtain ⟨i, os, hil, rfl, hos, hll, hbr⟩ := hrel
    have hszr := hbr.size
    have hol : os.length ≤ i := by
      have := congrArg List.length hos
      simp at this
      omega
    have HOS := hide hos
    have HLL := hide hll
    obtain ⟨oa, oc, rfl⟩ := own_is hll.own
    clear hos hll
    by_cases hlt : i < qs.length
    · have hlt' : (i : Int) < (qs.length : Int) := by omega
      obtain ⟨p, hp⟩ : ∃ p, qs[i]? = some p := ⟨qs[i], by simp [hlt]⟩
      have hpm : p ∈ qs := List.mem_of_getElem? hp
      have hL1r := (unhide HL1).keep hbr (Nat.le_refl _)
      have hpx := unhide HX1 p hpm
      rcases hL1r.own.2 with ⟨e9, hz9⟩ | ⟨g, cap, cur, e9, -⟩
      · omega
      · simp only [Value.slice.injEq] at e9
        obtain ⟨rfl, -, rfl⟩ := e9
        have hcell : wr.cell? ⟨g, i, none⟩ = some p.v := by
          rw [hL1r.own.cellAt i (by omega), List.getElem?_map, hp]
          rfl
        have hok := (hL1r.ok p hpm)
        obtain ⟨pa, pc, hpv⟩ : ∃ pa pc, p.v = .slice pa p.xs.length pc := by obtain ⟨a, cp, e, -⟩ := hok; exact ⟨a, cp, e⟩
        have hB9 := below1 wr (.cells #[.int .i64 256] 3)
        have hokA := hok.below hB9 (Nat.le_refl _)
        have hzA : (wr.alloc (.cells #[.int .i64 256] 3)).heap.size = wr.heap.size + 1 := sz_alloc _ _
        have hlit : (wr.alloc (.cells #[.int .i64 256] 3)).heap[wr.heap.size]? = some (.cells #[.int .i64 256] 3 (0, 0)) := (pushd_alloc wr (.cells #[.int .i64 256] 3)).new
        have hlok := gap_cl hlit
        have HJ := hide (joinSk_any p.v (.slice (some ⟨wr.heap.size, 0, none⟩) 1 1) p.xs [256] (wr.alloc (.cells #[.int .i64 256] 3)) hokA.at hokA.cap hlok.at hlok.cap (by show p.xs.length + 1 ≤ 1048576; omega))
        rw [hpv] at hcell HJ
        have HN : Hid (∀ q : Cl Int, q.xs = jn2 p.xs [256] → (os ++ [q]).map Cl.xs = ((qs.map Cl.xs).take (i + 1)).map (fun a => jn2 a [256])) := fun q hq => by
          rw [List.map_append, List.map_singleton, hq, unhide HOS, List.take_add_one, List.getElem?_map, hp]
          simp
        have HLLA := hide ((unhide HLL).keep hB9 (Nat.le_refl _))
        have HB9 := hide hB9
        clear hL1r hp hpm hok hpv hokA hlit hlok HOS hB9
        go_wp2_with fail
        generalize wr.alloc (.cells #[.int .i64 256] 3) = wA at *
        refine (unhide HJ).mono ?_
        rintro e w4 ⟨v4, rfl, hown4, hb4⟩
        have hz4 := hb4.size
        obtain ⟨pb, hok4, hlo4⟩ := own_cl hown4
        obtain ⟨va4, vc4, rfl⟩ := own_is hown4
        have HLL4 := hide ((unhide HLLA).keep hb4 (Nat.le_refl _))
        have hB4 : Below w3.heap.size w3 w4 := hbr.trans ((unhide HB9).mono hszr |>.trans (hb4.mono (by omega)))
        have HOK4 := hide hok4
        have Hst : Hid (∀ (w' : World) (v' : Value), w'.ownsRow w3.heap.size 52 1 v' (os.length + 1) (os.map Cl.v ++ [.slice va4 (jn2 p.xs [256]).length vc4]) → (w4.alloc (.cells #[.slice va4 (jn2 p.xs [256]).length vc4] 52)).grownBy w' (Value.slice oa os.length oc).ownBlock → LL mI 0 3 52 w3.heap.size w' v' (os ++ [⟨.slice va4 (jn2 p.xs [256]).length vc4, jn2 p.xs [256], pb⟩]) ∧ Below w3.heap.size w4 w') := fun w' v' g1 g2 =>
          (unhide HLL4).app (by decide) (by omega) (unhide HOK4) (fun h0 => by have := hlo4 h0; show w3.heap.size ≤ pb; omega) (fun q hq h0 h1 e => by have := ((unhide HLL).ok q hq).lt h0; have := hlo4 h1; simp only at e; omega) (pushd_alloc _ _) g1 g2
        clear hown4 hok4 HJ
        generalize (jn2 p.xs [256]).length = JL at *
        go_wp2_with (at_builtin; refine wpList_append_own _ rfl _ _ 26 rfl w3.heap.size 52 i1' (.slice none 0 0) 1 24 Try.underlying26 hi' hz0' hz1' hz2' rfl (by decide) _ _ _ rfl (World.ownsRow.alloc (w := w4) (unhide HLL4).own _) ⟨w4.heap.size, 0, none⟩ 1 1 [.slice va4 JL vc4] rfl rfl ?_ ?_ ?_ ?_ ?_ ?_)
        · exact cell_1 (by simp)
        · intro u' hu; simp at hu; subst hu; rfl
        · unfold maxLen; omega
        · omega
        · rw [sz_alloc]; omega
        intro v5 w5 h5 hg5 _
        have h3 := hide (unhide Hst w5 v5 h5 hg5)
        obtain ⟨g5, cap5, rfl⟩ := ownsRow_succ h5
        clear h5 hg5
        have hB5 : Below w3.heap.size w3 w5 := hB4.trans (unhide h3).2
        go_wp2
        go_roundw
        case rel => exact ⟨i + 1, _, by omega, by go_num, unhide HN _ rfl, (unhide h3).1, hB5⟩
        case measure => simp [intOf]; omega
    · obtain rfl : i = qs.length := by omega
      have hbV : Below w.heap.size w wr := (unhide HB3).trans (hbr.mono (by omega))
      have HK := hide ((unhide H).keep hbV (Nat.le_refl _))
      have HS1 : Hid (Side B (.slice none 0 0) wr (.slice l1a qs.length l1c) qs) := ⟨((unhide HL1).keep hbr (Nat.le_refl _)).base (by omega), fun k hk e => by cases e⟩
      have HS2 : Hid (Side B (.slice none 0 0) wr (.slice oa os.length oc) os) := ⟨(unhide HLL).base (by omega), fun k hk e => by cases e⟩
      have HA := hide (addAll_any B _ _ [] [] qs false wr (unhide HK) (unhide HS1) (by omega) (fun p hp => by cases hp))
      have HBV := hide hbV
      clear hbV
      go_wp2_with fail
      refine (unhide HA).mono ?_
      rintro e w5 ⟨rfl, lv5, ps5, c5, hk5, -, hf5, ho5⟩
      have HS15 := (unhide HS1).fr (unhide HK).row hf5 ho5
      have HS25 := (unhide HS2).fr (unhide HK).row hf5 ho5
      have hxo : ∀ q ∈ os, q.xs.length ≤ 1000 := fun q hq => by
        have hm : q.xs ∈ os.map Cl.xs := List.mem_map_of_mem hq
        rw [unhide HOS] at hm
        obtain ⟨a, ha, e⟩ := List.mem_map.1 hm
        obtain ⟨p, hp, rfl⟩ := List.mem_map.1 (List.mem_of_mem_take ha)
        have h1 := unhide HX1 p hp
        have h2 := jpt_len p.xs [256] 1
        have h3 := jpt_all p.xs [256]
        rw [show ([256] : List Int).length = 1 from rfl] at h3
        rw [h3, e] at h2
        omega
      have HJ := hide (addJoined_any B lv5 _ _ _ ps5 os qs c5 w5 hk5 HS25 HS15 (by omega) (by omega) hxo (fun q hq => by have := unhide HX1 q hq; omega))
      have HF5 := hide hf5
      have HO5 := hide ho5
      clear hk5 hf5 ho5 HS15 HS25 hxo HA
      go_wp2_with fail
      refine (unhide HJ).mono ?_
      rintro e w6 ⟨rfl, lv6, ps6, c6, hk6, -, hf6, -⟩
      have HRR : Hid (RepQ B w w6 (S1 ++ prd (S1.map (fun a => jn2 a [256])) S1) (.returned (.tuple #[]))) := by
        refine ⟨rfl, lv6, ps6, c6, ?_, Fr.trans (v := .slice none 0 0) (Fr.trans (v := .slice none 0 0) (Below.fr (unhide HBV) (Nat.le_refl _)) (Or.inl rfl) (unhide HF5)) (OwnN.weak (unhide HO5) (unhide HBV).size) hf6⟩
        rw [unhide HOS, unhide HQ1, List.nil_append, List.take_of_length_le (by have := congrArg List.length (unhide HQ1); rw [List.length_map] at this; omega)] at hk6
        exact hk6
      clear hk6 hf6 HJ
      go_wp2
      first | (refine bodyPost_ret (results_none rfl _ _ _) rfl ?_) | (refine bodyPost_end (results_none rfl _ _ _) rfl ?_)
      exact unhide HRR

end Go.Proofs.Ytjoaapoppcibdaa
