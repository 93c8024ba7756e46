import Derived.Test.YtmhafibngbojcaaDoorPp15
namespace Go.Proofs.YtmhafibngbojcaaDoor
open Go.RowKit

theorem conv_str (s : ByteArray) (T : List Int) (w : World) (h : StrB s T) (hl : T.length ≤ 1000000000) : ∃ (W : World) (cp : Nat), (convert 9 26 (.string s)).run Tryd.prog w = .ok (.slice (some ⟨w.heap.size, 0, none⟩) T.length cp) W ∧ SlAt mB 0 0 W.heap.size W (.slice (some ⟨w.heap.size, 0, none⟩) T.length cp) T ∧ Below w.heap.size w W := by
  have hz : s.size = T.length := h.size
  refine ⟨Lib.bytesWorld w 5 s, _, by rw [← hz]; exact Lib.run_convert_string_bytes w 9 26 5 s Tryd.underlying9 Tryd.underlying26 Tryd.underlying5, ⟨_, _, rfl, by unfold maxLen; omega, fun _ => ⟨w.heap.size, 0, rfl, Nat.zero_le _, by rw [Lib.bytesWorld_size]; exact Nat.lt_succ_self _, fun i hi => ?_⟩⟩, ⟨rfl, rfl, rfl, by rw [Lib.bytesWorld_size]; omega, fun k hk => Lib.bytesWorld_at_old w _ s k hk⟩⟩
  rw [Nat.zero_add, Lib.bytesWorld_cell w _ s i (by omega)]
  have h2 : (Go.Lib.strCells s)[i]? = (T.map mB)[i]? := by rw [show Go.Lib.strCells s = T.map mB from h]
  unfold Go.Lib.strCells at h2
  rw [List.getElem?_map, List.getElem?_map, getD_of_lt hi] at h2
  have hi0 : s.data.toList.length = s.size := by rw [Array.length_toList]; rfl
  have hi' : i < s.data.toList.length := by omega
  rw [List.getElem?_eq_getElem hi'] at h2
  simp only [Option.map_some, Option.some.injEq] at h2
  rw [← h2]
  simp [List.getD, List.getElem?_eq_getElem hi']

set_option maxHeartbeats 1000000 in
set_option maxRecDepth 100000 in
theorem specPr_any (l r : Bool) (v : Value) (xs : List El) (w : World) (hv : ElsAt 0 w.heap.size w v xs) :
    Calls Tryd.prog 5 #[.agg #[.bool l, .bool r, v]] w fun e w' => ∃ v' T, e = .returned v' ∧ PAns l r xs T ∧ SlAt mB 0 0 w'.heap.size w' v' T ∧ Below w.heap.size w w' := by
  obtain ⟨a, cp, rfl, -, -⟩ := id hv
  have Hv := hide hv
  have hb0 := below1 w (.cells #[.bool l, .bool r, .slice a xs.length cp] 30)
  have HC : Hid (∀ W, Below (w.heap.size + 1) (w.alloc (.cells #[.bool l, .bool r, .slice a xs.length cp] 30)) W → W.cell? ⟨w.heap.size, 0, none⟩ = some (.bool l) ∧ W.cell? ⟨w.heap.size, 1, none⟩ = some (.bool r) ∧ W.cell? ⟨w.heap.size, 2, none⟩ = some (.slice a xs.length cp)) := fun W hW =>
    ⟨(hW.cell (p := ⟨w.heap.size, 0, none⟩) (Nat.lt_succ_self _)).trans ((pushd_alloc w _).news 0 _ rfl), (hW.cell (p := ⟨w.heap.size, 1, none⟩) (Nat.lt_succ_self _)).trans ((pushd_alloc w _).news 1 _ rfl), (hW.cell (p := ⟨w.heap.size, 2, none⟩) (Nat.lt_succ_self _)).trans ((pushd_alloc w _).news 2 _ rfl)⟩
  clear hv
  go_enter Tryd.func5, Tryd.ntmps5
  go_wp2_with fail
  have hz0 : (w.alloc (.cells #[.bool l, .bool r, .slice a xs.length cp] 30)).heap.size = w.heap.size + 1 := sz_alloc _ _
  generalize w.alloc (.cells #[.bool l, .bool r, .slice a xs.length cp] 30) = W0 at *
  have hz0' : w.heap.size + 1 ≤ W0.heap.size := by omega
  clear hz0
  refine (specValid_any l r _ xs _ ((unhide Hv).below hb0 (Nat.le_refl _))).mono ?_
  rintro e w1 ⟨hret, hb1⟩
  have hz1 := hb1.size
  have hB1 : Below w.heap.size w w1 := hb0.trans (hb1.mono (by omega))
  obtain ⟨-, -, k2⟩ := unhide HC w1 (hb1.mono (by omega))
  rcases hret.cases with ⟨rfl, hok⟩ | ⟨rfl, hbad⟩
  · obtain ⟨u, c, -, -, x, -, hts, hst, -⟩ := valid_g closP hok
    have hlen := hok.1.2
    have hxl : x.2.length ≤ 6000000 := by have h1 := hts.2.1; simp only at h1; omega
    have Hans : Hid (PAns l r xs (ptx l r x.2)) := Or.inl ⟨hok, x, hst, rfl⟩
    have HX := hide hts.2.2
    clear hret hok hts hst
    go_wp2_with fail
    refine (unhide HX _ _ ((unhide Hv).below hB1 (Nat.le_refl _)) hlen).mono ?_
    rintro e w2 ⟨⟨S, rfl, hS⟩, hb2⟩
    have hB2 := hB1.trans (hb2.mono hB1.size)
    obtain ⟨k0, k1, -⟩ := unhide HC w2 (Below.trans (hb1.mono (by omega)) (hb2.mono (by omega)))
    have hsz := hS.size
    have HS := hide hS
    clear hS hb2 hb1 k2
    cases l with
    | true =>
     cases r with
     | true =>
      obtain ⟨Z, hZ⟩ : ∃ Z, Z = [94] ++ x.2 ++ [36] := ⟨_, rfl⟩
      have hzl : Z.length ≤ 6000002 := by rw [hZ]; (try simp); omega
      have hP : ptx true true x.2 = Z := by rw [hZ]; simp [ptx]
      rw [hP] at Hans
      obtain ⟨W, cq, hcv, hsl, hbW⟩ := conv_str (({ data := #[94] } ++ S) ++ { data := #[36] }) Z w2 (by rw [hZ]; exact (StrB.app (StrB.app (a := { data := #[94] }) (xs := [94]) rfl (unhide HS)) (b := { data := #[36] }) (ys := [36]) rfl)) (by omega)
      have n1 : ¬ 9223372036854775807 < 1 + S.size := by omega
      have n2 : ¬ 9223372036854775807 < 1 + S.size + 1 := by omega
      have HSL := hide hsl
      clear hsl hP hZ
      go_wp2
      go_ret
      exact ⟨_, Z, rfl, unhide Hans, unhide HSL, hB2.trans (hbW.mono hB2.size)⟩
     | false =>
      obtain ⟨Z, hZ⟩ : ∃ Z, Z = [94] ++ x.2 := ⟨_, rfl⟩
      have hzl : Z.length ≤ 6000002 := by rw [hZ]; (try simp); omega
      have hP : ptx true false x.2 = Z := by rw [hZ]; simp [ptx]
      rw [hP] at Hans
      obtain ⟨W, cq, hcv, hsl, hbW⟩ := conv_str ({ data := #[94] } ++ S) Z w2 (by rw [hZ]; exact (StrB.app (a := { data := #[94] }) (xs := [94]) rfl (unhide HS))) (by omega)
      have n1 : ¬ 9223372036854775807 < 1 + S.size := by omega
      have HSL := hide hsl
      clear hsl hP hZ
      go_wp2
      go_ret
      exact ⟨_, Z, rfl, unhide Hans, unhide HSL, hB2.trans (hbW.mono hB2.size)⟩
    | false =>
     cases r with
     | true =>
      obtain ⟨Z, hZ⟩ : ∃ Z, Z = x.2 ++ [36] := ⟨_, rfl⟩
      have hzl : Z.length ≤ 6000002 := by rw [hZ]; (try simp); omega
      have hP : ptx false true x.2 = Z := by rw [hZ]; simp [ptx]
      rw [hP] at Hans
      obtain ⟨W, cq, hcv, hsl, hbW⟩ := conv_str (S ++ { data := #[36] }) Z w2 (by rw [hZ]; exact (StrB.app (unhide HS) (b := { data := #[36] }) (ys := [36]) rfl)) (by omega)
      have n2 : ¬ 9223372036854775807 < S.size + 1 := by omega
      have HSL := hide hsl
      clear hsl hP hZ
      go_wp2
      go_ret
      exact ⟨_, Z, rfl, unhide Hans, unhide HSL, hB2.trans (hbW.mono hB2.size)⟩
     | false =>
      obtain ⟨Z, hZ⟩ : ∃ Z, Z = x.2 := ⟨_, rfl⟩
      have hzl : Z.length ≤ 6000002 := by rw [hZ]; (try simp); omega
      have hP : ptx false false x.2 = Z := by rw [hZ]; simp [ptx]
      rw [hP] at Hans
      obtain ⟨W, cq, hcv, hsl, hbW⟩ := conv_str S Z w2 (by rw [hZ]; exact (unhide HS)) (by omega)
      have HSL := hide hsl
      clear hsl hP hZ
      go_wp2
      go_ret
      exact ⟨_, Z, rfl, unhide Hans, unhide HSL, hB2.trans (hbW.mono hB2.size)⟩
  · have Hans : Hid (PAns l r xs []) := Or.inr ⟨hbad, rfl⟩
    clear hret hbad
    go_wp2
    go_ret
    exact ⟨_, [], rfl, unhide Hans, ⟨none, 0, rfl, Nat.zero_le _, fun h => absurd h (by simp)⟩, hB1⟩

end Go.Proofs.YtmhafibngbojcaaDoor
