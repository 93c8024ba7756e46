import Derived.Test.YtcmofgehhdfifaaGreatDoorPs1
namespace Go.Proofs.YtcmofgehhdfifaaGreatDoor
open Go.RowKit
theorem slat_lit (w : World) (t : TypeId) (cs : List Int) (n : Nat) (hn : n = cs.length) (hl : cs.length ≤ 1000) : SlAt mI 0 w.heap.size (w.alloc (.cells (cs.map mI).toArray t)).heap.size (w.alloc (.cells (cs.map mI).toArray t)) (.slice (some ⟨w.heap.size, 0, none⟩) n n) cs := by
  subst hn
  refine ⟨_, cs.length, rfl, by unfold maxLen; omega, fun _ => ⟨w.heap.size, 0, rfl, Nat.le_refl _, by rw [sz_alloc]; exact Nat.lt_succ_self _, fun i hi => ?_⟩⟩
  have h9 := (pushd_alloc w (.cells (cs.map mI).toArray t)).news i (mI (cs[i]?.getD 0)) (by simp [List.getElem?_eq_getElem hi])
  have e3 : (⟨w.heap.size, 0, none⟩ : Addr).add i = ⟨w.heap.size, i, none⟩ := (by cases i <;> simp [Addr.add])
  rw [e3] at h9
  rw [Nat.zero_add]
  exact h9
def SeM (e : Ending) (w w' : World) (xs : List Int) (i : Nat) : Prop := (sesB (xs.drop i) = none ∧ e = .returned (.tuple #[.slice none 0 0, .bool false]) ∧ w' = w) ∨ ∃ (cs : List Int) (v : Value), sesB (xs.drop i) = some (cs, xs.drop (i + 2)) ∧ i + 2 ≤ xs.length ∧ cs.length ≤ 8 ∧ e = .returned (.tuple #[v, .bool true]) ∧ SlAt mI 0 w.heap.size w'.heap.size w' v cs ∧ Below w.heap.size w w'
theorem sesB_at {xs : List Int} {i : Nat} {c : Int} (h0 : xs[i]? = some 92) (h1 : xs[i + 1]? = some c) : sesB (xs.drop i) = sesc (c :: xs.drop (i + 2)) := by
  have l1 : i + 1 < xs.length := by
    rcases Nat.lt_or_ge (i + 1) xs.length with h | h
    · exact h
    · rw [List.getElem?_eq_none h] at h1; cases h1
  rw [drop_at (show i < xs.length by omega), drop_at l1, h0, h1]
  rfl
theorem get_at {xs : List Int} {i : Nat} (h : i < xs.length) : xs[i]? = some (xs[i]?.getD 0) := by rw [List.getElem?_eq_getElem h]; rfl
set_option maxHeartbeats 4000000 in
set_option maxRecDepth 100000 in
theorem l1setEsc_any (sv : Value) (xs : List Int) (i : Nat) (w : World) (hv : SlAt mB 0 0 w.heap.size w sv xs) (hb : BytesIn xs) (hl : xs.length ≤ 100000) (hil : i ≤ xs.length) :
    Calls Tryz.prog 40 #[sv, .int .i64 (i : Nat)] w fun e w' => SeM e w w' xs i := by
  obtain ⟨a, cp, rfl, -, hc⟩ := hv
  by_cases h1 : i + 1 < xs.length
  · obtain ⟨b, off, rfl, -, -, hcell⟩ := hc (by omega)
    obtain ⟨d, hde⟩ : ∃ d, d = xs[i]?.getD 0 := ⟨_, rfl⟩
    obtain ⟨c, hce⟩ : ∃ c, c = xs[i + 1]?.getD 0 := ⟨_, rfl⟩
    have x0 : w.cell? ⟨b, off + i, none⟩ = some (.int .u8 d) := by rw [hcell i (by omega), ← hde]; rfl
    have x1 : w.cell? ⟨b, off + (i + 1), none⟩ = some (.int .u8 c) := by rw [hcell (i + 1) h1, ← hce]; rfl
    obtain ⟨c0, c1⟩ := hb c (by rw [hce, List.getElem?_eq_getElem h1]; exact List.getElem_mem h1)
    obtain ⟨d0, d1⟩ := hb d (by rw [hde, List.getElem?_eq_getElem (show i < xs.length by omega)]; exact List.getElem_mem _)
    have h1' : (i : Int) + 1 < (xs.length : Int) := by omega
    have h2' : ¬ (xs.length : Int) ≤ (i : Int) + 1 := by omega
    have h0' : (i : Int) < (xs.length : Int) := by omega
    have g0 : xs[i]? = some d := by rw [hde]; exact get_at (by omega)
    have g1 : xs[i + 1]? = some c := by rw [hce]; exact get_at h1
    have hdr : xs.drop i = d :: xs.drop (i + 1) := by rw [hde]; exact drop_at (by omega)
    by_cases e0 : d = 92
    · subst e0
      have HS := hide (sesB_at g0 g1)
      clear hdr g0 g1 hcell hc hb hde hce
      by_cases e1 : c = 100
      · subst e1
        have HB := hide (below1 w (.cells #[.int .i64 48, .int .i64 57] 3))
        have HL := hide (slat_lit w 3 [48, 57] 2 rfl (by simp))
        go_enter Tryz.func40, Tryz.ntmps40
        go_wp2
        go_ret2
        exact .inr ⟨[48, 57], _, unhide HS, by omega, by simp, rfl, unhide HL, unhide HB⟩
      by_cases e2 : c = 119
      · subst e2
        have HB := hide (below1 w (.cells #[.int .i64 48, .int .i64 57, .int .i64 65, .int .i64 90, .int .i64 95, .int .i64 95, .int .i64 97, .int .i64 122] 3))
        have HL := hide (slat_lit w 3 [48, 57, 65, 90, 95, 95, 97, 122] 8 rfl (by simp))
        go_enter Tryz.func40, Tryz.ntmps40
        go_wp2
        go_ret2
        exact .inr ⟨[48, 57, 65, 90, 95, 95, 97, 122], _, unhide HS, by omega, by simp, rfl, unhide HL, unhide HB⟩
      by_cases e3 : c = 115
      · subst e3
        have HB := hide (below1 w (.cells #[.int .i64 9, .int .i64 10, .int .i64 13, .int .i64 13, .int .i64 32, .int .i64 32] 3))
        have HL := hide (slat_lit w 3 [9, 10, 13, 13, 32, 32] 6 rfl (by simp))
        go_enter Tryz.func40, Tryz.ntmps40
        go_wp2
        go_ret2
        exact .inr ⟨[9, 10, 13, 13, 32, 32], _, unhide HS, by omega, by simp, rfl, unhide HL, unhide HB⟩
      have HN : Hid (sesB (xs.drop i) = none) := by show sesB _ = none; rw [unhide HS, sesc, if_neg e1, if_neg e2, if_neg e3]
      go_enter Tryz.func40, Tryz.ntmps40
      go_wp2
      go_ret2
      exact .inl ⟨unhide HN, rfl, rfl⟩
    · have HN : Hid (sesB (xs.drop i) = none) := by show sesB _ = none; rw [hdr, sesB, if_neg e0]
      clear hdr g0 g1 hcell hc hb hde hce
      go_enter Tryz.func40, Tryz.ntmps40
      go_wp2
      go_ret2
      exact .inl ⟨unhide HN, rfl, rfl⟩
  · have h1' : ¬ (i : Int) + 1 < (xs.length : Int) := by omega
    have h2' : (xs.length : Int) ≤ (i : Int) + 1 := by omega
    have HN : Hid (sesB (xs.drop i) = none) := by
      show sesB _ = none
      by_cases h : i < xs.length
      · rw [drop_at h, List.drop_eq_nil_of_le (by omega), sesB]
        split <;> rfl
      · rw [List.drop_eq_nil_of_le (by omega)]; rfl
    clear hc
    go_enter Tryz.func40, Tryz.ntmps40
    go_wp2
    go_ret2
    exact .inl ⟨unhide HN, rfl, rfl⟩
def ChM (e : Ending) (xs : List Int) (i : Nat) : Prop := (chr1 (xs.drop i) = none ∧ e = .returned (.tuple #[.int .i64 0, .int .i64 0])) ∨ ∃ (v : Int) (n : Nat), chr1 (xs.drop i) = some (v, xs.drop (i + n)) ∧ 1 ≤ n ∧ i + n ≤ xs.length ∧ 0 ≤ v ∧ v ≤ 255 ∧ e = .returned (.tuple #[.int .i64 v, .int .i64 (n : Nat)])
set_option maxHeartbeats 4000000 in
set_option maxRecDepth 100000 in
theorem l1char_any (sv : Value) (xs : List Int) (i : Nat) (w : World) (hv : SlAt mB 0 0 w.heap.size w sv xs) (hb : BytesIn xs) (hl : xs.length ≤ 100000) :
    Calls Tryz.prog 66 #[sv, .int .i64 (i : Nat)] w fun e w' => ChM e xs i ∧ w' = w := by
  have Hv := hide hv
  obtain ⟨a, cp, rfl, -, hc⟩ := hv
  by_cases hlt : i < xs.length
  · obtain ⟨b, off, rfl, -, -, hcell⟩ := hc (by omega)
    obtain ⟨c, hce⟩ : ∃ c, c = xs[i]?.getD 0 := ⟨_, rfl⟩
    have x0 : w.cell? ⟨b, off + i, none⟩ = some (.int .u8 c) := by rw [hcell i hlt, ← hce]; rfl
    have HD : Hid (xs.drop i = c :: xs.drop (i + 1)) := by rw [hce]; exact drop_at hlt
    obtain ⟨c0, c1⟩ := hb c (by rw [hce, List.getElem?_eq_getElem hlt]; exact List.getElem_mem hlt)
    have h0' : (i : Int) < (xs.length : Int) := by omega
    have h2' : ¬ (xs.length : Int) ≤ (i : Int) := by omega
    have g0 : xs[i]? = some c := by rw [hce]; exact get_at hlt
    have G0 := hide g0
    have HB := hide hb
    clear g0 hce hcell hc hb
    by_cases e0 : c = 92
    · subst e0
      have HE := hide (l1byteEsc_any _ xs i w (unhide Hv) (unhide HB) (unhide G0) hl)
      have HC : Hid (chr1 (xs.drop i) = besc (xs.drop (i + 1))) := by show chr1 _ = _; rw [unhide HD, chr1, if_pos rfl]
      go_enter Tryz.func66, Tryz.ntmps66
      go_wp2_with fail
      refine (unhide HE).mono ?_
      rintro e w1 ⟨⟨hn, rfl⟩ | ⟨v, n, hs, n2, hle, v0, v1, rfl⟩, rfl⟩
      · have HX := hide hn
        clear hn
        go_wp2
        go_ret2
        exact ⟨.inl ⟨by rw [unhide HC]; exact unhide HX, rfl⟩, rfl⟩
      · have HX := hide hs
        clear hs
        go_wp2
        go_ret2
        exact ⟨.inr ⟨v, n, by rw [unhide HC]; exact unhide HX, by omega, hle, v0, v1, rfl⟩, rfl⟩
    by_cases e1 : c = 93 ∨ c = 91 ∨ c = 94 ∨ c = 45
    · have HX : Hid (chr1 (xs.drop i) = none) := by show chr1 _ = none; rw [unhide HD, chr1, if_neg e0, if_pos e1]
      rcases e1 with rfl | rfl | rfl | rfl <;>
      · go_enter Tryz.func66, Tryz.ntmps66
        go_wp2
        go_ret2
        exact ⟨.inl ⟨unhide HX, rfl⟩, rfl⟩
    · have HX : Hid (chr1 (xs.drop i) = some (c, xs.drop (i + 1))) := by show chr1 _ = _; rw [unhide HD, chr1, if_neg e0, if_neg e1]
      have e3 : (c == 91) = false := by simp; omega
      have e4 : (c == 93) = false := by simp; omega
      have e5 : (c == 94) = false := by simp; omega
      have e6 : (c == 45) = false := by simp; omega
      clear e1
      go_enter Tryz.func66, Tryz.ntmps66
      go_wp2
      go_ret2
      exact ⟨.inr ⟨c, 1, unhide HX, by omega, by omega, c0, c1, rfl⟩, rfl⟩
  · have h2' : (xs.length : Int) ≤ (i : Int) := by omega
    have HX : Hid (chr1 (xs.drop i) = none) := by show chr1 _ = none; rw [List.drop_eq_nil_of_le (by omega)]; rfl
    clear hc
    go_enter Tryz.func66, Tryz.ntmps66
    go_wp2
    go_ret2
    exact ⟨.inl ⟨unhide HX, rfl⟩, rfl⟩
end Go.Proofs.YtcmofgehhdfifaaGreatDoor
