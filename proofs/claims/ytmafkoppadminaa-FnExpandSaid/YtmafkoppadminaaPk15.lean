import Derived.Test.YtmafkoppadminaaPk14
import Derived.Test.YtmafkoppadminaaPk13
import Derived.Test.YtmafkoppadminaaPk11
import Derived.Test.YtmafkoppadminaaPk7
namespace Go.Proofs.Ytmafkoppadminaa
open Go.RowKit
def EnG (bs : List Int) (u : Value) (t : List El × Int) : Prop := SzV u t.2 ∧ SegM t.1 t.2 ∧ ∃ R, SegL bs.length (hsL bs) t.1 R ∧ EnS bs t.1 R
theorem closEn (bs : List Int) : Clos (EnG bs) := by
  refine ⟨fun h => h.1, ?_, ?_, ?_, ?_, ?_⟩
  · exact ⟨SzV.e, SegM.leaf (Or.inl rfl), _, SegL.e, en_e bs⟩
  · intro xs g hc hw
    exact ⟨SzV.s _ _ _ _, SegM.leaf (Or.inr rfl), _, SegL.s xs, en_s bs xs (by have := canon_len hc; omega)⟩
  · rintro u v l r ⟨hu, hs, A, a1, a2⟩ ⟨hv, hs2, B, b1, b2⟩
    exact ⟨SzV.cat hu hv, SegM.bin hs hs2 (Or.inl rfl), _, a1.cat b1, en_cat bs l.1 r.1 A B _ hs2 a1.2 b1.2 a2 b2⟩
  · rintro u v l r ⟨hu, hs, A, a1, a2⟩ ⟨hv, hs2, B, b1, b2⟩
    exact ⟨SzV.alt hu hv, SegM.bin hs hs2 (Or.inr rfl), _, a1.alt b1, en_alt bs l.1 r.1 A B _ hs2 a1.2 b1.2 a2 b2⟩
  · rintro u o mn mx ⟨hu, hs, A, a1, a2⟩ o2 o3 o4
    obtain ⟨m, rfl⟩ := Int.eq_ofNat_of_zero_le o2
    exact ⟨SzV.rep hu o2 o3 o4, SegM.rep hs rfl o2 o4, _, a1.rep _ mx, en_rep bs o.1 A m mx a1.2 a2 (by have := hs.ne; omega) (by omega) o4⟩
theorem en_valid (bs : List Int) {xs : List El} (h : ValidT xs) : ∃ R, SegL bs.length (hsL bs) xs R ∧ EnS bs xs R := by
  obtain ⟨u, c, -, -, h⟩ := valid_g (closEn bs) h
  exact h
def MatchP (n : Nat) (l r : Bool) (R : Rl) : Prop := ∃ i j, (i = 0 ∨ l = false) ∧ R i j ∧ (j = n ∨ r = false)
def frm (l : Bool) (k : Nat) : Nat → Bool := fun j => decide (j < k) && (decide (j = 0) || !l)
theorem frm_all {n : Nat} {l : Bool} {i : Nat} (hi : i ≤ n) : frm l (n + 1) i = true ↔ (i = 0 ∨ l = false) := by
  unfold frm
  simp [show i < n + 1 by omega]
set_option maxHeartbeats 8000000 in
set_option maxRecDepth 100000 in
theorem l2match_any (l r : Bool) (v lv : Value) (xs : List El) (bs : List Int) (R : Rl) (w : World) (hv : ElsAt 0 w.heap.size w v xs) (hlen : xs.length ≤ 3000) (hlv : SlAt mB 0 0 w.heap.size w lv bs) (hbs : BytesOk bs) (hR : RB bs.length R) (hE : EnS bs xs R) :
    Calls Try.prog 15 #[.agg #[.bool l, .bool r, v], lv] w fun e w' => RetB e (MatchP bs.length l r R) ∧ Below w.heap.size w w' := by
  obtain ⟨a, cp, rfl, -, -⟩ := id hv
  obtain ⟨la, lc, rfl, -, -⟩ := id hlv
  have hn := hbs.1
  have Hv := hide hv
  have Hlv := hide hlv
  have Hbs := hide hbs
  have HR := hide hR
  have HE := hide hE
  have hmk := run_make_row' (P := Try.prog) 66 4 (.bool false) 1 Try.underlying66 Try.zinBoolM rfl .i64 .i64 (bs.length + 1) (by omega) (by omega)
  simp only [Int.natCast_add, Int.natCast_one] at hmk
  have hb2 := below2 w (.cells #[.bool l, .bool r, .slice a xs.length cp] 25) (.cells (madeCells #[.bool false] (bs.length + 1)) 4)
  have h0 := br_made (w.alloc (.cells #[.bool l, .bool r, .slice a xs.length cp] 25)) bs.length
  rw [sz_alloc] at h0
  have hz0 : ((w.alloc (.cells #[.bool l, .bool r, .slice a xs.length cp] 25)).alloc (.cells (madeCells #[.bool false] (bs.length + 1)) 4)).heap.size = w.heap.size + 2 := by rw [sz_alloc, sz_alloc]
  have hq : ∀ k u, #[Value.bool l, .bool r, .slice a xs.length cp].toList[k]? = some u → ((w.alloc (.cells #[.bool l, .bool r, .slice a xs.length cp] 25)).alloc (.cells (madeCells #[.bool false] (bs.length + 1)) 4)).cell? ((⟨w.heap.size, 0, none⟩ : Addr).add k) = some u := fun k u hu =>
    ((below1 _ _).cell (p := (⟨w.heap.size, 0, none⟩ : Addr).add k) (by rw [sz_alloc]; cases k <;> exact Nat.lt_succ_self _)).trans ((pushd_alloc w _).news k u hu)
  have q0 := hq 0 _ rfl
  have q1 := hq 1 _ rfl
  have q2 := hq 2 _ rfl
  simp only [Addr.add] at q0 q1 q2
  have HQ0 := hide q0
  have HQ1 := hide q1
  have HQ2 := hide q2
  have H0 := hide h0
  have HB2 := hide hb2
  clear hv hlv hbs hR hE hb2 h0 hq q0 q1 q2
  go_enter Try.func15, Try.ntmps15
  go_wp2_with fail
  go_loopw [7] (fun iv wr => ∃ i : Nat, i ≤ bs.length + 1 ∧ iv = .int .i64 i ∧ BR wr bs.length (w.heap.size + 1) (frm l i) ∧ wr.cell? ⟨w.heap.size, 0, none⟩ = some (.bool l) ∧ wr.cell? ⟨w.heap.size, 1, none⟩ = some (.bool r) ∧ wr.cell? ⟨w.heap.size, 2, none⟩ = some (.slice a xs.length cp) ∧ w.heap.size + 2 ≤ wr.heap.size ∧ Below w.heap.size w wr) (fun iv _ => bs.length + 1 - (intOf iv).toNat)
  case atStart => exact ⟨0, Nat.zero_le _, rfl, (unhide H0).same (fun j _ => by simp [frm]), unhide HQ0, unhide HQ1, unhide HQ2, by omega, unhide HB2⟩
  case round =>
    clear H0 HQ0 HQ1 HQ2 HB2 hmk hz0
    obtain ⟨i, hi, rfl, hG, q0, q1, q2, hz, hB⟩ := hrel
    have HG := hide hG
    have HB := hide hB
    by_cases hlt : i < bs.length + 1
    · have hlt' : (i : Int) ≤ (bs.length : Int) := by omega
      have hlt2 : (i : Int) < (bs.length : Int) + 1 := by omega
      have d2 := World.rowIs.cell hG hlt
      have f2 := World.rowIs.frozen hG i
      clear hG hB
      have hFIN : ∀ x : Bool, x = (decide (i = 0) || !l) → ∀ W : World, W = wr.setCell ⟨w.heap.size + 1, i, none⟩ (.bool x) → ∃ i' : Nat, i' ≤ bs.length + 1 ∧ (Value.int .i64 ((i : Int) + 1)) = .int .i64 i' ∧ BR W bs.length (w.heap.size + 1) (frm l i') ∧ W.cell? ⟨w.heap.size, 0, none⟩ = some (.bool l) ∧ W.cell? ⟨w.heap.size, 1, none⟩ = some (.bool r) ∧ W.cell? ⟨w.heap.size, 2, none⟩ = some (.slice a xs.length cp) ∧ w.heap.size + 2 ≤ W.heap.size ∧ Below w.heap.size w W := by
        intro x hx W hW
        subst hW hx
        refine ⟨i + 1, by omega, by simp, ?_, ?_, ?_, ?_, by rw [sz_put]; exact hz, bput (unhide HB) (by omega) _⟩
        · refine World.rowIs.congr (World.rowIs.set (unhide HG) i _) (fun j hj => ?_)
          by_cases e : j = i
          · subst e; simp [frm]
          · have : (j < i + 1) ↔ (j < i) := by omega
            simp [e, this, frm]
        · rw [put_other (Or.inl (by omega))]; exact q0
        · rw [put_other (Or.inl (by omega))]; exact q1
        · rw [put_other (Or.inl (by omega))]; exact q2
      have HFIN := hide hFIN
      clear hFIN
      by_cases h0 : i = 0
      · subst h0
        have HR1 := hide (unhide HFIN true (by simp))
        clear HFIN
        go_wp2
        go_roundw
        case rel => exact unhide HR1 _ rfl
        case measure => simp [intOf]
      · have h0' : ((i : Int) == 0) = false := by rw [beq_eq_false_iff_ne]; omega
        have HR1 := hide (unhide HFIN (!l) (by simp [h0]))
        clear HFIN
        go_wp2
        go_roundw
        case rel => exact unhide HR1 _ rfl
        case measure => simp [intOf]; omega
    · have e : i = bs.length + 1 := by omega
      subst e
      clear hG hB
      have HE1 := hide (unhide HE (.slice a xs.length cp) (.slice la bs.length lc) (w.heap.size + 1) _ wr ((unhide Hv).below (unhide HB) (Nat.le_refl _)) hlen ((unhide Hlv).below (unhide HB) (Nat.le_refl _)) (unhide Hbs) (unhide HG))
      go_wp2_with fail
      refine (unhide HE1).mono ?_
      rintro e w1 ⟨g1, G1, rfl, hg1, hr1, he1, hb1⟩
      have HB1 : Hid (Below w.heap.size w w1) := (unhide HB).trans (hb1.mono (by omega))
      have q1' : w1.cell? ⟨w.heap.size, 1, none⟩ = some (.bool r) := (hb1.cell (p := ⟨w.heap.size, 1, none⟩) (by show w.heap.size < _; omega)).trans q1
      have HR1 := hide hr1
      have HM : Hid (MatchP bs.length l r R ↔ ∃ j, j ≤ bs.length ∧ G1 j = true ∧ (j = bs.length ∨ r = false)) := by
        constructor
        · rintro ⟨i, j, h1, h2, h3⟩
          have := unhide HR _ _ h2
          exact ⟨j, this.2, (he1 j this.2).2 ⟨i, (frm_all (by omega)).2 h1, h2⟩, h3⟩
        · rintro ⟨j, h1, h2, h3⟩
          obtain ⟨i, h4, h5⟩ := (he1 j h1).1 h2
          have := unhide HR _ _ h5
          exact ⟨i, j, (frm_all (by omega)).1 h4, h5, h3⟩
      have HM2 := HM
      clear hr1 he1 hb1 q0 q1 q2 HE1 HG HB
      go_wp2_with fail
      go_loop [9] (fun iv => ∃ j : Nat, j ≤ bs.length + 1 ∧ iv = .int .i64 j ∧ ∀ k, k < j → ¬ (G1 k = true ∧ (k = bs.length ∨ r = false))) (fun iv => bs.length + 1 - (intOf iv).toNat)
      case atStart => exact ⟨0, Nat.zero_le _, rfl, fun k hk => absurd hk (Nat.not_lt_zero _)⟩
      case round =>
        obtain ⟨j, hj, rfl, hno⟩ := hrel
        have HNO := hide hno
        clear hno
        by_cases hlt2 : j < bs.length + 1
        · have hlt' : (j : Int) ≤ (bs.length : Int) := by omega
          have hlt3 : (j : Int) < (bs.length : Int) + 1 := by omega
          have d1 := World.rowIs.cell (unhide HR1) hlt2
          have HYES : Hid (G1 j = true → (j = bs.length ∨ r = false) → RetB (.returned (.bool true)) (MatchP bs.length l r R) ∧ Below w.heap.size w w1) := fun h1 h2 => ⟨⟨true, rfl, by rw [unhide HM2]; exact ⟨fun _ => ⟨j, by omega, h1, h2⟩, fun _ => rfl⟩⟩, unhide HB1⟩
          have HNX : Hid (¬ (G1 j = true ∧ (j = bs.length ∨ r = false)) → ∀ k, k < j + 1 → ¬ (G1 k = true ∧ (k = bs.length ∨ r = false))) := fun h k hk => by
            by_cases e : k = j
            · subst e; exact h
            · exact unhide HNO k (by omega)
          cases hg : G1 j with
          | false =>
            rw [hg] at d1
            have HX := hide (unhide HNX (by rw [hg]; simp))
            clear hg HYES HNX
            go_wp2
            go_round
            case rel => exact ⟨j + 1, by omega, by go_num, unhide HX⟩
            case measure => simp [intOf]; omega
          | true =>
            rw [hg] at d1
            by_cases hjn : j = bs.length
            · have HX := hide (unhide HYES hg (Or.inl hjn))
              subst hjn
              clear hg HYES HNX
              go_wp2
              go_ret
              exact unhide HX
            · have hjn' : ((j : Int) == (bs.length : Int)) = false := by rw [beq_eq_false_iff_ne]; omega
              cases r with
              | false =>
                have HX := hide (unhide HYES hg (Or.inr rfl))
                clear hg HYES HNX hjn
                go_wp2
                go_ret
                exact unhide HX
              | true =>
                have HX := hide (unhide HNX (by rw [hg]; simp [hjn]))
                clear hg HYES HNX hjn
                go_wp2
                go_round
                case rel => exact ⟨j + 1, by omega, by go_num, unhide HX⟩
                case measure => simp [intOf]; omega
        · have HX : Hid (RetB (.returned (.bool false)) (MatchP bs.length l r R) ∧ Below w.heap.size w w1) := ⟨⟨false, rfl, by
            rw [unhide HM2]
            constructor
            · intro h; cases h
            · rintro ⟨k, h1, h2⟩; exact absurd h2 (unhide HNO k (by omega))⟩, unhide HB1⟩
          clear HNO
          go_wp2
          go_ret
          exact unhide HX
def MatchA (l r : Bool) (xs : List El) (bs : List Int) : Prop := ValidT xs ∧ bs.length ≤ 20000 ∧ ∃ R, SegL bs.length (hsL bs) xs R ∧ MatchP bs.length l r R
theorem matchA_iff {l r : Bool} {xs : List El} {bs : List Int} {R : Rl} (h1 : ValidT xs) (h2 : bs.length ≤ 20000) (h3 : SegL bs.length (hsL bs) xs R) : MatchA l r xs bs ↔ MatchP bs.length l r R :=
  ⟨fun ⟨_, _, _, h4, h5⟩ => SegL.one h4 h3 ▸ h5, fun h => ⟨h1, h2, R, h3, h⟩⟩
set_option maxHeartbeats 4000000 in
set_option maxRecDepth 100000 in
theorem specMatch_any (l r : Bool) (v lv : Value) (xs : List El) (bs : List Int) (w : World) (hv : ElsAt 0 w.heap.size w v xs) (hlv : SlAt mB 0 0 w.heap.size w lv bs) (hb : ∀ x ∈ bs, 0 ≤ x ∧ x ≤ 255) (hl : bs.length ≤ 1048576) :
    Calls Try.prog 7 #[.agg #[.bool l, .bool r, v], lv] w fun e w' => RetB e (MatchA l r xs bs) ∧ Below w.heap.size w w' := by
  obtain ⟨a, cp, rfl, -, -⟩ := id hv
  obtain ⟨la, lc, rfl, -, -⟩ := id hlv
  have Hv := hide hv
  have Hlv := hide hlv
  have Hb := hide hb
  have hb0 := below1 w (.cells #[.bool l, .bool r, .slice a xs.length cp] 25)
  have hz0 : (w.alloc (.cells #[.bool l, .bool r, .slice a xs.length cp] 25)).heap.size = w.heap.size + 1 := sz_alloc _ _
  have HC : Hid (∀ W, Below (w.heap.size + 1) (w.alloc (.cells #[.bool l, .bool r, .slice a xs.length cp] 25)) W → W.cell? ⟨w.heap.size, 0, none⟩ = some (.bool l) ∧ W.cell? ⟨w.heap.size, 1, none⟩ = some (.bool r) ∧ W.cell? ⟨w.heap.size, 2, none⟩ = some (.slice a xs.length cp)) := fun W hW =>
    ⟨(hW.cell (p := ⟨w.heap.size, 0, none⟩) (Nat.lt_succ_self _)).trans ((pushd_alloc w _).news 0 _ rfl), (hW.cell (p := ⟨w.heap.size, 1, none⟩) (Nat.lt_succ_self _)).trans ((pushd_alloc w _).news 1 _ rfl), (hW.cell (p := ⟨w.heap.size, 2, none⟩) (Nat.lt_succ_self _)).trans ((pushd_alloc w _).news 2 _ rfl)⟩
  clear hv hlv hb
  go_enter Try.func7, Try.ntmps7
  go_wp2_with fail
  refine (specValid_any l r _ xs _ ((unhide Hv).below hb0 (Nat.le_refl _))).mono ?_
  rintro e w1 ⟨hret, hb1⟩
  have HB1 : Hid (Below w.heap.size w w1) := hb0.trans (hb1.mono (by omega))
  obtain ⟨k0, k1, k2⟩ := unhide HC w1 (hb1.mono (by omega))
  clear hb1 hb0 HC hz0
  rcases hret.cases with ⟨rfl, hok⟩ | ⟨rfl, hbad⟩
  · by_cases hle : bs.length ≤ 20000
    · obtain ⟨R, hR, hE⟩ := en_valid bs hok
      have HM := hide (matchA_iff (l := l) (r := r) hok hle hR)
      have HL2 := hide (l2match_any l r (.slice a xs.length cp) (.slice la bs.length lc) xs bs R w1 ((unhide Hv).below (unhide HB1) (Nat.le_refl _)) hok.1.2 ((unhide Hlv).below (unhide HB1) (Nat.le_refl _)) ⟨hle, unhide Hb⟩ hR.2 hE)
      have hle' : (bs.length : Int) ≤ 20000 := by omega
      have hle2 : ¬ (20000 : Int) < (bs.length : Int) := by omega
      clear hok hR hE hret
      go_wp2_with fail
      refine (unhide HL2).mono ?_
      rintro e w2 ⟨⟨x, rfl, hx⟩, hb2⟩
      have HX : Hid (RetB (.returned (.bool x)) (MatchA l r xs bs) ∧ Below w.heap.size w w2) := ⟨⟨x, rfl, hx.trans (unhide HM).symm⟩, (unhide HB1).trans (hb2.mono (unhide HB1).size)⟩
      clear hx hb2 HL2 HM
      go_wp2
      go_ret
      exact unhide HX
    · have hgt : (20000 : Int) < (bs.length : Int) := by omega
      have HX : Hid (RetB (.returned (.bool false)) (MatchA l r xs bs) ∧ Below w.heap.size w w1) := ⟨⟨false, rfl, ⟨fun h => (by cases h), fun h => absurd h.2.1 hle⟩⟩, unhide HB1⟩
      clear hok hret
      go_wp2
      go_ret
      exact unhide HX
  · have HX : Hid (RetB (.returned (.bool false)) (MatchA l r xs bs) ∧ Below w.heap.size w w1) := ⟨⟨false, rfl, ⟨fun h => (by cases h), fun h => absurd h.1 hbad⟩⟩, unhide HB1⟩
    clear hbad hret
    go_wp2
    go_ret
    exact unhide HX
end Go.Proofs.Ytmafkoppadminaa
