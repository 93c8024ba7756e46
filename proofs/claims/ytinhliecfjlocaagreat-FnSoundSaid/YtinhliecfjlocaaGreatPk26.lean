import Derived.Test.YtinhliecfjlocaaGreatPk24
import Derived.Test.YtinhliecfjlocaaGreatPk20
import Derived.Test.YtinhliecfjlocaaGreatPk21
import Derived.Test.YtinhliecfjlocaaGreatPk14
import Derived.Test.YtinhliecfjlocaaGreatPk25
import Derived.Test.YtinhliecfjlocaaGreatPk22
import Derived.Test.YtinhliecfjlocaaGreatPk23
import Derived.Deep.CutBlock
import Derived.Deep.DeepCutAuto
namespace Go.Proofs.YtinhliecfjlocaaGreat
open Go.RowKit
def EnG (bs : List Int) (u : Value) (t : List El × Int) : Prop := SzV u t.2 ∧ SegM t.1 t.2 ∧ ∃ R, SegL bs.length (hsL bs) t.1 R ∧ EnS bs t.1 R
theorem closEn (bs : List Int) : Clos (EnG bs) := by
  refine ⟨fun h => h.1, ?_, ?_, ?_, ?_, ?_⟩
  · exact ⟨SzV.e, SegM.leaf (Or.inl rfl), _, SegL.e, en_e bs⟩
  · intro xs g hc hw
    exact ⟨SzV.s _ _ _ _, SegM.leaf (Or.inr rfl), _, SegL.s xs, en_s bs xs (by have := canon_len hc; omega)⟩
  · rintro u v l r ⟨hu, hs, A, a1, a2⟩ ⟨hv, hs2, B, b1, b2⟩
    exact ⟨SzV.cat hu hv, SegM.bin hs hs2 (Or.inl rfl), _, a1.cat b1, en_cat bs l.1 r.1 A B _ hs2 a1.2 b1.2 a2 b2⟩
  · rintro u v l r ⟨hu, hs, A, a1, a2⟩ ⟨hv, hs2, B, b1, b2⟩
    exact ⟨SzV.alt hu hv, SegM.bin hs hs2 (Or.inr rfl), _, a1.alt b1, en_alt bs l.1 r.1 A B _ hs2 a1.2 b1.2 a2 b2⟩
  · rintro u o mn mx ⟨hu, hs, A, a1, a2⟩ o2 o3 o4
    obtain ⟨m, rfl⟩ := Int.eq_ofNat_of_zero_le o2
    exact ⟨SzV.rep hu o2 o3 o4, SegM.rep hs rfl o2 o4, _, a1.rep _ mx, en_rep bs o.1 A m mx a1.2 a2 (by have := hs.ne; omega) (by omega) o4⟩
theorem en_valid (bs : List Int) {xs : List El} (h : ValidT xs) : ∃ R, SegL bs.length (hsL bs) xs R ∧ EnS bs xs R := by
  obtain ⟨u, c, -, -, h⟩ := valid_g (closEn bs) h
  exact h
def MatchP (n : Nat) (l r : Bool) (R : Rl) : Prop := ∃ i j, (i = 0 ∨ l = false) ∧ R i j ∧ (j = n ∨ r = false)
def frm (l : Bool) (k : Nat) : Nat → Bool := fun j => decide (j < k) && (decide (j = 0) || !l)
theorem frm_all {n : Nat} {l : Bool} {i : Nat} (hi : i ≤ n) : frm l (n + 1) i = true ↔ (i = 0 ∨ l = false) := by
  unfold frm
  simp [show i < n + 1 by omega]
set_option maxHeartbeats 8000000 in
set_option maxRecDepth 100000 in
theorem l2match_any (l r : Bool) (v lv : Value) (xs : List El) (bs : List Int) (R : Rl) (w : World) (hv : ElsAt 0 w.heap.size w v xs) (hlen : xs.length ≤ 3000) (hlv : SlAt mB 0 0 w.heap.size w lv bs) (hbs : BytesOk bs) (hR : RB bs.length R) (hE : EnS bs xs R) :
    Calls Tryz.prog 15 #[.agg #[.bool l, .bool r, v], lv] w fun e w' => RetB e (MatchP bs.length l r R) ∧ Below w.heap.size w w' := by
  obtain ⟨a, cp, rfl, -, -⟩ := id hv
  obtain ⟨la, lc, rfl, -, -⟩ := id hlv
  have hn := hbs.1
  have Hv := hide hv
  have Hlv := hide hlv
  have Hbs := hide hbs
  have HR := hide hR
  have HE := hide hE
  have hmk := run_make_row' (P := Tryz.prog) 79 4 (.bool false) 1 Tryz.underlying79 Tryz.zinBoolM rfl .i64 .i64 (bs.length + 1) (by omega) (by omega)
  simp only [Int.natCast_add, Int.natCast_one] at hmk
  have hb2 := below2 w (.cells #[.bool l, .bool r, .slice a xs.length cp] 25) (.cells (madeCells #[.bool false] (bs.length + 1)) 4)
  have h0 := br_made (w.alloc (.cells #[.bool l, .bool r, .slice a xs.length cp] 25)) bs.length
  rw [sz_alloc] at h0
  have hz0 : ((w.alloc (.cells #[.bool l, .bool r, .slice a xs.length cp] 25)).alloc (.cells (madeCells #[.bool false] (bs.length + 1)) 4)).heap.size = w.heap.size + 2 := by rw [sz_alloc, sz_alloc]
  have hq : ∀ k u, #[Value.bool l, .bool r, .slice a xs.length cp].toList[k]? = some u → ((w.alloc (.cells #[.bool l, .bool r, .slice a xs.length cp] 25)).alloc (.cells (madeCells #[.bool false] (bs.length + 1)) 4)).cell? ((⟨w.heap.size, 0, none⟩ : Addr).add k) = some u := fun k u hu =>
    ((below1 _ _).cell (p := (⟨w.heap.size, 0, none⟩ : Addr).add k) (by rw [sz_alloc]; cases k <;> exact Nat.lt_succ_self _)).trans ((pushd_alloc w _).news k u hu)
  have q0 := hq 0 _ rfl
  have q1 := hq 1 _ rfl
  have q2 := hq 2 _ rfl
  simp only [Addr.add] at q0 q1 q2
  have HQ0 := hide q0
  have HQ1 := hide q1
  have HQ2 := hide q2
  have H0 := hide h0
  have HB2 := hide hb2
  clear hv hlv hbs hR hE hb2 h0 hq q0 q1 q2
  go_enter Tryz.func15, Tryz.ntmps15
  go_wp2_with fail
  go_loopw [7] (fun iv wr => ∃ i : Nat, i ≤ bs.length + 1 ∧ iv = .int .i64 i ∧ BR wr bs.length (w.heap.size + 1) (frm l i) ∧ wr.cell? ⟨w.heap.size, 0, none⟩ = some (.bool l) ∧ wr.cell? ⟨w.heap.size, 1, none⟩ = some (.bool r) ∧ wr.cell? ⟨w.heap.size, 2, none⟩ = some (.slice a xs.length cp) ∧ w.heap.size + 2 ≤ wr.heap.size ∧ Below w.heap.size w wr) (fun iv _ => bs.length + 1 - (intOf iv).toNat)
  case atStart => exact ⟨0, Nat.zero_le _, rfl, (unhide H0).same (fun j _ => by simp [frm]), unhide HQ0, unhide HQ1, unhide HQ2, by omega, unhide HB2⟩
  case round =>
    clear H0 HQ0 HQ1 HQ2 HB2 hmk hz0
    obtain ⟨i, hi, rfl, hG, q0, q1, q2, hz, hB⟩ := hrel
    have HG := hide hG
    have HB := hide hB
    by_cases hlt : i < bs.length + 1
    · have hlt' : (i : Int) ≤ (bs.length : Int) := by omega
      have hlt2 : (i : Int) < (bs.length : Int) + 1 := by omega
      have d2 := World.rowIs.cell hG hlt
      have f2 := World.rowIs.frozen hG i
      clear hG hB
      have hFIN : ∀ x : Bool, x = (decide (i = 0) || !l) → ∀ W : World, W = wr.setCell ⟨w.heap.size + 1, i, none⟩ (.bool x) → ∃ i' : Nat, i' ≤ bs.length + 1 ∧ (Value.int .i64 ((i : Int) + 1)) = .int .i64 i' ∧ BR W bs.length (w.heap.size + 1) (frm l i') ∧ W.cell? ⟨w.heap.size, 0, none⟩ = some (.bool l) ∧ W.cell? ⟨w.heap.size, 1, none⟩ = some (.bool r) ∧ W.cell? ⟨w.heap.size, 2, none⟩ = some (.slice a xs.length cp) ∧ w.heap.size + 2 ≤ W.heap.size ∧ Below w.heap.size w W := by
        intro x hx W hW
        subst hW hx
        refine ⟨i + 1, by omega, by simp, ?_, ?_, ?_, ?_, by rw [sz_put]; exact hz, bput (unhide HB) (by omega) _⟩
        · refine World.rowIs.congr (World.rowIs.set (unhide HG) i _) (fun j hj => ?_)
          by_cases e : j = i
          · subst e; simp [frm]
          · have : (j < i + 1) ↔ (j < i) := by omega
            simp [e, this, frm]
        · rw [put_other (Or.inl (by omega))]; exact q0
        · rw [put_other (Or.inl (by omega))]; exact q1
        · rw [put_other (Or.inl (by omega))]; exact q2
      have HFIN := hide hFIN
      clear hFIN
      by_cases h0 : i = 0
      · subst h0
        have HR1 := hide (unhide HFIN true (by simp))
        clear HFIN
        go_wp2
        go_roundw
        case rel => exact unhide HR1 _ rfl
        case measure => simp [intOf]
      · have h0' : ((i : Int) == 0) = false := by rw [beq_eq_false_iff_ne]; omega
        have HR1 := hide (unhide HFIN (!l) (by simp [h0]))
        clear HFIN
        go_wp2
        go_roundw
        case rel => exact unhide HR1 _ rfl
        case measure => simp [intOf]; omega
    · have e : i = bs.length + 1 := by omega
      subst e
      clear hG hB
      have HE1 := hide (unhide HE (.slice a xs.length cp) (.slice la bs.length lc) (w.heap.size + 1) _ wr ((unhide Hv).below (unhide HB) (Nat.le_refl _)) hlen ((unhide Hlv).below (unhide HB) (Nat.le_refl _)) (unhide Hbs) (unhide HG))
      go_wp2_with fail
      refine (unhide HE1).mono ?_
      rintro e w1 ⟨g1, G1, rfl, hg1, hr1, he1, hb1⟩
      have HB1 : Hid (Below w.heap.size w w1) := (unhide HB).trans (hb1.mono (by omega))
      have q1' : w1.cell? ⟨w.heap.size, 1, none⟩ = some (.bool r) := (hb1.cell (p := ⟨w.heap.size, 1, none⟩) (by show w.heap.size < _; omega)).trans q1
      have HR1 := hide hr1
      have HM : Hid (MatchP bs.length l r R ↔ ∃ j, j ≤ bs.length ∧ G1 j = true ∧ (j = bs.length ∨ r = false)) := by
        constructor
        · rintro ⟨i, j, h1, h2, h3⟩
          have := unhide HR _ _ h2
          exact ⟨j, this.2, (he1 j this.2).2 ⟨i, (frm_all (by omega)).2 h1, h2⟩, h3⟩
        · rintro ⟨j, h1, h2, h3⟩
          obtain ⟨i, h4, h5⟩ := (he1 j h1).1 h2
          have := unhide HR _ _ h5
          exact ⟨i, j, (frm_all (by omega)).1 h4, h5, h3⟩
      have HM2 := HM
      clear hr1 he1 hb1 q0 q1 q2 HE1 HG HB
      go_wp2_with fail
      go_loop [9] (fun iv => ∃ j : Nat, j ≤ bs.length + 1 ∧ iv = .int .i64 j ∧ ∀ k, k < j → ¬ (G1 k = true ∧ (k = bs.length ∨ r = false))) (fun iv => bs.length + 1 - (intOf iv).toNat)
      case atStart => exact ⟨0, Nat.zero_le _, rfl, fun k hk => absurd hk (Nat.not_lt_zero _)⟩
      case round =>
        obtain ⟨j, hj, rfl, hno⟩ := hrel
        have HNO := hide hno
        clear hno
        by_cases hlt2 : j < bs.length + 1
        · have hlt' : (j : Int) ≤ (bs.length : Int) := by omega
          have hlt3 : (j : Int) < (bs.length : Int) + 1 := by omega
          have d1 := World.rowIs.cell (unhide HR1) hlt2
          have HYES : Hid (G1 j = true → (j = bs.length ∨ r = false) → RetB (.returned (.bool true)) (MatchP bs.length l r R) ∧ Below w.heap.size w w1) := fun h1 h2 => ⟨⟨true, rfl, by rw [unhide HM2]; exact ⟨fun _ => ⟨j, by omega, h1, h2⟩, fun _ => rfl⟩⟩, unhide HB1⟩
          have HNX : Hid (¬ (G1 j = true ∧ (j = bs.length ∨ r = false)) → ∀ k, k < j + 1 → ¬ (G1 k = true ∧ (k = bs.length ∨ r = false))) := fun h k hk => by
            by_cases e : k = j
            · subst e; exact h
            · exact unhide HNO k (by omega)
          cases hg : G1 j with
          | false =>
            rw [hg] at d1
            have HX := hide (unhide HNX (by rw [hg]; simp))
            clear hg HYES HNX
            go_wp2
            go_round
            case rel => exact ⟨j + 1, by omega, by go_num, unhide HX⟩
            case measure => simp [intOf]; omega
          | true =>
            rw [hg] at d1
            by_cases hjn : j = bs.length
            · have HX := hide (unhide HYES hg (Or.inl hjn))
              subst hjn
              clear hg HYES HNX
              go_wp2
              go_ret
              exact unhide HX
            · have hjn' : ((j : Int) == (bs.length : Int)) = false := by rw [beq_eq_false_iff_ne]; omega
              cases r with
              | false =>
                have HX := hide (unhide HYES hg (Or.inr rfl))
                clear hg HYES HNX hjn
                go_wp2
                go_ret
                exact unhide HX
              | true =>
                have HX := hide (unhide HNX (by rw [hg]; simp [hjn]))
                clear hg HYES HNX hjn
                go_wp2
                go_round
                case rel => exact ⟨j + 1, by omega, by go_num, unhide HX⟩
                case measure => simp [intOf]; omega
        · have HX : Hid (RetB (.returned (.bool false)) (MatchP bs.length l r R) ∧ Below w.heap.size w w1) := ⟨⟨false, rfl, by
            rw [unhide HM2]
            constructor
            · intro h; cases h
            · rintro ⟨k, h1, h2⟩; exact absurd h2 (unhide HNO k (by omega))⟩, unhide HB1⟩
          clear HNO
          go_wp2
          go_ret
          exact unhide HX
def MatchA (l r : Bool) (xs : List El) (bs : List Int) : Prop := ValidT xs ∧ bs.length ≤ 20000 ∧ ∃ R, SegL bs.length (hsL bs) xs R ∧ MatchP bs.length l r R
theorem matchA_iff {l r : Bool} {xs : List El} {bs : List Int} {R : Rl} (h1 : ValidT xs) (h2 : bs.length ≤ 20000) (h3 : SegL bs.length (hsL bs) xs R) : MatchA l r xs bs ↔ MatchP bs.length l r R :=
  ⟨fun ⟨_, _, _, h4, h5⟩ => SegL.one h4 h3 ▸ h5, fun h => ⟨h1, h2, R, h3, h⟩⟩
set_option maxHeartbeats 4000000 in
set_option maxRecDepth 100000 in
theorem specMatch_any (l r : Bool) (v lv : Value) (xs : List El) (bs : List Int) (w : World) (hv : ElsAt 0 w.heap.size w v xs) (hlv : SlAt mB 0 0 w.heap.size w lv bs) (hb : ∀ x ∈ bs, 0 ≤ x ∧ x ≤ 255) (hl : bs.length ≤ 1048576) :
    Calls Tryz.prog 5 #[.agg #[.bool l, .bool r, v], lv] w fun e w' => RetB e (MatchA l r xs bs) ∧ Below w.heap.size w w' := by
  obtain ⟨a, cp, rfl, -, -⟩ := id hv
  obtain ⟨la, lc, rfl, -, -⟩ := id hlv
  have Hv := hide hv
  have Hlv := hide hlv
  have Hb := hide hb
  have hb0 := below1 w (.cells #[.bool l, .bool r, .slice a xs.length cp] 25)
  have hz0 : (w.alloc (.cells #[.bool l, .bool r, .slice a xs.length cp] 25)).heap.size = w.heap.size + 1 := sz_alloc _ _
  have HC : Hid (∀ W, Below (w.heap.size + 1) (w.alloc (.cells #[.bool l, .bool r, .slice a xs.length cp] 25)) W → W.cell? ⟨w.heap.size, 0, none⟩ = some (.bool l) ∧ W.cell? ⟨w.heap.size, 1, none⟩ = some (.bool r) ∧ W.cell? ⟨w.heap.size, 2, none⟩ = some (.slice a xs.length cp)) := fun W hW =>
    ⟨(hW.cell (p := ⟨w.heap.size, 0, none⟩) (Nat.lt_succ_self _)).trans ((pushd_alloc w _).news 0 _ rfl), (hW.cell (p := ⟨w.heap.size, 1, none⟩) (Nat.lt_succ_self _)).trans ((pushd_alloc w _).news 1 _ rfl), (hW.cell (p := ⟨w.heap.size, 2, none⟩) (Nat.lt_succ_self _)).trans ((pushd_alloc w _).news 2 _ rfl)⟩
  clear hv hlv hb
  go_enter Tryz.func5, Tryz.ntmps5
  go_wp2_with fail
  refine (specValid_any l r _ xs _ ((unhide Hv).below hb0 (Nat.le_refl _))).mono ?_
  rintro e w1 ⟨hret, hb1⟩
  have HB1 : Hid (Below w.heap.size w w1) := hb0.trans (hb1.mono (by omega))
  obtain ⟨k0, k1, k2⟩ := unhide HC w1 (hb1.mono (by omega))
  clear hb1 hb0 HC hz0
  rcases hret.cases with ⟨rfl, hok⟩ | ⟨rfl, hbad⟩
  · by_cases hle : bs.length ≤ 20000
    · obtain ⟨R, hR, hE⟩ := en_valid bs hok
      have HM := hide (matchA_iff (l := l) (r := r) hok hle hR)
      have HL2 := hide (l2match_any l r (.slice a xs.length cp) (.slice la bs.length lc) xs bs R w1 ((unhide Hv).below (unhide HB1) (Nat.le_refl _)) hok.1.2 ((unhide Hlv).below (unhide HB1) (Nat.le_refl _)) ⟨hle, unhide Hb⟩ hR.2 hE)
      have hle' : (bs.length : Int) ≤ 20000 := by omega
      have hle2 : ¬ (20000 : Int) < (bs.length : Int) := by omega
      clear hok hR hE hret
      go_wp2_with fail
      refine (unhide HL2).mono ?_
      rintro e w2 ⟨⟨x, rfl, hx⟩, hb2⟩
      have HX : Hid (RetB (.returned (.bool x)) (MatchA l r xs bs) ∧ Below w.heap.size w w2) := ⟨⟨x, rfl, hx.trans (unhide HM).symm⟩, (unhide HB1).trans (hb2.mono (unhide HB1).size)⟩
      clear hx hb2 HL2 HM
      go_wp2
      go_ret
      exact unhide HX
    · have hgt : (20000 : Int) < (bs.length : Int) := by omega
      have HX : Hid (RetB (.returned (.bool false)) (MatchA l r xs bs) ∧ Below w.heap.size w w1) := ⟨⟨false, rfl, ⟨fun h => (by cases h), fun h => absurd h.2.1 hle⟩⟩, unhide HB1⟩
      clear hok hret
      go_wp2
      go_ret
      exact unhide HX
  · have HX : Hid (RetB (.returned (.bool false)) (MatchA l r xs bs) ∧ Below w.heap.size w w1) := ⟨⟨false, rfl, ⟨fun h => (by cases h), fun h => absurd h.1 hbad⟩⟩, unhide HB1⟩
    clear hbad hret
    go_wp2
    go_ret
    exact unhide HX
theorem sm_rep (l : List El) (mn mx : Int) (f : List Int → List Int × List Int) (hl : SmS l f) (hne : 0 < l.length) (o2 : 0 ≤ mn) (o3 : mn ≤ 250) (o4 : mx = -1 ∨ (mn ≤ mx ∧ mx ≤ 250)) : SmS (l ++ [⟨4, [], mn, mx⟩]) (repF f mn mx) := by
  intro N D lo v xs w h hx hD hlo hv hlen
  by_cases h1 : mx = -1
  · exact sm_rep_a l mn mx f hl hne o2 o3 N D lo v xs w h hx hD hlo hv hlen h1
  · have h2 := o4.resolve_left h1
    by_cases h3 : mn + xs.headD 0 % 3 < mx
    · exact sm_rep_b l mn mx f hl hne o2 o3 N D lo v xs w h hx hD hlo hv hlen ⟨h1, h2.2, h3⟩
    · exact sm_rep_c l mn mx f hl hne o2 o3 N D lo v xs w h hx hD hlo hv hlen ⟨h1, h2.1, h2.2, h3⟩
def SmG (u : Value) (t : List El × Int) : Prop := SzV u t.2 ∧ SegM t.1 t.2 ∧ ∃ f, SmS t.1 f
theorem closSm : Clos SmG := by
  refine ⟨fun h => h.1, ?_, ?_, ?_, ?_, ?_⟩
  · exact ⟨SzV.e, SegM.leaf (Or.inl rfl), _, sm_e⟩
  · intro xs g hc hw
    exact ⟨SzV.s _ _ _ _, SegM.leaf (Or.inr rfl), _, sm_s xs hc (canon_len hc)⟩
  · rintro u v l r ⟨hu, hs, f, a⟩ ⟨hv, hs2, g, b⟩
    exact ⟨SzV.cat hu hv, SegM.bin hs hs2 (Or.inl rfl), _, sm_cat l.1 r.1 _ f g hs2 a b⟩
  · rintro u v l r ⟨hu, hs, f, a⟩ ⟨hv, hs2, g, b⟩
    exact ⟨SzV.alt hu hv, SegM.bin hs hs2 (Or.inr rfl), _, sm_alt l.1 r.1 _ f g hs2 a b⟩
  · rintro u o mn mx ⟨hu, hs, f, a⟩ o2 o3 o4
    exact ⟨SzV.rep hu o2 o3 o4, SegM.rep hs rfl o2 o4, _, sm_rep o.1 mn mx f a (by have := hs.ne; omega) o2 o3 o4⟩
theorem sm_valid {xs : List El} (h : ValidT xs) : ∃ f, SmS xs f := by
  obtain ⟨u, c, -, -, h⟩ := valid_g closSm h
  exact h
theorem Cod.setB {xs : List Int} {j : Nat} {y : Int} (h : Cod xs) (h0 : 0 ≤ y) (h1 : y ≤ 255) : Cod (xs.set j y) := fun x hx => by
  rcases List.mem_or_eq_of_mem_set hx with q | q
  · exact h x q
  · omega
def MidL (N D M : Nat) (W0 : World) (S : List Int × List Int) (ov : Value) (wx : World) : Prop := ∃ bs zs, wx.ownsRow W0.heap.size 5 1 ov bs.length (bs.map mB) ∧ Cod bs ∧ bs.length ≤ M ∧ CdAt N D wx zs ∧ Cod zs ∧ Mv W0.heap.size D W0 wx ∧ S = (bs, zs)
def stp (b : Bool) (g : List Int → List Int × List Int) (s : List Int × List Int) : List Int × List Int := if b then (s.1 ++ (g s.2).1, (g s.2).2) else s
theorem stp_t {g : List Int → List Int × List Int} {bs zs b3 z3 : List Int} (h : g zs = (b3, z3)) : stp true g (bs, zs) = (bs ++ b3, z3) := by
  show (bs ++ (g zs).1, (g zs).2) = _
  rw [h]
def lnE (y : Int) (s : List Int × List Int) : List Int × List Int :=
  if y % 8 = 3 ∧ 0 < s.1.length then (s.1.set (s.2.headD 0 % (s.1.length : Int)).toNat (dB (s.2.tail.headD 0)), s.2.tail.tail) else if y % 8 = 4 ∧ 0 < s.1.length then (s.1.take (s.1.length - 1), s.2) else s
def dLine (l r bt : Bool) (g : List Int → List Int × List Int) (xs : List Int) : List Int × List Int :=
  if xs.headD 0 % 8 = 0 then stp true dJunk (dJunk xs.tail)
  else lnE (xs.headD 0) (stp (!r || decide (xs.headD 0 % 8 = 2)) dJunk (stp bt g (stp (!l || decide (xs.headD 0 % 8 = 1)) dJunk ([], xs.tail))))
set_option maxHeartbeats 16000000 in
set_option maxRecDepth 100000 in
theorem l2drawLine_any (N D lo : Nat) (l r bt : Bool) (g9 : List Int → List Int × List Int) (v : Value) (t : List El) (hg9 : ValidT t → SmS t g9) (hbt : bt = true ↔ (0 < t.length ∧ ValidT t)) (xs : List Int) (w : World) (h : CdAt N D w xs) (hx : Cod xs) (hD : D < lo) (hlo : lo ≤ w.heap.size) (hv : ElsAt lo w.heap.size w v t) (ht : t.length ≤ 1048576) :
    Calls Tryz.prog 13 #[.agg #[.bool l, .bool r, v], .pointer (some ⟨D, 0, none⟩)] w (Smp N D 80 (dLine l r bt g9 xs) w) := by
  obtain ⟨a, cp, rfl, -, -⟩ := id hv
  have H := hide h
  have HX := hide hx
  have hh := hx.head
  obtain ⟨y, hy⟩ : ∃ y, xs.headD 0 = y := ⟨_, rfl⟩
  rw [hy] at hh
  have HY := hide hy
  have HG9 := hide hg9
  have HBT := hide hbt
  obtain ⟨bl, hbl9⟩ : ∃ b, (!l || decide (y % 8 = 1)) = b := ⟨_, rfl⟩
  obtain ⟨br, hbr9⟩ : ∃ b, (!r || decide (y % 8 = 2)) = b := ⟨_, rfl⟩
  obtain ⟨S1, hS1⟩ : ∃ S, stp bl dJunk ([], xs.tail) = S := ⟨_, rfl⟩
  obtain ⟨S2, hS2⟩ : ∃ S, stp bt g9 S1 = S := ⟨_, rfl⟩
  obtain ⟨S3, hS3⟩ : ∃ S, stp br dJunk S2 = S := ⟨_, rfl⟩
  have HR : Hid (dLine l r bt g9 xs = if y % 8 = 0 then stp true dJunk (dJunk xs.tail) else lnE y S3) := hide (by unfold dLine; rw [hy, hbl9, hbr9, hS1, hS2, hS3])
  obtain ⟨R, hR9⟩ : ∃ R, dLine l r bt g9 xs = R := ⟨_, rfl⟩
  rw [hR9] at HR ⊢
  have HS1 := hide hS1
  have HS2 := hide hS2
  have HS3 := hide hS3
  have HBL := hide hbl9
  have HBR := hide hbr9
  clear hR9 hS1 hS2 hS3 hbl9 hbr9 hg9 hbt
  have HP := hide (Bx3.new w 25 (.bool l) (.bool r) (.slice a t.length cp))
  have HB0 := hide (below1 w (.cells #[.bool l, .bool r, .slice a t.length cp] 25))
  have hzW : (w.alloc (.cells #[.bool l, .bool r, .slice a t.length cp] 25)).heap.size = w.heap.size + 1 := sz_alloc _ _
  have HC0 := hide ((unhide H).keep (unhide HB0) (by omega))
  have HV0 := hide (Below.mv (unhide HB0) D)
  have HT0 := hide (hv.below (unhide HB0) (Nat.le_refl _))
  clear h hx hy hv
  go_enter Tryz.func13, Tryz.ntmps13
  go_wp2_with fail
  generalize w.alloc (.cells #[.bool l, .bool r, .slice a t.length cp] 25) = W0 at *
  refine (next_any N D xs W0 (unhide HC0) (unhide HX)).mono ?_
  rintro e w1 ⟨he, hc1, ho1⟩
  rw [unhide HY] at he
  subst he
  have hz1 : w1.heap.size = W0.heap.size := ho1.size
  have HM1 := hide (ho1.mv W0.heap.size)
  have HC1 := hide hc1
  clear hc1 ho1
  by_cases hk0 : y % 8 = 0
  · go_wp2_with fail
    refine (l2junk_any N D xs.tail w1 (unhide HC1) (unhide HX).tail (by omega)).mono ?_
    rintro e w2 ⟨v2, b2, z2, rfl, ho2, hcb2, hlb2, hcd2, hz2, hm2, hR2⟩
    obtain ⟨oa, oc, rfl⟩ := own_is ho2
    have hs2 := hm2.size
    have HO2 := hide ho2
    have HB2 := hide hcb2
    have HC2 := hide hcd2
    have HZ2 := hide hz2
    have HM2 := hide ((unhide HM1).trans (hm2.mono (by omega)))
    have HR2 := hide hR2
    clear ho2 hcb2 hcd2 hz2 hm2 hR2
    go_wp2_with fail
    refine (l2junk_any N D z2 w2 (unhide HC2) (unhide HZ2) (by omega)).mono ?_
    rintro e w3 ⟨v3, b3, z3, rfl, ho3, hcb3, hlb3, hcd3, hz3, hm3, hR3⟩
    obtain ⟨oa3, oc3, rfl⟩ := own_is ho3
    have hs3 := hm3.size
    have HO3 := hide ho3
    have HB3 := hide ((unhide HB2).app hcb3)
    have HC3 := hide hcd3
    have HZ3 := hide hz3
    have HM3 := hide ((unhide HM2).trans (hm3.mono (by omega)))
    have HP3 := hide (own_mv (unhide HO2) hm3 (Nat.le_refl _) (by omega))
    have HR3 : Hid (R = (b2 ++ b3, z3)) := hide (by rw [unhide HR, if_pos hk0, unhide HR2]; exact stp_t hR3)
    clear ho3 hcb3 hcd3 hz3 hm3 hR3
    go_wp2_with (at_builtin; refine app_moreB rfl _ _ rfl w.heap.size _ rfl b2 (by exact own_lo (unhide HP3) (by omega)) (by omega) _ rfl b3 (by exact own_rdB (unhide HO3) (by unfold maxLen; omega)) (by omega) ?_; intro v5 w5 hb5 ho5 hoc5)
    have hbl : (b2 ++ b3).length ≤ 80 := by rw [List.length_append]; omega
    have HF : Hid (Smp N D 80 R w (.returned v5) w5) := ⟨_, b2 ++ b3, z3, rfl, ho5, unhide HB3, hbl, (unhide HC3).keep hb5 (by omega), unhide HZ3, (unhide HV0).trans (((unhide HM3).mono (by omega)).trans (Below.mv hb5 D)), unhide HR3⟩
    obtain ⟨oa5, oc5, rfl⟩ := own_is ho5
    clear hb5 ho5
    go_wp2
    go_ret
    exact unhide HF
  · have BP1 := (unhide HP).blk ((unhide HM1).block w.heap.size (by omega) (by omega))
    obtain ⟨p0, p1, p2⟩ := BP1.facts
    clear BP1
    clear p0 p1 p2
    obtain ⟨wA, hwA⟩ : ∃ wA, w1 = wA := ⟨_, rfl⟩
    have hX1 : MidL N D 0 W0 ([], xs.tail) (.slice none 0 0) w1 := ⟨[], xs.tail, World.ownsRow_nil _ _ _ _, cod_nil, Nat.le_refl _, unhide HC1, (unhide HX).tail, unhide HM1, rfl⟩
    clear HC1 hwA
    have BP := (unhide HP).blk ((unhide HM1).block w.heap.size (by omega) (by omega))
    obtain ⟨p0, p1, p2⟩ := BP.facts
    clear BP
    go_upto_region 6 with fail
    go_cut [25] (fun bv wx => bv = .bool bl ∧ w1 = wx)
    case first =>
      cases l
      · go_wp2_with fail
        go_meet
        exact ⟨by rw [← unhide HBL]; rfl, rfl⟩
      · go_wp2_with fail
        go_meet
        exact ⟨by rw [← unhide HBL]; rfl, rfl⟩
    case rest =>
      obtain ⟨rfl, hwc⟩ := hcut
      subst hwc
      go_upto_if 25 with fail
      go_cut [6] (fun ov wx => MidL N D 5 W0 S1 ov wx)
      case first =>
        obtain ⟨bs, zs, hown, hcb, hlb, hcd, hz, hmv, hS⟩ := hX1
        rw [hS] at HS1
        clear hS
        have hszr := hmv.size
        have HO := hide hown
        have HCB := hide hcb
        have HCD := hide hcd
        have HZ := hide hz
        have HMV := hide hmv
        clear hown hcb hcd hz hmv
        cases bl
        · go_wp2_with fail
          go_meet
          exact ⟨bs, zs, unhide HO, unhide HCB, by omega, unhide HCD, unhide HZ, unhide HMV, by rw [← unhide HS1]; rfl⟩
        · go_wp2_with fail
          refine (l2junk_any N D zs w1 (unhide HCD) (unhide HZ) (by omega)).mono ?_
          rintro e w3 ⟨v3, b3, z3, rfl, ho3, hcb3, hlb3, hcd3, hz3, hm3, hR3⟩
          obtain ⟨oa3, oc3, rfl⟩ := own_is ho3
          have hs3 := hm3.size
          have HO3 := hide ho3
          have HB3 := hide ((unhide HCB).app hcb3)
          have HC3 := hide hcd3
          have HZ3 := hide hz3
          have HM3 := hide ((unhide HMV).trans (hm3.mono (by omega)))
          have HP3 := hide (own_mv (unhide HO) hm3 (Nat.le_refl _) (by omega))
          have HR3 := hide (stp_t (bs := bs) hR3)
          clear ho3 hcb3 hcd3 hz3 hm3 hR3
          go_wp2_with (at_builtin; refine app_moreB rfl _ _ rfl W0.heap.size _ rfl bs (by exact unhide HP3) (by omega) _ rfl b3 (by exact own_rdB (unhide HO3) (by unfold maxLen; omega)) (by omega) ?_; intro v5 w5 hb5 ho5 hoc5)
          have HF : Hid (MidL N D 5 W0 S1 v5 w5) := ⟨bs ++ b3, z3, ho5, unhide HB3, by rw [List.length_append]; omega, (unhide HC3).keep hb5 (by omega), unhide HZ3, (unhide HM3).trans (Below.mv hb5 D), by rw [← unhide HS1]; exact unhide HR3⟩
          obtain ⟨oa5, oc5, rfl⟩ := own_is ho5
          clear hb5 ho5
          go_wp2_with fail
          go_meet
          exact unhide HF
      case rest =>
        clear hX1 p0 p1 p2 HM1 hz1
        obtain ⟨bs, zs, hown, hcb, hlb, hcd, hz, hmv, hS⟩ := hcut
        rw [hS] at HS2
        clear hS
        have hszr := hmv.size
        have HO := hide hown
        have HCB := hide hcb
        have HCD := hide hcd
        have HZ := hide hz
        have HMV := hide hmv
        obtain ⟨oa, oc, rfl⟩ := own_is hown
        have BP := (unhide HP).blk (hmv.block w.heap.size (by omega) (by omega))
        obtain ⟨p0, p1, p2⟩ := BP.facts
        clear BP hown hcb hcd hz hmv
        go_upto_region 8 with fail
        go_cut [38] (fun bv wx => bv = .bool bt ∧ Below wc.heap.size wc wx)
        case first =>
          by_cases ht0 : ¬ 0 < t.length
          · have ht0' : ¬ (0 : Int) < (t.length : Int) := by omega
            go_wp2_with fail
            go_meet
            exact ⟨by rw [Bool.eq_false_iff.2 (fun q => ht0 ((unhide HBT).1 q).1)], Below.refl _ _⟩
          · have ht0' : (0 : Int) < (t.length : Int) := by omega
            have HTc := hide ((((unhide HT0).mv (unhide HMV) (Nat.le_refl _) hD)).mono (Nat.zero_le lo) (Nat.le_refl _))
            go_wp2_with fail
            refine (l1treeOK_any _ t _ (unhide HTc)).mono ?_
            rintro e w4 ⟨⟨b4, rfl, hb4⟩, hbl4⟩
            go_wp2_with fail
            go_meet
            exact ⟨by rw [show b4 = bt from Bool.eq_iff_iff.2 ⟨fun q => (unhide HBT).2 ⟨by omega, hb4.1 q⟩, fun q => hb4.2 ((unhide HBT).1 q).2⟩], hbl4⟩
        case rest =>
          obtain ⟨rfl, hb4⟩ := hcut
          clear p0 p1 p2
          have hs4 := hb4.size
          have HMV4 := hide ((unhide HMV).trans (Below.mv (hb4.mono hszr) D))
          have HO4 := hide (own_mv (unhide HO) (Below.mv hb4 D) (Nat.le_refl _) (by omega))
          have HCD4 := hide ((unhide HCD).keep hb4 (by omega))
          have BP := (unhide HP).blk ((unhide HMV4).block w.heap.size (by omega) (by omega))
          obtain ⟨p0, p1, p2⟩ := BP.facts
          have HT4 := hide ((unhide HT0).mv (unhide HMV4) (Nat.le_refl _) hD)
          clear BP hb4 HO HCD HMV
          go_upto_if 38 with fail
          go_cut [6] (fun ov wx => MidL N D 65 W0 S2 ov wx)
          case first =>
            cases bt
            · go_wp2_with fail
              go_meet
              exact ⟨bs, zs, unhide HO4, unhide HCB, by omega, unhide HCD4, unhide HZ, unhide HMV4, by rw [← unhide HS2]; rfl⟩
            · have hsm := unhide HG9 ((unhide HBT).1 rfl).2
              have HS := hide hsm
              clear hsm
              go_wp2_with fail
              refine (unhide HS N D lo _ zs _ (unhide HCD4) (unhide HZ) hD (by omega) (unhide HT4) ht).mono ?_
              rintro e w3 ⟨v3, b3, z3, rfl, ho3, hcb3, hlb3, hcd3, hz3, hm3, hR3⟩
              obtain ⟨oa3, oc3, rfl⟩ := own_is ho3
              have hs3 := hm3.size
              have HO3 := hide ho3
              have HB3 := hide ((unhide HCB).app hcb3)
              have HC3 := hide hcd3
              have HZ3 := hide hz3
              have HM3 := hide ((unhide HMV4).trans (hm3.mono (by omega)))
              have HP3 := hide (own_mv (unhide HO4) hm3 (Nat.le_refl _) (by omega))
              have HR3 := hide (stp_t (bs := bs) hR3)
              clear ho3 hcb3 hcd3 hz3 hm3 hR3
              go_wp2_with (at_builtin; refine app_moreB rfl _ _ rfl W0.heap.size _ rfl bs (by exact unhide HP3) (by omega) _ rfl b3 (by exact own_rdB (unhide HO3) (by unfold maxLen; omega)) (by omega) ?_; intro v5 w5 hb5 ho5 hoc5)
              have HF : Hid (MidL N D 65 W0 S2 v5 w5) := ⟨bs ++ b3, z3, ho5, unhide HB3, by rw [List.length_append]; omega, (unhide HC3).keep hb5 (by omega), unhide HZ3, (unhide HM3).trans (Below.mv hb5 D), by rw [← unhide HS2]; exact unhide HR3⟩
              obtain ⟨oa5, oc5, rfl⟩ := own_is ho5
              clear hb5 ho5
              go_wp2_with fail
              go_meet
              exact unhide HF
          case rest =>
            clear HO4 HCB HCD4 HZ HMV4 HT4 p0 p1 p2 hlb hszr hs4
            obtain ⟨bs, zs, hown, hcb, hlb, hcd, hz, hmv, hS⟩ := hcut
            rw [hS] at HS3
            clear hS
            have hszr := hmv.size
            have HO := hide hown
            have HCB := hide hcb
            have HCD := hide hcd
            have HZ := hide hz
            have HMV := hide hmv
            obtain ⟨oa, oc, rfl⟩ := own_is hown
            have BP := (unhide HP).blk (hmv.block w.heap.size (by omega) (by omega))
            obtain ⟨p0, p1, p2⟩ := BP.facts
            clear BP hown hcb hcd hz hmv
            go_upto_region 10 with fail
            go_cut [51] (fun bv wx => bv = .bool br ∧ wc = wx)
            case first =>
              cases r
              · go_wp2_with fail
                go_meet
                exact ⟨by rw [← unhide HBR]; rfl, rfl⟩
              · go_wp2_with fail
                go_meet
                exact ⟨by rw [← unhide HBR]; rfl, rfl⟩
            case rest =>
              obtain ⟨rfl, hwc⟩ := hcut
              subst hwc
              go_upto_if 51 with fail
              go_cut [6] (fun ov wx => MidL N D 70 W0 S3 ov wx)
              case first =>
                cases br
                · go_wp2_with fail
                  go_meet
                  exact ⟨bs, zs, unhide HO, unhide HCB, by omega, unhide HCD, unhide HZ, unhide HMV, by rw [← unhide HS3]; rfl⟩
                · go_wp2_with fail
                  refine (l2junk_any N D zs _ (unhide HCD) (unhide HZ) (by omega)).mono ?_
                  rintro e w3 ⟨v3, b3, z3, rfl, ho3, hcb3, hlb3, hcd3, hz3, hm3, hR3⟩
                  obtain ⟨oa3, oc3, rfl⟩ := own_is ho3
                  have hs3 := hm3.size
                  have HO3 := hide ho3
                  have HB3 := hide ((unhide HCB).app hcb3)
                  have HC3 := hide hcd3
                  have HZ3 := hide hz3
                  have HM3 := hide ((unhide HMV).trans (hm3.mono (by omega)))
                  have HP3 := hide (own_mv (unhide HO) hm3 (Nat.le_refl _) (by omega))
                  have HR3 := hide (stp_t (bs := bs) hR3)
                  clear ho3 hcb3 hcd3 hz3 hm3 hR3
                  go_wp2_with (at_builtin; refine app_moreB rfl _ _ rfl W0.heap.size _ rfl bs (by exact unhide HP3) (by omega) _ rfl b3 (by exact own_rdB (unhide HO3) (by unfold maxLen; omega)) (by omega) ?_; intro v5 w5 hb5 ho5 hoc5)
                  have HF : Hid (MidL N D 70 W0 S3 v5 w5) := ⟨bs ++ b3, z3, ho5, unhide HB3, by rw [List.length_append]; omega, (unhide HC3).keep hb5 (by omega), unhide HZ3, (unhide HM3).trans (Below.mv hb5 D), by rw [← unhide HS3]; exact unhide HR3⟩
                  obtain ⟨oa5, oc5, rfl⟩ := own_is ho5
                  clear hb5 ho5
                  go_wp2_with fail
                  go_meet
                  exact unhide HF
              case rest =>
                clear HO HCB HCD HZ HMV p0 p1 p2 hlb hszr
                obtain ⟨bs, zs, hown, hcb, hlb, hcd, hz, hmv, hS⟩ := hcut
                rw [hS, if_neg hk0] at HR
                clear hS
                have hszr := hmv.size
                have HO := hide hown
                have HCB := hide hcb
                have HCD := hide hcd
                have HZ := hide hz
                have HMV := hide hmv
                obtain ⟨oa, oc, rfl⟩ := own_is hown
                have BP := (unhide HP).blk (hmv.block w.heap.size (by omega) (by omega))
                obtain ⟨p0, p1, p2⟩ := BP.facts
                clear BP hown hcb hcd hz hmv
                by_cases hk3 : y % 8 = 3
                · by_cases hp : 0 < bs.length
                  · have hp' : (0 : Int) < (bs.length : Int) := by omega
                    have hp2 : ¬ (bs.length : Int) ≤ 0 := by omega
                    have hk4 : ¬ y % 8 = 4 := by omega
                    have hzh := (unhide HZ).head
                    obtain ⟨y2, hy2⟩ : ∃ y2, zs.headD 0 = y2 := ⟨_, rfl⟩
                    rw [hy2] at hzh
                    have HY2 := hide hy2
                    clear hy2
                    obtain ⟨j, hj⟩ : ∃ j : Nat, y2 % (bs.length : Int) = (j : Int) := ⟨(y2 % (bs.length : Int)).toNat, by have := Int.emod_nonneg y2 (b := (bs.length : Int)) (by omega); omega⟩
                    have hjl : j < bs.length := by have := Int.emod_lt_of_pos y2 (b := (bs.length : Int)) (by omega); omega
                    have hjl' : (j : Int) < (bs.length : Int) := by omega
                    obtain ⟨g, cap, heq, hbg⟩ := own_some (unhide HO) hp
                    injection heq with e1 e2 e3
                    subst e1
                    subst e3
                    clear e2
                    go_wp2_with fail
                    refine (next_any N D zs _ (unhide HCD) (unhide HZ)).mono ?_
                    rintro e w6 ⟨he, hc6, ho6⟩
                    rw [unhide HY2] at he
                    subst he
                    have hs6 : w6.heap.size = _ := ho6.size
                    have HO6 := hide (own_mv (unhide HO) (ho6.mv _) (Nat.le_refl _) (by omega))
                    have HC6 := hide hc6
                    have HM6 := hide ((unhide HMV).trans (ho6.mv W0.heap.size))
                    clear hc6 ho6
                    have hdb := dB_byte (y := zs.tail.headD 0)
                    obtain ⟨b, hb⟩ : ∃ b, dB (zs.tail.headD 0) = b := ⟨_, rfl⟩
                    rw [hb] at hdb
                    have HY3 := hide hb
                    clear hb
                    go_wp2_with fail
                    refine (l1drawByte_any N D zs.tail w6 (unhide HC6) (unhide HZ).tail).mono ?_
                    rintro e w7 ⟨he, hc7, ho7⟩
                    rw [unhide HY3] at he
                    subst he
                    have hs7 : w7.heap.size = w6.heap.size := ho7.size
                    have HO7 := hide (own_mv (unhide HO6) (ho7.mv _) (Nat.le_refl _) (by omega))
                    have HC7 := hide hc7
                    have HM7 := hide ((unhide HM6).trans (ho7.mv W0.heap.size))
                    obtain ⟨d7, f7⟩ := own_byte (unhide HO7) hjl
                    have HB7 : Hid (Below W0.heap.size w7 (w7.setCell ⟨g, j, none⟩ (.int .u8 b))) := bput (Below.refl W0.heap.size w7) hbg _
                    have HO8 := hide (own_setB (y := b) (unhide HO7) hjl)
                    clear hc7 ho7
                    go_wp2
                    go_ret
                    exact ⟨_, bs.set j b, zs.tail.tail, rfl, by rw [List.length_set]; exact own_lo (unhide HO8) (by omega), (unhide HCB).setB hdb.1 hdb.2, by rw [List.length_set]; omega, (unhide HC7).keep (unhide HB7) (by omega), (unhide HZ).tail.tail, (unhide HV0).trans (((unhide HM7).trans (Below.mv (unhide HB7) D)).mono (by omega)), by rw [unhide HR]; unfold lnE; rw [if_pos ⟨hk3, hp⟩]; show (bs.set (zs.headD 0 % (bs.length : Int)).toNat (dB (zs.tail.headD 0)), zs.tail.tail) = _; rw [unhide HY2, hj, Int.toNat_natCast, unhide HY3]⟩
                  · have hp' : ¬ (0 : Int) < (bs.length : Int) := by omega
                    have hp2 : (bs.length : Int) ≤ 0 := by omega
                    have hk4 : ¬ y % 8 = 4 := by omega
                    go_wp2
                    go_ret
                    exact ⟨_, bs, zs, rfl, own_lo (unhide HO) (by omega), unhide HCB, by omega, unhide HCD, unhide HZ, (unhide HV0).trans ((unhide HMV).mono (by omega)), by rw [unhide HR]; unfold lnE; rw [if_neg (fun q => hp q.2), if_neg (fun q => hp q.2)]⟩
                · by_cases hk4 : y % 8 = 4
                  · by_cases hp : 0 < bs.length
                    · have hp' : (0 : Int) < (bs.length : Int) := by omega
                      have hp2 : ¬ (bs.length : Int) ≤ 0 := by omega
                      have hcc := own_capP (unhide HO) (by omega)
                      have hcm := hcc.2
                      unfold maxLen at hcm
                      obtain ⟨q, hq⟩ : ∃ q, bs.length = q + 1 := ⟨bs.length - 1, by omega⟩
                      have HT := hide (own_take (unhide HO) (m := q) (by omega) (by omega))
                      rw [hq] at hp' hp2 hcc ⊢
                      go_wp2
                      go_ret
                      exact ⟨_, bs.take q, zs, rfl, by rw [List.length_take, Nat.min_eq_left (by omega), List.map_take]; exact own_lo (unhide HT) (by omega), (unhide HCB).take q, by rw [List.length_take]; omega, unhide HCD, unhide HZ, (unhide HV0).trans ((unhide HMV).mono (by omega)), by rw [unhide HR]; unfold lnE; rw [if_neg (fun q => hk3 q.1), if_pos ⟨hk4, hp⟩]; show (bs.take (bs.length - 1), zs) = _; rw [hq, Nat.add_sub_cancel]⟩
                    · have hp' : ¬ (0 : Int) < (bs.length : Int) := by omega
                      have hp2 : (bs.length : Int) ≤ 0 := by omega
                      go_wp2
                      go_ret
                      exact ⟨_, bs, zs, rfl, own_lo (unhide HO) (by omega), unhide HCB, by omega, unhide HCD, unhide HZ, (unhide HV0).trans ((unhide HMV).mono (by omega)), by rw [unhide HR]; unfold lnE; rw [if_neg (fun q => hp q.2), if_neg (fun q => hp q.2)]⟩
                  · go_wp2
                    go_ret
                    exact ⟨_, bs, zs, rfl, own_lo (unhide HO) (by omega), unhide HCB, by omega, unhide HCD, unhide HZ, (unhide HV0).trans ((unhide HMV).mono (by omega)), by rw [unhide HR]; unfold lnE; rw [if_neg (fun q => hk3 q.1), if_neg (fun q => hk4 q.1)]⟩
theorem l2drawLine_ex (l r : Bool) (t : List El) : ∃ F : List Int → List Int × List Int, ∀ (N D lo : Nat) (v : Value) (xs : List Int) (w : World), CdAt N D w xs → Cod xs → D < lo → lo ≤ w.heap.size → ElsAt lo w.heap.size w v t → t.length ≤ 1048576 →
    Calls Tryz.prog 13 #[.agg #[.bool l, .bool r, v], .pointer (some ⟨D, 0, none⟩)] w (Smp N D 80 (F xs) w) := by
  obtain ⟨g, hg⟩ : ∃ g, ValidT t → SmS t g := by
    by_cases h : ValidT t
    · obtain ⟨g, hg⟩ := sm_valid h
      exact ⟨g, fun _ => hg⟩
    · exact ⟨eF, fun q => absurd q h⟩
  obtain ⟨bt, hbt⟩ : ∃ bt : Bool, bt = true ↔ (0 < t.length ∧ ValidT t) := by
    by_cases h : 0 < t.length ∧ ValidT t
    · exact ⟨true, fun _ => h, fun _ => rfl⟩
    · exact ⟨false, fun q => Bool.noConfusion q, fun q => absurd q h⟩
  exact ⟨dLine l r bt g, fun N D lo v xs w h1 h2 h3 h4 h5 h6 => l2drawLine_any N D lo l r bt g v t hg hbt xs w h1 h2 h3 h4 h5 h6⟩
def dAnyR (xs : List Int) : List Int := if xs.headD 0 % 10 = 0 then (dLim xs.tail.tail).2 else if xs.headD 0 % 10 < 3 then (dSpoil (dGood xs.tail).1 (dGood xs.tail).2).2 else (dGood xs.tail).2
set_option maxHeartbeats 16000000 in
set_option maxRecDepth 100000 in
theorem l1drawAny_a (N D lo : Nat) (xs : List Int) (w : World) (h : CdAt N D w xs) (hx : Cod xs) (hD : D < lo) (hlo : lo ≤ w.heap.size) (hk : xs.headD 0 % 10 = 0) :
    Calls Tryz.prog 12 #[.pointer (some ⟨D, 0, none⟩)] w fun e w' => (∃ v, e = .returned (.agg #[.bool (decide (xs.tail.headD 0 % 2 = 0)), .bool (decide (xs.tail.headD 0 % 3 = 0)), v]) ∧ ElsAt lo w'.heap.size w' v ((dLim xs.tail.tail).1)) ∧ (∃ zs, zs = (dLim xs.tail.tail).2 ∧ CdAt N D w' zs ∧ Cod zs) ∧ Mv w.heap.size D w w' := by
  have H := hide h
  have HX := hide hx
  have hh := hx.head
  have hh2 := hx.tail.head
  obtain ⟨y, hy⟩ : ∃ y, xs.headD 0 = y := ⟨_, rfl⟩
  obtain ⟨y2, hy2⟩ : ∃ y, xs.tail.headD 0 = y := ⟨_, rfl⟩
  rw [hy] at hh hk
  rw [hy2] at hh2 ⊢
  obtain ⟨A, hA⟩ : ∃ A, dLim xs.tail.tail = A := ⟨_, rfl⟩
  rw [hA]
  have HA := hide hA
  clear hA
  have HY := hide hy
  have HY2 := hide hy2
  clear hy hy2 h hx
  have HP := hide (Bx3.new w 25 (.bool false) (.bool false) (.slice none 0 0))
  have HB0 := hide (below1 w (.cells #[.bool false, .bool false, .slice none 0 0] 25))
  have hzW : (w.alloc (.cells #[.bool false, .bool false, .slice none 0 0] 25)).heap.size = w.heap.size + 1 := sz_alloc _ _
  have HC0 := hide ((unhide H).keep (unhide HB0) (by omega))
  have HV0 := hide (Below.mv (unhide HB0) D)
  go_enter Tryz.func12, Tryz.ntmps12
  go_wp2_with fail
  generalize w.alloc (.cells #[.bool false, .bool false, .slice none 0 0] 25) = W0 at *
  refine (next_any N D xs W0 (unhide HC0) (unhide HX)).mono ?_
  rintro e w1 ⟨he, hc1, ho1⟩
  rw [unhide HY] at he
  subst he
  have hz1 : w1.heap.size = W0.heap.size := ho1.size
  have HC1 := hide hc1
  have HM1 := hide (ho1.mv (w.heap.size + 1))
  clear hc1 ho1
  go_wp2_with fail
  refine (next_any N D xs.tail w1 (unhide HC1) (unhide HX).tail).mono ?_
  rintro e w2 ⟨he, hc2, ho2⟩
  rw [unhide HY2] at he
  subst he
  have hz2 : w2.heap.size = w1.heap.size := ho2.size
  have HC2 := hide hc2
  have HM2 := hide ((unhide HM1).trans (ho2.mv _))
  clear hc2 ho2
  go_wp2_with fail
  refine (l1drawLimit_any N D (w.heap.size + 1) xs.tail.tail w2 (unhide HC2) (unhide HX).tail.tail (by omega) (by omega)).mono ?_
  rw [unhide HA]
  rintro e w3 ⟨⟨v3, rfl, hv3⟩, hc3, hm3⟩
  have HT3 := hide hv3
  obtain ⟨a3, c3, rfl, -⟩ := hv3
  have hz3 := hm3.size
  have HM3 := hide ((unhide HM2).trans (hm3.mono (by omega)))
  have HC3 := hide hc3
  have HCc : Hid (Cod A.2) := by rw [← unhide HA]; exact (unhide HX).tail.tail.tail.tail
  clear hc3 hm3
  have BP := (unhide HP).blk ((unhide HM3).block w.heap.size (by omega) (by omega))
  obtain ⟨p0, p1, p2⟩ := BP.facts
  have z0 := World.rowIs.frozen BP 0
  have z1 := World.rowIs.frozen BP 1
  have z2 := World.rowIs.frozen BP 2
  clear BP
  go_wp2
  refine bodyPost_ret (v := .agg #[.bool (decide (y2 % 2 = 0)), .bool (decide (y2 % 3 = 0)), .slice a3 A.1.length c3]) (by simp [results, Tryz.results12, go_sem, p0, p1, p2]; exact ⟨rfl, rfl⟩) rfl ⟨⟨_, rfl, ?_⟩, ⟨_, rfl, ?_, unhide HCc⟩, ?_⟩
  · exact (unhide HT3).put3 (lo := lo) (by omega)
  · exact (unhide HC3).keep (bput (bput (bput (Below.refl w.heap.size w3) (Nat.le_refl _) _) (Nat.le_refl _) _) (Nat.le_refl _) _) (by omega)
  · exact (unhide HV0).trans (((unhide HM3).mono (by omega)).trans (Below.mv (bput (bput (bput (Below.refl w.heap.size w3) (Nat.le_refl _) _) (Nat.le_refl _) _) (Nat.le_refl _) _) D))
set_option maxHeartbeats 16000000 in
set_option maxRecDepth 100000 in
theorem l1drawAny_b (N D lo : Nat) (xs : List Int) (w : World) (h : CdAt N D w xs) (hx : Cod xs) (hD : D < lo) (hlo : lo ≤ w.heap.size) (hk : 3 ≤ xs.headD 0 % 10) :
    Calls Tryz.prog 12 #[.pointer (some ⟨D, 0, none⟩)] w fun e w' => (∃ v, e = .returned (.agg #[.bool (decide (xs.tail.headD 0 % 4 = 1)), .bool (decide (5 < xs.tail.headD 0 % 8)), v]) ∧ ElsAt lo w'.heap.size w' v ((dGood xs.tail).1)) ∧ (∃ zs, zs = (dGood xs.tail).2 ∧ CdAt N D w' zs ∧ Cod zs) ∧ Mv w.heap.size D w w' := by
  have H := hide h
  have HX := hide hx
  have hh := hx.head
  have hh2 := hx.tail.head
  obtain ⟨y, hy⟩ : ∃ y, xs.headD 0 = y := ⟨_, rfl⟩
  obtain ⟨y2, hy2⟩ : ∃ y, xs.tail.headD 0 = y := ⟨_, rfl⟩
  rw [hy] at hh hk
  rw [hy2] at hh2 ⊢
  obtain ⟨A, hA⟩ : ∃ A, dGood xs.tail = A := ⟨_, rfl⟩
  obtain ⟨bl, hbl⟩ : ∃ b, decide (y2 % 4 = 1) = b := ⟨_, rfl⟩
  obtain ⟨br, hbr⟩ : ∃ b, decide (5 < y2 % 8) = b := ⟨_, rfl⟩
  have HAD := hide (dGood_dt xs.tail)
  have HAC := hide (dGood_cod hx.tail)
  rw [hA] at HAD HAC
  rw [hA, hbl, hbr]
  have HA := hide hA
  have HBL := hide hbl
  have HBR := hide hbr
  clear hA hbl hbr
  have HY := hide hy
  have HY2 := hide hy2
  clear hy hy2 h hx
  have HP := hide (Bx3.new w 25 (.bool false) (.bool false) (.slice none 0 0))
  have HB0 := hide (below1 w (.cells #[.bool false, .bool false, .slice none 0 0] 25))
  have hzW : (w.alloc (.cells #[.bool false, .bool false, .slice none 0 0] 25)).heap.size = w.heap.size + 1 := sz_alloc _ _
  have HC0 := hide ((unhide H).keep (unhide HB0) (by omega))
  have HV0 := hide (Below.mv (unhide HB0) D)
  go_enter Tryz.func12, Tryz.ntmps12
  go_wp2_with fail
  generalize w.alloc (.cells #[.bool false, .bool false, .slice none 0 0] 25) = W0 at *
  refine (next_any N D xs W0 (unhide HC0) (unhide HX)).mono ?_
  rintro e w1 ⟨he, hc1, ho1⟩
  rw [unhide HY] at he
  subst he
  have hz1 : w1.heap.size = W0.heap.size := ho1.size
  have HC1 := hide hc1
  have HM1 := hide (ho1.mv (w.heap.size + 1))
  clear hc1 ho1
  have k0 : ¬ y % 10 = 0 := by omega
  have k3 : ¬ y % 10 < 3 := by omega
  go_wp2_with fail
  refine (l1drawGood_any N D (w.heap.size + 1) xs.tail w1 (unhide HC1) (unhide HX).tail (by omega) (by omega)).mono ?_
  rw [unhide HY2, unhide HA, unhide HBL, unhide HBR]
  rintro e w2 ⟨⟨v2, rfl, hv2⟩, hc2, hm2⟩
  have HT2 := hide hv2
  obtain ⟨a2, c2, rfl, -⟩ := hv2
  have hz2 := hm2.size
  have HC2 := hide hc2
  have HM2 := hide ((unhide HM1).trans (hm2.mono (by omega)))
  clear hc2 hm2
  have BP := (unhide HP).blk ((unhide HM2).block w.heap.size (by omega) (by omega))
  obtain ⟨p0, p1, p2⟩ := BP.facts
  have z0 := World.rowIs.frozen BP 0
  have z1 := World.rowIs.frozen BP 1
  have z2 := World.rowIs.frozen BP 2
  clear BP
  have hlt9 : w.heap.size < w2.heap.size := by omega
  have hne9 : ¬ w.heap.size = w2.heap.size := by omega
  go_wp2
  refine bodyPost_ret (v := .agg #[.bool bl, .bool br, .slice a2 A.1.length c2]) (by simp [results, Tryz.results12, go_sem, p0, p1, p2, hlt9]) rfl ⟨⟨_, rfl, ?_⟩, ⟨_, rfl, ?_, unhide HAC⟩, ?_⟩
  · exact ((unhide HT2).put3 (lo := lo) (by omega)).below (below1 _ _) (Nat.le_refl _)
  · exact ((unhide HC2).keep (bput (bput (bput (Below.refl w.heap.size w2) (Nat.le_refl _) _) (Nat.le_refl _) _) (Nat.le_refl _) _) (by omega)).keep (below1 _ _) (by simp only [sz_put]; omega)
  · exact (unhide HV0).trans (((unhide HM2).mono (by omega)).trans ((Below.mv (bput (bput (bput (Below.refl w.heap.size w2) (Nat.le_refl _) _) (Nat.le_refl _) _) (Nat.le_refl _) _) D).trans (bmv (below1 _ _) D (by simp only [sz_put]; omega))))
set_option maxHeartbeats 16000000 in
set_option maxRecDepth 100000 in
theorem l1drawAny_c (N D lo : Nat) (xs : List Int) (w : World) (h : CdAt N D w xs) (hx : Cod xs) (hD : D < lo) (hlo : lo ≤ w.heap.size) (hk : 0 < xs.headD 0 % 10 ∧ xs.headD 0 % 10 < 3) :
    Calls Tryz.prog 12 #[.pointer (some ⟨D, 0, none⟩)] w fun e w' => (∃ v, e = .returned (.agg #[.bool (decide (xs.tail.headD 0 % 4 = 1)), .bool (decide (5 < xs.tail.headD 0 % 8)), v]) ∧ ElsAt lo w'.heap.size w' v ((dSpoil (dGood xs.tail).1 (dGood xs.tail).2).1)) ∧ (∃ zs, zs = (dSpoil (dGood xs.tail).1 (dGood xs.tail).2).2 ∧ CdAt N D w' zs ∧ Cod zs) ∧ Mv w.heap.size D w w' := by
  have H := hide h
  have HX := hide hx
  have hh := hx.head
  have hh2 := hx.tail.head
  obtain ⟨y, hy⟩ : ∃ y, xs.headD 0 = y := ⟨_, rfl⟩
  obtain ⟨y2, hy2⟩ : ∃ y, xs.tail.headD 0 = y := ⟨_, rfl⟩
  rw [hy] at hh hk
  rw [hy2] at hh2 ⊢
  obtain ⟨A, hA⟩ : ∃ A, dGood xs.tail = A := ⟨_, rfl⟩
  obtain ⟨bl, hbl⟩ : ∃ b, decide (y2 % 4 = 1) = b := ⟨_, rfl⟩
  obtain ⟨br, hbr⟩ : ∃ b, decide (5 < y2 % 8) = b := ⟨_, rfl⟩
  have HAD := hide (dGood_dt xs.tail)
  have HAC := hide (dGood_cod hx.tail)
  rw [hA] at HAD HAC
  rw [hA, hbl, hbr]
  obtain ⟨B, hB⟩ : ∃ B, dSpoil A.1 A.2 = B := ⟨_, rfl⟩
  rw [hB]
  have HB := hide hB
  clear hB
  have HA := hide hA
  have HBL := hide hbl
  have HBR := hide hbr
  clear hA hbl hbr
  have HY := hide hy
  have HY2 := hide hy2
  clear hy hy2 h hx
  have HP := hide (Bx3.new w 25 (.bool false) (.bool false) (.slice none 0 0))
  have HB0 := hide (below1 w (.cells #[.bool false, .bool false, .slice none 0 0] 25))
  have hzW : (w.alloc (.cells #[.bool false, .bool false, .slice none 0 0] 25)).heap.size = w.heap.size + 1 := sz_alloc _ _
  have HC0 := hide ((unhide H).keep (unhide HB0) (by omega))
  have HV0 := hide (Below.mv (unhide HB0) D)
  go_enter Tryz.func12, Tryz.ntmps12
  go_wp2_with fail
  generalize w.alloc (.cells #[.bool false, .bool false, .slice none 0 0] 25) = W0 at *
  refine (next_any N D xs W0 (unhide HC0) (unhide HX)).mono ?_
  rintro e w1 ⟨he, hc1, ho1⟩
  rw [unhide HY] at he
  subst he
  have hz1 : w1.heap.size = W0.heap.size := ho1.size
  have HC1 := hide hc1
  have HM1 := hide (ho1.mv (w.heap.size + 1))
  clear hc1 ho1
  have k0 : ¬ y % 10 = 0 := by omega
  have k3 : y % 10 < 3 := by omega
  go_wp2_with fail
  refine (l1drawGood_any N D (w.heap.size + 1) xs.tail w1 (unhide HC1) (unhide HX).tail (by omega) (by omega)).mono ?_
  rw [unhide HY2, unhide HA, unhide HBL, unhide HBR]
  rintro e w2 ⟨⟨v2, rfl, hv2⟩, hc2, hm2⟩
  have HT2 := hide hv2
  obtain ⟨a2, c2, rfl, -⟩ := hv2
  have hz2 := hm2.size
  have HC2 := hide hc2
  have HM2 := hide ((unhide HM1).trans (hm2.mono (by omega)))
  clear hc2 hm2
  have HQ := hide (Bx3.new w2 25 (.bool bl) (.bool br) (.slice a2 A.1.length c2))
  have HB3 := hide (below1 w2 (.cells #[.bool bl, .bool br, .slice a2 A.1.length c2] 25))
  have hz3 : (w2.alloc (.cells #[.bool bl, .bool br, .slice a2 A.1.length c2] 25)).heap.size = w2.heap.size + 1 := sz_alloc _ _
  go_wp2_with fail
  generalize w2.alloc (.cells #[.bool bl, .bool br, .slice a2 A.1.length c2] 25) = W3 at *
  have HC3 := hide ((unhide HC2).keep (unhide HB3) (by omega))
  have HM3 := hide ((unhide HM2).trans (bmv (unhide HB3) D (by omega)))
  have HT3 := hide ((unhide HT2).below (unhide HB3) (Nat.le_refl _))
  have hAl : 0 < A.1.length := by obtain ⟨c9, h9, -⟩ := (unhide HAD).seg; exact h9.ne
  refine (l1spoil_any N D (w.heap.size + 1) _ A.1 A.2 W3 (unhide HC3) (unhide HAC) (by omega) (by omega) (unhide HT3) (unhide HAD).nl hAl).mono ?_
  rw [unhide HB]
  rintro e w4 ⟨⟨v4, rfl, hv4⟩, hc4, hm4⟩
  have HT4 := hide hv4
  obtain ⟨a4, c4, rfl, -⟩ := hv4
  have hz4 := hm4.size
  have HM4 := hide ((unhide HM3).trans (hm4.mono (by omega)))
  have BQ := (unhide HQ).blk (hm4.block w2.heap.size (by omega) (by omega))
  obtain ⟨r0, r1, r2⟩ := BQ.facts
  have u0 := World.rowIs.frozen BQ 0
  have u1 := World.rowIs.frozen BQ 1
  have u2 := World.rowIs.frozen BQ 2
  have HC4 := hide hc4
  have HCc : Hid (Cod B.2) := by
    rw [← unhide HB]
    show Cod (if A.2.headD 0 % 12 = 2 then A.2.tail.tail.tail else A.2.tail.tail)
    split
    · exact (unhide HAC).tail.tail.tail
    · exact (unhide HAC).tail.tail
  clear hc4 hm4 BQ
  have BP := (unhide HP).blk ((unhide HM4).block w.heap.size (by omega) (by omega))
  obtain ⟨p0, p1, p2⟩ := BP.facts
  have z0 := World.rowIs.frozen BP 0
  have z1 := World.rowIs.frozen BP 1
  have z2 := World.rowIs.frozen BP 2
  clear BP
  have hne9 : ¬ w.heap.size = w2.heap.size := by omega
  have hne8 : ¬ w2.heap.size = w.heap.size := by omega
  go_wp2
  refine bodyPost_ret (v := .agg #[.bool bl, .bool br, .slice a4 B.1.length c4]) (by simp [results, Tryz.results12, go_sem, p0, p1, p2]) rfl ⟨⟨_, rfl, ?_⟩, ⟨_, rfl, ?_, unhide HCc⟩, ?_⟩
  · have h5 : ElsAt (w.heap.size + 1) (w4.setCell ⟨w2.heap.size, 2, none⟩ (.slice a4 B.1.length c4)).heap.size (w4.setCell ⟨w2.heap.size, 2, none⟩ (.slice a4 B.1.length c4)) (.slice a4 B.1.length c4) B.1 := ((unhide HT4).same ((Same.refl _ _ _).setCell (Or.inl (by omega)) _)).mono (by omega) (by rw [sz_put]; exact Nat.le_refl _)
    exact h5.put3 (lo := lo) (by omega)
  · exact (unhide HC4).keep (bput (bput (bput (bput (Below.refl w.heap.size w4) (by omega) _) (Nat.le_refl _) _) (Nat.le_refl _) _) (Nat.le_refl _) _) (by omega)
  · exact (unhide HV0).trans (((unhide HM4).mono (by omega)).trans (Below.mv (bput (bput (bput (bput (Below.refl w.heap.size w4) (by omega) _) (Nat.le_refl _) _) (Nat.le_refl _) _) (Nat.le_refl _) _) D))
theorem l1drawAny_any (N D lo : Nat) (xs : List Int) (w : World) (h : CdAt N D w xs) (hx : Cod xs) (hD : D < lo) (hlo : lo ≤ w.heap.size) :
    Calls Tryz.prog 12 #[.pointer (some ⟨D, 0, none⟩)] w fun e w' => (∃ v, e = .returned (.agg #[.bool (dAny xs).1.1, .bool (dAny xs).1.2, v]) ∧ ElsAt lo w'.heap.size w' v (dAny xs).2) ∧ (∃ zs, zs = dAnyR xs ∧ CdAt N D w' zs ∧ Cod zs) ∧ Mv w.heap.size D w w' := by
  have hh := hx.head
  unfold dAny dAnyR
  by_cases h0 : xs.headD 0 % 10 = 0
  · rw [if_pos h0, if_pos h0]; exact l1drawAny_a N D lo xs w h hx hD hlo h0
  · rw [if_neg h0, if_neg h0]
    by_cases h3 : xs.headD 0 % 10 < 3
    · rw [if_pos h3, if_pos h3]; exact l1drawAny_c N D lo xs w h hx hD hlo ⟨by omega, h3⟩
    · rw [if_neg h3, if_neg h3]; exact l1drawAny_b N D lo xs w h hx hD hlo (by omega)
theorem dAny_len (xs : List Int) : (dAny xs).2.length ≤ 701 := by
  have hg : (dGood xs.tail).1.length ≤ 700 := (dGood_dt xs.tail).nl.len
  unfold dAny
  split
  · exact Nat.le_trans (limT_nl (by omega) (by omega)).len (by omega)
  · show (if xs.headD 0 % 10 < 3 then (dSpoil (dGood xs.tail).1 (dGood xs.tail).2).1 else (dGood xs.tail).1).length ≤ 701
    split
    · show (spT _ _ _ _).length ≤ 701
      unfold spT
      split
      · unfold putE; rw [List.length_set]; omega
      · split
        · rw [List.length_take]; omega
        · split <;> (rw [List.length_append, List.length_singleton]; omega)
    · omega
theorem own_putl {base n e s B o : Nat} {w : World} {v u : Value} {xs : List Value} (h : w.ownsRow base e s v n xs) (hB : B < base) : (w.setCell ⟨B, o, none⟩ u).ownsRow base e s v n xs := by
  refine ⟨h.1, ?_⟩
  rcases h.2 with q | ⟨g, cap, cur, h1, h2, h3, h4⟩
  · exact .inl q
  · exact .inr ⟨g, cap, cur, h1, h2, (Below.heap_setCell _ _ _ _ (by show g ≠ B; omega)).trans h3, h4⟩
def DrM (w : World) (R : (Bool × Bool) × List El) (bs : List Int) (e : Ending) (w' : World) : Prop := ∃ v lv, e = .returned (.tuple #[.agg #[.bool R.1.1, .bool R.1.2, v], lv]) ∧ ElsAt w.heap.size w'.heap.size w' v R.2 ∧ w'.ownsRow w.heap.size 5 1 lv bs.length (bs.map mB) ∧ Cod bs ∧ bs.length ≤ 80 ∧ Below w.heap.size w w'
theorem DrM.of {w w' : World} {R : (Bool × Bool) × List El} {P : List Int × List Int} {bs zs : List Int} {e : Ending} (h : P = (bs, zs)) (k : DrM w R bs e w') : DrM w R P.1 e w' := by
  rw [h]; exact k
set_option maxHeartbeats 16000000 in
set_option maxRecDepth 100000 in
theorem drawMatch_at (F : List Int → List Int × List Int) (cv : Value) (cs : List Int) (HFX : ∀ (N D lo : Nat) (v : Value) (xs : List Int) (w : World), CdAt N D w xs → Cod xs → D < lo → lo ≤ w.heap.size → ElsAt lo w.heap.size w v (dAny (cs.take 600)).2 → (dAny (cs.take 600)).2.length ≤ 1048576 →
    Calls Tryz.prog 13 #[.agg #[.bool (dAny (cs.take 600)).1.1, .bool (dAny (cs.take 600)).1.2, v], .pointer (some ⟨D, 0, none⟩)] w (Smp N D 80 (F xs) w)) (w : World) (hv : SlAt mB 0 0 w.heap.size w cv cs) (hcap : CapOk cv) (hx : Cod (cs.take 600)) :
    Calls Tryz.prog 4 #[cv] w (DrM w (dAny (cs.take 600)) (F (dAnyR (cs.take 600))).1) := by
  have HX := hide hx
  have HFL := hide HFX
  clear HFX
  have HV := hide hv
  have HCP := hide hcap
  obtain ⟨ca, cc, rfl, -⟩ := hv
  obtain ⟨xs, hxs⟩ : ∃ xs, cs.take 600 = xs := ⟨_, rfl⟩
  rw [hxs] at HX HFL ⊢
  have HXS := hide hxs
  have hRl := dAny_len xs
  obtain ⟨R, hR⟩ : ∃ R, dAny xs = R := ⟨_, rfl⟩
  rw [hR] at hRl HFL ⊢
  have HR := hide hR
  clear hR hx hxs hcap
  have HP := hide (Bx3.new w 25 (.bool false) (.bool false) (.slice none 0 0))
  have HB0 := hide (below1 w (.cells #[.bool false, .bool false, .slice none 0 0] 25))
  have hzW : (w.alloc (.cells #[.bool false, .bool false, .slice none 0 0] 25)).heap.size = w.heap.size + 1 := sz_alloc _ _
  have HV0 := hide ((unhide HV).cut (unhide HB0) (Nat.le_refl _))
  go_enter Tryz.func4, Tryz.ntmps4
  go_wp2_with fail
  generalize w.alloc (.cells #[.bool false, .bool false, .slice none 0 0] 25) = W0 at *
  refine (l1open_any _ cs W0 (unhide HV0) (unhide HCP)).mono ?_
  rw [unhide HXS]
  obtain ⟨D, hDe⟩ : ∃ D, W0.heap.size = D := ⟨_, rfl⟩
  rw [hDe]
  rintro e w1 ⟨rfl, hc0, hz0, hb0⟩
  have hd1 : w.heap.size < D := by omega
  have hd4 : D < w.heap.size + 2 := by omega
  have hd3 : w.heap.size + 2 ≤ w1.heap.size := by omega
  have HBW := hide ((unhide HB0).trans (hb0.mono (by omega)))
  have HP1 := hide ((unhide HP).below hb0 (by omega))
  have HC0 := hide hc0
  clear hb0 hDe hzW hz0 hc0
  go_wp2_with fail
  refine (l1drawAny_any D D (w.heap.size + 2) xs w1 (unhide HC0) (unhide HX) (by omega) (by omega)).mono ?_
  rw [unhide HR]
  rintro e w3 ⟨⟨v3, rfl, hv3⟩, ⟨zs, rfl, hc3, hzs⟩, hm3⟩
  have HT3 := hide hv3
  obtain ⟨a3, c3, rfl, -⟩ := hv3
  have hz3 := hm3.size
  have HM3 := hide hm3
  have HQ := hide (Bx3.new w3 25 (.bool R.1.1) (.bool R.1.2) (.slice a3 R.2.length c3))
  have HB3 := hide (below1 w3 (.cells #[.bool R.1.1, .bool R.1.2, .slice a3 R.2.length c3] 25))
  have hz4 : (w3.alloc (.cells #[.bool R.1.1, .bool R.1.2, .slice a3 R.2.length c3] 25)).heap.size = w3.heap.size + 1 := sz_alloc _ _
  have HC4 := hide (hc3.keep (unhide HB3) (by omega))
  have HZ := hide hzs
  have HT4 := hide ((unhide HT3).below (unhide HB3) (Nat.le_refl _))
  have HM4 := hide (hm3.trans (Below.mv ((unhide HB3).mono hz3) D))
  clear hm3 hc3 hzs
  go_wp2_with fail
  generalize w3.alloc (.cells #[.bool R.1.1, .bool R.1.2, .slice a3 R.2.length c3] 25) = W4 at *
  refine (unhide HFL D D (w.heap.size + 2) _ (dAnyR xs) W4 (unhide HC4) (unhide HZ) (by omega) (by omega) (unhide HT4) (by omega)).mono ?_
  rintro e w5 ⟨v5, bs, z5, rfl, ho5, hcb5, hlb5, -, -, hm5, hR5⟩
  have HR5 := hide hR5
  clear hR5
  have HO5 := hide ho5
  obtain ⟨oa, oc, rfl⟩ := own_is ho5
  have hs5 := hm5.size
  have HT5 := hide ((unhide HT4).mv hm5 (Nat.le_refl _) (by omega))
  have BQ := (unhide HQ).blk (hm5.block w3.heap.size (by omega) (by omega))
  obtain ⟨r0, r1, r2⟩ := BQ.facts
  have HM5 := hide ((unhide HM4).trans (hm5.mono (by omega)))
  have BP := (unhide HP1).blk ((unhide HM5).block w.heap.size (by omega) (by omega))
  obtain ⟨p0, p1, p2⟩ := BP.facts
  have z0 := World.rowIs.frozen BP 0
  have z1 := World.rowIs.frozen BP 1
  have z2 := World.rowIs.frozen BP 2
  have HCB := hide hcb5
  clear BP BQ ho5 hm5 hcb5
  go_wp2
  refine bodyPost_ret (v := .tuple #[.agg #[.bool R.1.1, .bool R.1.2, .slice a3 (R.2).length c3], .slice oa bs.length oc]) (by simp [results, Tryz.results4, go_sem, p0, p1, p2]) rfl (DrM.of (unhide HR5) ⟨_, _, rfl, ?_, ?_, unhide HCB, hlb5, ?_⟩)
  · exact ((unhide HT5).mono (lo' := w.heap.size + 1) (by omega) (Nat.le_refl _)).put3 (lo := w.heap.size) (by omega)
  · exact own_lo (own_putl (own_putl (own_putl (unhide HO5) (by omega)) (by omega)) (by omega)) (by omega)
  · exact (unhide HBW).trans (((unhide HM5).below (by omega)).mono (by omega) |>.trans (bput (bput (bput (Below.refl w.heap.size _) (Nat.le_refl _) _) (Nat.le_refl _) _) (Nat.le_refl _) _))
theorem drawMatch_ex (cs : List Int) : ∃ bs : List Int, ∀ (cv : Value) (w : World), SlAt mB 0 0 w.heap.size w cv cs → CapOk cv → Cod (cs.take 600) →
    Calls Tryz.prog 4 #[cv] w (DrM w (dAny (cs.take 600)) bs) := by
  obtain ⟨F, hF⟩ := l2drawLine_ex (dAny (cs.take 600)).1.1 (dAny (cs.take 600)).1.2 (dAny (cs.take 600)).2
  exact ⟨_, fun cv w h1 h2 h3 => drawMatch_at F cv cs hF w h1 h2 h3⟩
end Go.Proofs.YtinhliecfjlocaaGreat
