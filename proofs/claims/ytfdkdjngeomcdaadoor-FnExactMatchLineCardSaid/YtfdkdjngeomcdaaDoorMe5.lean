import Derived.Test.YtfdkdjngeomcdaaDoorMe4
namespace Go.Proofs.YtfdkdjngeomcdaaDoor
open Go.RowKit

/-- The marks of a row, read off the world. -/
def rowG (w : World) (c : Nat) : Nat → Bool := fun j => match w.cell? ⟨c, j, none⟩ with
  | some (.bool b) => b
  | _ => false
theorem rowG_is {w : World} {n c : Nat} {G : Nat → Bool} (h : BR w n c G) {j : Nat} (hj : j ≤ n) : rowG w c j = G j := by
  unfold rowG
  rw [World.rowIs.cell h (by omega)]
theorem unset_congr {F G : Nat → Bool} : ∀ {k : Nat}, (∀ j, j < k → F j = G j) → unset F k = unset G k
  | 0, _ => rfl
  | k + 1, h => by
    simp only [unset]
    rw [unset_congr (fun j hj => h j (by omega)), h k (by omega)]
theorem unset_row {w : World} {n c : Nat} {G : Nat → Bool} (h : BR w n c G) : unset (rowG w c) (n + 1) = unset G (n + 1) := unset_congr (fun j hj => rowG_is h (by omega))
theorem unset_max (G : Nat → Bool) : ∀ k, unset G k ≤ k
  | 0 => Nat.le_refl _
  | k + 1 => by
    have := unset_max G k
    simp only [unset]
    split <;> omega
def bit (v : Value) : Nat := match v with
  | .bool true => 1
  | _ => 0

set_option maxHeartbeats 16000000 in
set_option maxRecDepth 100000 in
theorem en_rep (bs : List Int) (l : List El) (A : Rl) (m : Nat) (mx : Int) (hA : RB bs.length A) (hl : EnS bs l A) (hne : 0 < l.length) (hm : m ≤ 250) (o4 : mx = -1 ∨ ((m : Int) ≤ mx ∧ mx ≤ 250)) : EnS bs (l ++ [⟨4, [], m, mx⟩]) (rRep bs.length A m mx) := by
  intro v lv bq F w hv hlen hlv hbs hbr
  have hv0 := hv
  obtain ⟨a, cp, rfl, -, -⟩ := id hv
  obtain ⟨hlen2, hcap, b, off, rfl, hbn, hel⟩ := hv.last
  rw [hlen2] at hv hv0 hcap ⊢
  simp only [List.length_append, List.length_singleton] at hlen hlen2
  unfold maxLen at hcap
  obtain ⟨i1, i2, i3, sv, c0, c1, c2, c3, hints⟩ := hel
  obtain ⟨sa, sc, rfl, -, -, -⟩ := id hints
  simp only at c0 c2 c3
  obtain ⟨la, lc, rfl, -, -⟩ := id hlv
  clear hlen2 i1 i2 i3 hints
  have hvL : ElsAt 0 w.heap.size w (.slice (some ⟨b, off, none⟩) l.length cp) l := hv0.pre
  have HvL := hide hvL
  have e1 : (((l.length + 1 : Nat) : Int) - 1) = ((l.length : Nat) : Int) := by omega
  have Hlv := hide hlv
  have Hbs := hide hbs
  have HH := hide hl
  have HA := hide hA
  have hn := hbs.1
  have hmk := run_make_row' (P := Tryd.prog) 56 4 (.bool false) 1 Tryd.underlying56 Tryd.zinBoolM rfl .i64 .i64 (bs.length + 1) (by omega) (by omega)
  simp only [Int.natCast_add, Int.natCast_one] at hmk
  have hb2 := below2 w (.cells #[.int .i64 4, .slice sa 0 sc, .int .i64 m, .int .i64 mx] 58) (.cells (madeCells #[.bool false] (bs.length + 1)) 4)
  have h0 := br_made (w.alloc (.cells #[.int .i64 4, .slice sa 0 sc, .int .i64 m, .int .i64 mx] 58)) bs.length
  rw [sz_alloc] at h0
  obtain ⟨w3, hcp, hr3, hob⟩ := copy_bools _ bs.length (w.heap.size + 1) bq _ F h0 (hbr.below hb2 (Nat.le_refl _))
  have hz3 : w.heap.size + 2 ≤ w3.heap.size := by rw [hob.size, sz_alloc, sz_alloc]; omega
  have HB3 : Hid (Below w.heap.size w w3) := hb2.trans (obk_bel hob (by omega))
  have HR3 := hide hr3
  have q2 : w3.cell? ⟨w.heap.size, 2, none⟩ = some (.int .i64 m) := by
    rw [World.cell?_of_block (a := ⟨w.heap.size, 2, none⟩) (hob.block w.heap.size (by omega))]
    exact ((below1 _ _).cell (p := ⟨w.heap.size, 2, none⟩) (by rw [sz_alloc]; exact Nat.lt_succ_self _)).trans ((pushd_alloc w _).news 2 _ rfl)
  have q3 : w3.cell? ⟨w.heap.size, 3, none⟩ = some (.int .i64 mx) := by
    rw [World.cell?_of_block (a := ⟨w.heap.size, 3, none⟩) (hob.block w.heap.size (by omega))]
    exact ((below1 _ _).cell (p := ⟨w.heap.size, 3, none⟩) (by rw [sz_alloc]; exact Nat.lt_succ_self _)).trans ((pushd_alloc w _).news 3 _ rfl)
  have HQ2 := hide q2
  have HQ3 := hide q3
  clear hvL hv hv0 hl hlv hbs hbr hb2 h0 hob hr3 q2 q3 hA
  go_enter Tryd.func22, Tryd.ntmps22
  go_wp2_with fail
  go_loopw [9, 16] (fun ov iv wr => ∃ (k c : Nat) (G : Nat → Bool), k ≤ m ∧ iv = .int .i64 k ∧ ov = vB c bs.length ∧ w.heap.size + 1 ≤ c ∧ BR wr bs.length c G ∧ EndsOf bs.length (rPow bs.length A k) F G ∧ wr.cell? ⟨w.heap.size, 2, none⟩ = some (.int .i64 m) ∧ wr.cell? ⟨w.heap.size, 3, none⟩ = some (.int .i64 mx) ∧ w.heap.size + 2 ≤ wr.heap.size ∧ Below w.heap.size w wr) (fun _ iv _ => m - (intOf iv).toNat)
  case atStart => exact ⟨0, _, F, Nat.zero_le _, rfl, rfl, Nat.le_refl _, unhide HR3, EndsOf.eps, unhide HQ2, unhide HQ3, hz3, unhide HB3⟩
  case round =>
    clear HR3 HQ2 HQ3 hz3 HB3 hcp c0 c1 c2 c3
    obtain ⟨k, c, G, hk, rfl, rfl, hc, hG, hE, q2, q3, hz, hB⟩ := hrel
    have HG := hide hG
    have HE := hide hE
    have HB := hide hB
    clear hG hE hB
    by_cases hlt : k < m
    · have hlt' : (k : Int) < (m : Int) := by omega
      clear hmk
      go_wp2_with fail
      refine (unhide HH _ _ c G _ ((unhide HvL).below (unhide HB) (Nat.le_refl _)) (by omega) ((unhide Hlv).below (unhide HB) (Nat.le_refl _)) (unhide Hbs) (unhide HG)).mono ?_
      rintro e w1 ⟨g1, G1, rfl, hg1, hr1, he1, hb1⟩
      have HB1 : Hid (Below w.heap.size w w1) := (unhide HB).trans (hb1.mono (by omega))
      have HR1 := hide hr1
      have HE1 := hide ((unhide HE).cat (unhide HA) he1)
      have q2' : w1.cell? ⟨w.heap.size, 2, none⟩ = some (.int .i64 m) := (hb1.cell (p := ⟨w.heap.size, 2, none⟩) (by show w.heap.size < _; omega)).trans q2
      have q3' : w1.cell? ⟨w.heap.size, 3, none⟩ = some (.int .i64 mx) := (hb1.cell (p := ⟨w.heap.size, 3, none⟩) (by show w.heap.size < _; omega)).trans q3
      have hz1 := hb1.size
      clear hr1 he1 hb1 q2 q3
      go_wp2
      go_roundw
      case rel => exact ⟨k + 1, g1, G1, by omega, by go_num, rfl, by omega, unhide HR1, unhide HE1, q2', q3', by omega, unhide HB1⟩
      case measure => simp [intOf]; omega
    · have ek : k = m := by omega
      subst ek
      obtain ⟨V, hV⟩ : ∃ V, V = wr := ⟨_, rfl⟩
      rw [← hV] at HG HB q2 q3 hz ⊢
      clear hV
      have hb4 := below1 V (.cells (madeCells #[.bool false] (bs.length + 1)) 4)
      have hcl := (unhide HG).lt
      obtain ⟨w5, hcp, hr5, hob⟩ := copy_bools _ bs.length V.heap.size c _ G (br_made V bs.length) ((unhide HG).below hb4 (Nat.le_refl _))
      have HR5 := hide hr5
      have HG5 := hide (((unhide HG).below hb4 (Nat.le_refl _)).keep (hob.block c (by omega)))
      have HB5 : Hid (Below w.heap.size w w5) := (unhide HB).trans ((hb4.trans (obk_bel hob (Nat.le_refl _))).mono (by omega))
      have hV5 : Below V.heap.size V w5 := hb4.trans (obk_bel hob (Nat.le_refl _))
      have q2' : w5.cell? ⟨w.heap.size, 2, none⟩ = some (.int .i64 k) := (hV5.cell (p := ⟨w.heap.size, 2, none⟩) (by show w.heap.size < _; omega)).trans q2
      have q3' : w5.cell? ⟨w.heap.size, 3, none⟩ = some (.int .i64 mx) := (hV5.cell (p := ⟨w.heap.size, 3, none⟩) (by show w.heap.size < _; omega)).trans q3
      have hz5 := hV5.size
      have HQ2 := hide q2'
      have HQ3 := hide q3'
      clear hr5 hob hb4 hV5 q3 q3'
      go_wp2_with fail
      go_loopw [17, 18, 19] (fun fv sv iv wr => ∃ (t fb : Nat) (G H : Nat → Bool) (x : Bool), iv = .int .i64 ((k + t : Nat) : Int) ∧ sv = .bool x ∧ fv = vB fb bs.length ∧ c ≠ fb ∧ BR wr bs.length c G ∧ BR wr bs.length fb H ∧ MoreI bs.length A k t F G H ∧ (x = true ∨ ∀ j, j ≤ bs.length → H j = false) ∧ (mx = -1 ∨ ((k + t : Nat) : Int) ≤ mx) ∧ (x = true → t + unset G (bs.length + 1) ≤ bs.length + 1) ∧ t ≤ bs.length + 2 ∧ wr.cell? ⟨w.heap.size, 3, none⟩ = some (.int .i64 mx) ∧ w.heap.size + 2 ≤ wr.heap.size ∧ Below w.heap.size w wr) (fun _ sv _ wr => 2 * unset (rowG wr c) (bs.length + 1) + bit sv)
      case atStart => exact ⟨0, V.heap.size, G, G, true, rfl, rfl, rfl, by omega, unhide HG5, unhide HR5, MoreI.start (unhide HE), Or.inl rfl, o4.imp id (fun h => h.1), fun _ => by have := unset_max G (bs.length + 1); omega, by omega, unhide HQ3, by omega, unhide HB5⟩
      case round =>
        clear HR5 HG5 HQ2 HQ3 HB5 hcp q2 q2' HG HB HE hmk
        obtain ⟨t, fb, G2, H, x, rfl, rfl, rfl, hne2, hG2, hH, hMo, hx, hin, hun, ht, q3, hz6, hB⟩ := hrel
        have HG2 := hide hG2
        have HH2 := hide hH
        have HMo := hide hMo
        have HB := hide hB
        have Hun := hide hun
        clear hG2 hH hMo hB hun
        have hFIN : ((∀ j, j ≤ bs.length → H j = false) ∨ (mx ≠ -1 ∧ ((k + t : Nat) : Int) = mx)) → EndRet bs.length (rRep bs.length A k mx) F w wr (.returned (vB c bs.length)) := fun h => ⟨c, G2, rfl, by omega, unhide HG2, (unhide HMo).ends (unhide HA) hin h, unhide HB⟩
        have HFIN := hide hFIN
        clear hFIN
        have hROUND : x = true → (mx = -1 ∨ ((k + t : Nat) : Int) < mx) → ∀ (w1 : World) (g1 : Nat) (N1 : Nat → Bool), wr.heap.size ≤ g1 → BR w1 bs.length g1 N1 → EndsOf bs.length A H N1 → Below wr.heap.size wr w1 →
            Calls Tryd.prog 41 #[vB c bs.length, vB g1 bs.length] w1 fun e w' => ∃ y, e = .returned (.tuple #[vB w1.heap.size bs.length, .bool y]) ∧
              (∃ (t' fb' : Nat) (G' H' : Nat → Bool) (x' : Bool), (Value.int .i64 (((k + t : Nat) : Int) + 1)) = .int .i64 ((k + t' : Nat) : Int) ∧ Value.bool y = .bool x' ∧ vB w1.heap.size bs.length = vB fb' bs.length ∧ c ≠ fb' ∧ BR w' bs.length c G' ∧ BR w' bs.length fb' H' ∧ MoreI bs.length A k t' F G' H' ∧ (x' = true ∨ ∀ j, j ≤ bs.length → H' j = false) ∧ (mx = -1 ∨ ((k + t' : Nat) : Int) ≤ mx) ∧ (x' = true → t' + unset G' (bs.length + 1) ≤ bs.length + 1) ∧ t' ≤ bs.length + 2 ∧ w'.cell? ⟨w.heap.size, 3, none⟩ = some (.int .i64 mx) ∧ w.heap.size + 2 ≤ w'.heap.size ∧ Below w.heap.size w w') ∧
              2 * unset (rowG w' c) (bs.length + 1) + bit (.bool y) < 2 * unset (rowG wr c) (bs.length + 1) + 1 := by
          intro hxt hmx2 w1 g1 N1 hg1 hr1 he1 hb1
          have hcl2 := (unhide HG2).lt
          have hG1 := (unhide HG2).below hb1 (Nat.le_refl _)
          have hz1 := hb1.size
          refine (l2more_any bs.length c g1 G2 N1 w1 hG1 hr1 (by omega) (by omega)).mono ?_
          rintro e w' ⟨y, rfl, hA1, hA2, hy, hfr⟩
          have hu1 := unset_row hA1
          have hu2 := unset_row (unhide HG2)
          have hle := unset_le (G := G2) (N := N1) (bs.length + 1)
          have hlt : y = true → unset (fun j => G2 j || N1 j) (bs.length + 1) < unset G2 (bs.length + 1) := fun h => by
            obtain ⟨j, h1, h2, h3⟩ := hy.1 h
            exact unset_lt (by omega) h2 h3
          have hq : w'.cell? ⟨w.heap.size, 3, none⟩ = some (.int .i64 mx) := by
            rw [World.cell?_of_block (a := ⟨w.heap.size, 3, none⟩) (hfr.block w.heap.size (by rintro (h | h) <;> omega)), hb1.cell (p := ⟨w.heap.size, 3, none⟩) (by show w.heap.size < _; omega)]
            exact q3
          have hfz := hfr.size
          have hux := unhide Hun hxt
          refine ⟨y, rfl, ⟨t + 1, w1.heap.size, _, _, y, rfl, rfl, rfl, by omega, hA1, hA2, (unhide HMo).step (unhide HA) he1, ?_, hmx2.imp id (fun h => by omega), fun h => by have := hlt h; omega, by omega, hq, by omega, (unhide HB).trans ((hb1.mono (by omega)).trans (hfr.below (m := w.heap.size) (fun k2 hk2 => by rintro (h | h) <;> omega)))⟩, ?_⟩
          · cases y with
            | true => exact Or.inl rfl
            | false =>
              right
              intro j hj
              by_cases e : (N1 j && !G2 j) = true
              · simp only [Bool.and_eq_true, Bool.not_eq_true'] at e
                have := hy.2 ⟨j, hj, e.1, e.2⟩
                cases this
              · exact Bool.eq_false_iff.2 e
          · rw [hu1, hu2]
            cases y with
            | true => have := hlt rfl; simp only [bit]; omega
            | false => simp only [bit]; omega
        have HROUND := hide hROUND
        have hRB : mx = -1 ∨ mx ≤ 250 := o4.imp id (fun h => h.2)
        clear hROUND
        cases x with
        | false =>
          have HR := hide (unhide HFIN (Or.inl (hx.resolve_left (by decide))))
          clear hx HFIN HROUND
          go_wp2
          go_ret
          exact unhide HR
        | true =>
          clear hx
          by_cases h1 : mx = -1
          · subst h1
            have HR2 := hide (unhide HROUND rfl (Or.inl rfl))
            clear HROUND HFIN
            go_wp2_with fail
            refine (unhide HH _ _ fb H _ ((unhide HvL).below (unhide HB) (Nat.le_refl _)) (by omega) ((unhide Hlv).below (unhide HB) (Nat.le_refl _)) (unhide Hbs) (unhide HH2)).mono ?_
            rintro e w1 ⟨g1, G1, rfl, hg1, hr1, he1, hb1⟩
            have HR3 := hide (unhide HR2 w1 g1 G1 hg1 hr1 he1 hb1)
            clear hr1 he1 hb1 HR2
            go_wp2_with fail
            refine (unhide HR3).mono ?_
            rintro e w2 ⟨y, rfl, hrel2, hms⟩
            have HREL := hide hrel2
            have HMS := hide hms
            clear hrel2 hms HR3
            go_wp2
            go_roundw
            case rel => exact unhide HREL
            case measure => exact unhide HMS
          · by_cases h2 : ((k + t : Nat) : Int) < mx
            · have HR2 := hide (unhide HROUND rfl (Or.inr h2))
              have h1' : (mx == -1) = false := by rw [beq_eq_false_iff_ne]; exact h1
              have h2' : (k : Int) + (t : Int) < mx := by omega
              clear HROUND HFIN
              go_wp2_with fail
              refine (unhide HH _ _ fb H _ ((unhide HvL).below (unhide HB) (Nat.le_refl _)) (by omega) ((unhide Hlv).below (unhide HB) (Nat.le_refl _)) (unhide Hbs) (unhide HH2)).mono ?_
              rintro e w1 ⟨g1, G1, rfl, hg1, hr1, he1, hb1⟩
              have HR3 := hide (unhide HR2 w1 g1 G1 hg1 hr1 he1 hb1)
              clear hr1 he1 hb1 HR2
              go_wp2_with fail
              refine (unhide HR3).mono ?_
              rintro e w2 ⟨y, rfl, hrel2, hms⟩
              have HREL := hide hrel2
              have HMS := hide hms
              clear hrel2 hms HR3
              go_wp2
              go_roundw
              case rel => exact unhide HREL
              case measure => exact unhide HMS
            · have h1' : (mx == -1) = false := by rw [beq_eq_false_iff_ne]; exact h1
              have h2' : ¬ (k : Int) + (t : Int) < mx := by omega
              have HR := hide (unhide HFIN (Or.inr ⟨h1, by omega⟩))
              clear HFIN HROUND h2
              go_wp2
              go_ret
              exact unhide HR

end Go.Proofs.YtfdkdjngeomcdaaDoor
