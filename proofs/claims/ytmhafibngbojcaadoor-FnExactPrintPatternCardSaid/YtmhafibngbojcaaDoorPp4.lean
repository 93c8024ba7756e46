import Derived.Test.YtmhafibngbojcaaDoorPp3
import Derived.Test.YtmhafibngbojcaaDoorN1
namespace Go.Proofs.YtmhafibngbojcaaDoor
open Go.RowKit

set_option maxHeartbeats 1000000 in
theorem l1all_any (w : World) : Calls Tryd.prog 41 #[] w fun e w' => ∃ v, e = .returned v ∧ SlAt mI 0 0 w'.heap.size w' v [0, 255] ∧ Below w.heap.size w w' := by
  go_enter Tryd.func41, Tryd.ntmps41
  go_wp2
  go_ret
  refine ⟨_, rfl, ⟨_, 2, rfl, by unfold maxLen; simp, fun _ => ⟨w.heap.size, 0, rfl, Nat.zero_le _, by rw [sz_alloc]; exact Nat.lt_succ_self _, fun i hi => ?_⟩⟩, below1 w _⟩
  have hi' : i < 2 := hi
  match i, hi' with
  | 0, _ => exact (pushd_alloc w _).news 0 _ rfl
  | 1, _ => exact (pushd_alloc w _).news 1 _ rfl
set_option maxHeartbeats 1000000 in
theorem l1dot_any (w : World) : Calls Tryd.prog 42 #[] w fun e w' => ∃ v, e = .returned v ∧ SlAt mI 0 0 w'.heap.size w' v [0, 9, 11, 255] ∧ Below w.heap.size w w' := by
  go_enter Tryd.func42, Tryd.ntmps42
  go_wp2
  go_ret
  refine ⟨_, rfl, ⟨_, 4, rfl, by unfold maxLen; simp, fun _ => ⟨w.heap.size, 0, rfl, Nat.zero_le _, by rw [sz_alloc]; exact Nat.lt_succ_self _, fun i hi => ?_⟩⟩, below1 w _⟩
  have hi' : i < 4 := hi
  match i, hi' with
  | 0, _ => exact (pushd_alloc w _).news 0 _ rfl
  | 1, _ => exact (pushd_alloc w _).news 1 _ rfl
  | 2, _ => exact (pushd_alloc w _).news 2 _ rfl
  | 3, _ => exact (pushd_alloc w _).news 3 _ rfl

theorem l1same_is (u v : Value) (xs ys : List Int) (w : World) (hu : SlAt mI 0 0 w.heap.size w u xs) (hv : SlAt mI 0 0 w.heap.size w v ys) :
    Calls Tryd.prog 40 #[u, v] w fun e w' => RetB e (xs = ys) ∧ Below w.heap.size w w' :=
  (l1same_any u v xs ys w hu hv).mono (fun _ _ ⟨h1, q, h2⟩ => ⟨h1, by rw [h2]; exact below_drewN (Below.refl _ _) q⟩)

set_option maxRecDepth 100000 in
set_option maxHeartbeats 4000000 in
theorem l1setText_any (v : Value) (xs : List Int) (w : World) (hv : SlAt mI 0 0 w.heap.size w v xs) (hc : Canon xs) (hl : xs.length ≤ 300) :
    Calls Tryd.prog 23 #[v] w fun e w' => (∃ t, e = .returned (.string t) ∧ StrB t (setT xs)) ∧ Below w.heap.size w w' := by
  have Hv := hide hv
  obtain ⟨a, cap, rfl, hml, -⟩ := id hv
  have Hby := hide hc.2.1
  have hev := hc.1
  obtain ⟨T, hT⟩ : ∃ T, T = setT xs := ⟨_, rfl⟩
  rw [← hT]
  unfold setT at hT
  have HT := hide hT
  clear hT hv hc hml
  go_enter Tryd.func23, Tryd.ntmps23
  go_wp2_with fail
  refine (l1all_any w).mono ?_
  rintro e w1 ⟨v1, rfl, h1, hb1⟩
  have H1 := hide h1
  obtain ⟨a1, c1, rfl, -⟩ := id h1
  clear h1
  go_wp2_with fail
  refine (l1same_is _ _ xs _ _ ((unhide Hv).below hb1 (Nat.le_refl _)) (unhide H1)).mono ?_
  rintro e w2 ⟨hret, hb2⟩
  have hB2 : Below w.heap.size w w2 := hb1.trans (hb2.mono hb1.size)
  clear hb1 hb2 H1
  rcases hret.cases with ⟨rfl, hx⟩ | ⟨rfl, hx⟩
  · have HE := hide ((unhide HT).trans (if_pos hx))
    clear HT hret hx
    go_wp2
    go_ret
    exact ⟨⟨_, rfl, by rw [unhide HE]; rfl⟩, hB2⟩
  have HT2 := hide ((unhide HT).trans (if_neg hx))
  clear HT hret hx
  go_wp2_with fail
  refine (l1dot_any w2).mono ?_
  rintro e w3 ⟨v3, rfl, h3, hb3⟩
  have H3 := hide h3
  have hB3 : Below w.heap.size w w3 := hB2.trans (hb3.mono hB2.size)
  obtain ⟨a3, c3, rfl, -⟩ := id h3
  clear h3 hb3
  go_wp2_with fail
  refine (l1same_is _ _ xs _ _ ((unhide Hv).below hB3 (Nat.le_refl _)) (unhide H3)).mono ?_
  rintro e w4 ⟨hret, hb4⟩
  have hB4 : Below w.heap.size w w4 := hB3.trans (hb4.mono hB3.size)
  clear hb4 hB3 hB2 H3
  rcases hret.cases with ⟨rfl, hx⟩ | ⟨rfl, hx⟩
  · have HE := hide ((unhide HT2).trans (if_pos hx))
    clear HT2 hret hx
    go_wp2
    go_ret
    exact ⟨⟨_, rfl, by rw [unhide HE]; rfl⟩, hB4⟩
  have HT3 := hide ((unhide HT2).trans (if_neg hx))
  clear HT2 hret hx
  obtain ⟨_, _, e, -, hc⟩ := (unhide Hv).below hB4 (Nat.le_refl _)
  cases e
  by_cases g : xs.length = 2 ∧ xs[0]?.getD 0 = xs[1]?.getD 0
  · have HE := hide ((unhide HT3).trans (if_pos g))
    obtain ⟨g1, g2⟩ := g
    obtain ⟨b, off, rfl, -, hbn, hcell⟩ := hc (by omega)
    have k0 : w4.cell? ⟨b, off, none⟩ = some (.int .i64 (xs[0]?.getD 0)) := hcell 0 (by omega)
    have k1 : w4.cell? ⟨b, off + 1, none⟩ = some (.int .i64 (xs[1]?.getD 0)) := hcell 1 (by omega)
    have q0 := unhide Hby 0 (by omega)
    rw [← g2] at k1
    generalize xs[0]?.getD 0 = x0 at *
    have e2 : ((xs.length : Int) == 2) = true := by simp; omega
    have l0 : (0 : Int) < (xs.length : Int) := by omega
    have l1 : (1 : Int) < (xs.length : Int) := by omega
    have l2 : 0 < xs.length := by omega
    have l3 : 1 < xs.length := by omega
    clear hcell hc HT3 g2 g1 hl
    go_wp2_with fail
    go_quiet (fail)
    go_wp2_with fail
    refine (l1byteText_any x0 _ (by omega) (by omega)).mono ?_
    rintro e w5 ⟨⟨t, rfl, ht⟩, hb5⟩
    have hB5 : Below w.heap.size w w5 := hB4.trans (Below.mono ⟨hb5.os, hb5.tape, hb5.output, hb5.size, hb5.block⟩ hB4.size)
    have HS := hide ht
    clear ht hb5
    go_wp2
    go_ret
    exact ⟨⟨_, rfl, by rw [unhide HE]; exact unhide HS⟩, hB5⟩
  · have HT4 := hide ((unhide HT3).trans (if_neg g))
    have HC : Hid (∀ n : Nat, n < xs.length → ∃ b off, a = some ⟨b, off, none⟩ ∧ ∀ W : World, Below w4.heap.size w4 W → ∀ i : Nat, i < xs.length → W.cell? ⟨b, off + i, none⟩ = some (.int .i64 (xs[i]?.getD 0))) := fun n hn => by
      obtain ⟨b, off, e, -, hbn, hcell⟩ := hc (by omega)
      exact ⟨b, off, e, fun W hW i hi => (hW.cell (p := ⟨b, off + i, none⟩) hbn).trans (hcell i hi)⟩
    have d : (((xs.length : Int) == 2) = false) ∨ (xs.length = 2 ∧ (xs[0]?.getD 0 == xs[1]?.getD 0) = false) := by
      by_cases q : xs.length = 2
      · exact Or.inr ⟨q, by simp only [beq_eq_false_iff_ne]; exact fun h => g ⟨q, h⟩⟩
      · exact Or.inl (by simp; omega)
    clear HT3 g hc
    rcases d with d | ⟨d1, d2⟩
    · go_wp2_with fail
      go_quiet (fail)
      go_wp2_with fail
      have hBd : Below w4.heap.size w4 (w4.drewN nq) := below_drewN (Below.refl _ _) nq
      have hzd := hBd.size
      have hBw : Below w.heap.size w (w4.drewN nq) := hB4.trans (hBd.mono hB4.size)
      generalize w4.drewN nq = wd at *
      go_loopw [3, 4] (fun ov iv wr => ∃ (n : Nat) (t : ByteArray), 2 * n ≤ xs.length ∧ iv = .int .i64 ((2 * n : Nat) : Int) ∧ ov = .string t ∧ StrB t (91 :: rngsT xs n) ∧ Below wd.heap.size wd wr) (fun _ iv _ => xs.length - (intOf iv).toNat)
      case atStart => exact ⟨0, _, Nat.zero_le _, rfl, rfl, rfl, Below.refl _ _⟩
      case round =>
        obtain ⟨n, t, hn, rfl, rfl, ht, hb⟩ := hrel
        have hzt := ht.size
        have hrl := rngsT_len xs n
        rw [List.length_cons] at hzt
        have htz : t.size ≤ 2000 := by omega
        have Ht := hide ht
        clear ht hzt hrl
        by_cases hlt : 2 * n + 1 < xs.length
        · obtain ⟨m, hm⟩ : ∃ m, m = 2 * n := ⟨_, rfl⟩
          obtain ⟨b, off, e, hcell⟩ := unhide HC m (by omega)
          cases e
          have k0 : wr.cell? ⟨b, off + m, none⟩ = some (.int .i64 (xs[m]?.getD 0)) := hcell wr (hBd.trans (hb.mono hzd)) m (by omega)
          have k1 : wr.cell? ⟨b, off + (m + 1), none⟩ = some (.int .i64 (xs[m + 1]?.getD 0)) := hcell wr (hBd.trans (hb.mono hzd)) (m + 1) (by omega)
          have q0 := unhide Hby m (by omega)
          have q1 := unhide Hby (m + 1) (by omega)
          have HR : Hid (rngsT xs (n + 1) = rngsT xs n ++ rngT (xs[m]?.getD 0) (xs[m + 1]?.getD 0)) := by show rngsT xs (n + 1) = _; rw [hm]; rfl
          have hmi : ((2 * n : Nat) : Int) = (m : Int) := by omega
          have f1 : (m : Int) + 1 < (xs.length : Int) := by omega
          have f2 : (m : Int) < (xs.length : Int) := by omega
          have f3 : IntKind.i64.wrap ((m : Int) + 1) = (m : Int) + 1 := k64i (by omega) (by omega)
          have f4 : IntKind.i64.wrap ((m : Int) + 2) = (m : Int) + 2 := k64i (by omega) (by omega)
          have f5 : (0 : Int) ≤ (m : Int) + 1 := by omega
          rw [hmi]
          clear hcell
          generalize xs[m]?.getD 0 = lo at *
          generalize xs[m + 1]?.getD 0 = hi at *
          have f6 : wrap64 (lo + 1) = lo + 1 := w64i (by omega) (by omega)
          have f7 : IntKind.i64.wrap (lo + 1) = lo + 1 := k64i (by omega) (by omega)
          have Hm := hide hm
          have hm1 : m ≤ 2 * n := by omega
          have hm2 : 2 * n ≤ m := by omega
          clear hm hmi
          go_wp2_with fail
          refine (l1byteText_any lo _ (by omega) (by omega)).mono ?_
          rintro e w5 ⟨⟨u, rfl, hu⟩, hb5⟩
          have hzu := hu.size
          have hbl := byT_len lo
          have n1 : ¬ 9223372036854775807 < t.size + u.size := by omega
          have hB5 : Below wd.heap.size wd w5 := hb.trans (hb5.mono hb.size)
          have Hu := hide hu
          clear hu hb5
          by_cases g1 : lo + 1 < hi
          · have g2 : lo < hi := by omega
            have n2 : ¬ 9223372036854775807 < t.size + u.size + 1 := by omega
            go_wp2_with fail
            refine (l1byteText_any hi _ (by omega) (by omega)).mono ?_
            rintro e w6 ⟨⟨u2, rfl, hu2⟩, hb6⟩
            have hzu2 := hu2.size
            have hbl2 := byT_len hi
            have n3 : ¬ 9223372036854775807 < t.size + u.size + 1 + u2.size := by omega
            have hB6 : Below wd.heap.size wd w6 := hB5.trans (hb6.mono hB5.size)
            have Hu2 := hide hu2
            clear hu2 hb6
            go_wp2
            go_roundw
            case rel =>
              refine ⟨n + 1, _, by omega, by rw [show ((2 * (n + 1) : Nat) : Int) = (m : Int) + 2 by omega], rfl, ?_, hB6⟩
              rw [unhide HR]
              unfold rngT
              rw [if_pos g1, if_pos g2]
              have h9 := StrB.app (StrB.app (StrB.app (unhide Ht) (unhide Hu)) (b := { data := #[45] }) (ys := [45]) rfl) (unhide Hu2)
              simpa using h9
            case measure => simp [intOf]; omega
          · by_cases g2 : lo < hi
            · go_wp2_with fail
              refine (l1byteText_any hi _ (by omega) (by omega)).mono ?_
              rintro e w6 ⟨⟨u2, rfl, hu2⟩, hb6⟩
              have hzu2 := hu2.size
              have hbl2 := byT_len hi
              have n3 : ¬ 9223372036854775807 < t.size + u.size + u2.size := by omega
              have hB6 : Below wd.heap.size wd w6 := hB5.trans (hb6.mono hB5.size)
              have Hu2 := hide hu2
              clear hu2 hb6
              go_wp2
              go_roundw
              case rel =>
                refine ⟨n + 1, _, by omega, by rw [show ((2 * (n + 1) : Nat) : Int) = (m : Int) + 2 by omega], rfl, ?_, hB6⟩
                rw [unhide HR]
                unfold rngT
                rw [if_neg (by omega), if_pos g2]
                have h9 := StrB.app (StrB.app (unhide Ht) (unhide Hu)) (unhide Hu2)
                simpa using h9
              case measure => simp [intOf]; omega
            · go_wp2
              go_roundw
              case rel =>
                refine ⟨n + 1, _, by omega, by rw [show ((2 * (n + 1) : Nat) : Int) = (m : Int) + 2 by omega], rfl, ?_, hB5⟩
                rw [unhide HR]
                unfold rngT
                rw [if_neg (by omega), if_neg (by omega)]
                have h9 := StrB.app (unhide Ht) (unhide Hu)
                simpa using h9
              case measure => simp [intOf]; omega
        · have hlt' : ¬ ((2 * n : Nat) : Int) + 1 < (xs.length : Int) := by omega
          obtain ⟨m, hm⟩ : ∃ m, m = 2 * n := ⟨_, rfl⟩
          have hmi : ((2 * n : Nat) : Int) = (m : Int) := by omega
          rw [hmi] at hlt' ⊢
          have hnn : Hid (n = xs.length / 2) := by show n = xs.length / 2; omega
          have f3 : IntKind.i64.wrap ((m : Int) + 1) = (m : Int) + 1 := k64i (by omega) (by omega)
          have n1 : ¬ 9223372036854775807 < t.size + 1 := by omega
          have hBr : Below w.heap.size w wr := hBw.trans (hb.mono hBw.size)
          clear hm hmi
          go_wp2
          go_ret
          refine ⟨⟨_, rfl, ?_⟩, hBr⟩
          rw [unhide HT4]
          have h9 := StrB.app (unhide Ht) (b := { data := #[93] }) (ys := [93]) rfl
          rw [unhide hnn] at h9
          exact h9
    · have e2 : ((xs.length : Int) == 2) = true := by simp; omega
      have l0 : (0 : Int) < (xs.length : Int) := by omega
      have l1 : (1 : Int) < (xs.length : Int) := by omega
      obtain ⟨b0, off0, rfl, hcell⟩ := unhide HC 0 (by omega)
      have k0 : w4.cell? ⟨b0, off0, none⟩ = some (.int .i64 (xs[0]?.getD 0)) := hcell w4 (Below.refl _ _) 0 (by omega)
      have k1 : w4.cell? ⟨b0, off0 + 1, none⟩ = some (.int .i64 (xs[1]?.getD 0)) := hcell w4 (Below.refl _ _) 1 (by omega)
      clear hcell d1
      generalize xs[0]?.getD 0 = x0 at k0 d2
      generalize xs[1]?.getD 0 = x1 at k1 d2
      go_wp2_with fail
      go_quiet (fail)
      clear k0 k1 e2 l0 l1 d2
      go_wp2_with fail
      have hBd : Below w4.heap.size w4 (w4.drewN nq) := below_drewN (Below.refl _ _) nq
      have hzd := hBd.size
      have hBw : Below w.heap.size w (w4.drewN nq) := hB4.trans (hBd.mono hB4.size)
      generalize w4.drewN nq = wd at *
      go_loopw [3, 4] (fun ov iv wr => ∃ (n : Nat) (t : ByteArray), 2 * n ≤ xs.length ∧ iv = .int .i64 ((2 * n : Nat) : Int) ∧ ov = .string t ∧ StrB t (91 :: rngsT xs n) ∧ Below wd.heap.size wd wr) (fun _ iv _ => xs.length - (intOf iv).toNat)
      case atStart => exact ⟨0, _, Nat.zero_le _, rfl, rfl, rfl, Below.refl _ _⟩
      case round =>
        obtain ⟨n, t, hn, rfl, rfl, ht, hb⟩ := hrel
        have hzt := ht.size
        have hrl := rngsT_len xs n
        rw [List.length_cons] at hzt
        have htz : t.size ≤ 2000 := by omega
        have Ht := hide ht
        clear ht hzt hrl
        by_cases hlt : 2 * n + 1 < xs.length
        · obtain ⟨m, hm⟩ : ∃ m, m = 2 * n := ⟨_, rfl⟩
          obtain ⟨b, off, e, hcell⟩ := unhide HC m (by omega)
          cases e
          have k0 : wr.cell? ⟨b0, off0 + m, none⟩ = some (.int .i64 (xs[m]?.getD 0)) := hcell wr (hBd.trans (hb.mono hzd)) m (by omega)
          have k1 : wr.cell? ⟨b0, off0 + (m + 1), none⟩ = some (.int .i64 (xs[m + 1]?.getD 0)) := hcell wr (hBd.trans (hb.mono hzd)) (m + 1) (by omega)
          have q0 := unhide Hby m (by omega)
          have q1 := unhide Hby (m + 1) (by omega)
          have HR : Hid (rngsT xs (n + 1) = rngsT xs n ++ rngT (xs[m]?.getD 0) (xs[m + 1]?.getD 0)) := by show rngsT xs (n + 1) = _; rw [hm]; rfl
          have hmi : ((2 * n : Nat) : Int) = (m : Int) := by omega
          have f1 : (m : Int) + 1 < (xs.length : Int) := by omega
          have f2 : (m : Int) < (xs.length : Int) := by omega
          have f3 : IntKind.i64.wrap ((m : Int) + 1) = (m : Int) + 1 := k64i (by omega) (by omega)
          have f4 : IntKind.i64.wrap ((m : Int) + 2) = (m : Int) + 2 := k64i (by omega) (by omega)
          have f5 : (0 : Int) ≤ (m : Int) + 1 := by omega
          rw [hmi]
          clear hcell
          generalize xs[m]?.getD 0 = lo at *
          generalize xs[m + 1]?.getD 0 = hi at *
          have f6 : wrap64 (lo + 1) = lo + 1 := w64i (by omega) (by omega)
          have f7 : IntKind.i64.wrap (lo + 1) = lo + 1 := k64i (by omega) (by omega)
          have Hm := hide hm
          have hm1 : m ≤ 2 * n := by omega
          have hm2 : 2 * n ≤ m := by omega
          clear hm hmi
          go_wp2_with fail
          refine (l1byteText_any lo _ (by omega) (by omega)).mono ?_
          rintro e w5 ⟨⟨u, rfl, hu⟩, hb5⟩
          have hzu := hu.size
          have hbl := byT_len lo
          have n1 : ¬ 9223372036854775807 < t.size + u.size := by omega
          have hB5 : Below wd.heap.size wd w5 := hb.trans (hb5.mono hb.size)
          have Hu := hide hu
          clear hu hb5
          by_cases g1 : lo + 1 < hi
          · have g2 : lo < hi := by omega
            have n2 : ¬ 9223372036854775807 < t.size + u.size + 1 := by omega
            go_wp2_with fail
            refine (l1byteText_any hi _ (by omega) (by omega)).mono ?_
            rintro e w6 ⟨⟨u2, rfl, hu2⟩, hb6⟩
            have hzu2 := hu2.size
            have hbl2 := byT_len hi
            have n3 : ¬ 9223372036854775807 < t.size + u.size + 1 + u2.size := by omega
            have hB6 : Below wd.heap.size wd w6 := hB5.trans (hb6.mono hB5.size)
            have Hu2 := hide hu2
            clear hu2 hb6
            go_wp2
            go_roundw
            case rel =>
              refine ⟨n + 1, _, by omega, by rw [show ((2 * (n + 1) : Nat) : Int) = (m : Int) + 2 by omega], rfl, ?_, hB6⟩
              rw [unhide HR]
              unfold rngT
              rw [if_pos g1, if_pos g2]
              have h9 := StrB.app (StrB.app (StrB.app (unhide Ht) (unhide Hu)) (b := { data := #[45] }) (ys := [45]) rfl) (unhide Hu2)
              simpa using h9
            case measure => simp [intOf]; omega
          · by_cases g2 : lo < hi
            · go_wp2_with fail
              refine (l1byteText_any hi _ (by omega) (by omega)).mono ?_
              rintro e w6 ⟨⟨u2, rfl, hu2⟩, hb6⟩
              have hzu2 := hu2.size
              have hbl2 := byT_len hi
              have n3 : ¬ 9223372036854775807 < t.size + u.size + u2.size := by omega
              have hB6 : Below wd.heap.size wd w6 := hB5.trans (hb6.mono hB5.size)
              have Hu2 := hide hu2
              clear hu2 hb6
              go_wp2
              go_roundw
              case rel =>
                refine ⟨n + 1, _, by omega, by rw [show ((2 * (n + 1) : Nat) : Int) = (m : Int) + 2 by omega], rfl, ?_, hB6⟩
                rw [unhide HR]
                unfold rngT
                rw [if_neg (by omega), if_pos g2]
                have h9 := StrB.app (StrB.app (unhide Ht) (unhide Hu)) (unhide Hu2)
                simpa using h9
              case measure => simp [intOf]; omega
            · go_wp2
              go_roundw
              case rel =>
                refine ⟨n + 1, _, by omega, by rw [show ((2 * (n + 1) : Nat) : Int) = (m : Int) + 2 by omega], rfl, ?_, hB5⟩
                rw [unhide HR]
                unfold rngT
                rw [if_neg (by omega), if_neg (by omega)]
                have h9 := StrB.app (unhide Ht) (unhide Hu)
                simpa using h9
              case measure => simp [intOf]; omega
        · have hlt' : ¬ ((2 * n : Nat) : Int) + 1 < (xs.length : Int) := by omega
          obtain ⟨m, hm⟩ : ∃ m, m = 2 * n := ⟨_, rfl⟩
          have hmi : ((2 * n : Nat) : Int) = (m : Int) := by omega
          rw [hmi] at hlt' ⊢
          have hnn : Hid (n = xs.length / 2) := by show n = xs.length / 2; omega
          have f3 : IntKind.i64.wrap ((m : Int) + 1) = (m : Int) + 1 := k64i (by omega) (by omega)
          have n1 : ¬ 9223372036854775807 < t.size + 1 := by omega
          have hBr : Below w.heap.size w wr := hBw.trans (hb.mono hBw.size)
          clear hm hmi
          go_wp2
          go_ret
          refine ⟨⟨_, rfl, ?_⟩, hBr⟩
          rw [unhide HT4]
          have h9 := StrB.app (unhide Ht) (b := { data := #[93] }) (ys := [93]) rfl
          rw [unhide hnn] at h9
          exact h9

end Go.Proofs.YtmhafibngbojcaaDoor
