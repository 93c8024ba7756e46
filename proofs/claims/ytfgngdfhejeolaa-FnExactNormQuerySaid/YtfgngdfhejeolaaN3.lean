import Derived.Test.YtfgngdfhejeolaaN1
import Derived.Lib.SliceRun
import Derived.Deep.RegionHeld3
import Derived.Deep.RegionWith
namespace Go.Proofs.Ytfgngdfhejeolaa
open Go.RowKit

/-- The row cut to its first k. -/
theorem own_cut {base e g n cap k : Nat} {w : World} {xs : List Value} (h : w.ownsRow base e 1 (.slice (some ⟨g, 0, none⟩) n cap) n xs) (hk : k ≤ n) : w.ownsRow base e 1 (.slice (some ⟨g, 0, none⟩) k cap) k (xs.take k) := by
  have hlen := h.1
  rcases h.2 with ⟨e0, _⟩ | ⟨g', cap', cur, e0, hb, hg, hn, hm, hs, ht⟩
  · cases e0
  · cases e0
    refine ⟨by rw [List.length_take]; omega, .inr ⟨g, cap, cur, rfl, hb, hg, by omega, hm, hs, ?_⟩⟩
    rw [← ht, List.take_take]
    congr 1
    omega
/-- A store behind the row's end. -/
theorem own_past {base e g cap k j : Nat} {w : World} {xs : List Value} {u : Value} (h : w.ownsRow base e 1 (.slice (some ⟨g, 0, none⟩) k cap) k xs) (hj : k ≤ j) : (w.setCell ⟨g, j, none⟩ u).ownsRow base e 1 (.slice (some ⟨g, 0, none⟩) k cap) k xs := by
  have hlen := h.1
  rcases h.2 with ⟨e0, _⟩ | ⟨g', cap', cur, e0, hb, hg, hn, hm, hs, ht⟩
  · cases e0
  · cases e0
    refine ⟨hlen, .inr ⟨g, cap, cur.setIfInBounds j u, rfl, hb, ?_, hn, hm, by rw [Array.size_setIfInBounds]; exact hs, ?_⟩⟩
    · simp [World.setCell, Array.getElem?_modify, hg]
    · rw [Array.toList_setIfInBounds, List.take_set, ht]
      exact List.set_eq_of_length_le (by omega)
theorem own_pasts {base e g cap k : Nat} : ∀ {us : List Value} {j : Nat} {w : World} {xs : List Value}, w.ownsRow base e 1 (.slice (some ⟨g, 0, none⟩) k cap) k xs → k ≤ j → (w.setCells g j us).ownsRow base e 1 (.slice (some ⟨g, 0, none⟩) k cap) k xs
  | [], _, _, _, h, _ => h
  | _ :: us, j, _, _, h, hj => own_pasts (us := us) (j := j + 1) (own_past h hj) (by omega)
theorem chg_sets {g : Nat} : ∀ {us : List Value} {j : Nat} {w : World}, ChgF (fun k => k = g) w (w.setCells g j us)
  | [], _, _ => ChgF.refl _ _
  | u :: us, j, w => ((ChgF.refl (fun k => k = g) w).put (b := g) (o := j) rfl u).trans (chg_sets (us := us) (j := j + 1))

theorem own_at_s {base n e : Nat} {w : World} {v : Value} {xs : List Value} (h : w.ownsRow base e 1 v n xs) (hp : 0 < n) : ∃ g cap, v = .slice (some ⟨g, 0, none⟩) n cap ∧ ∀ j : Nat, j < n → w.cell? ⟨g, j, none⟩ = xs[j]? := by
  rcases h.2 with ⟨rfl, hz⟩ | ⟨g, cap, cur, rfl, hbg, hg, hnc, hcm, hcs, htake⟩
  · omega
  · exact ⟨g, cap, rfl, fun j hj => h.cellAt j (by omega)⟩

theorem row_at {base e g n cap j : Nat} {w : World} {xs : List Value} (h : w.ownsRow base e 1 (.slice (some ⟨g, 0, none⟩) n cap) n xs) (hj : j < n) : (∃ old, w.cell? ⟨g, j, none⟩ = some old) ∧ ∀ i, w.frozen? ⟨g, i, none⟩ = false := by
  have hlen := h.1
  constructor
  · obtain ⟨_, _, e1, hcl⟩ := own_at_s h (by omega)
    cases e1
    exact ⟨xs[j], by rw [hcl j hj, List.getElem?_eq_getElem (by omega)]⟩
  · intro i
    rcases h.2 with ⟨e0, _⟩ | ⟨g', cap', cur, e0, hb, hg, -⟩
    · cases e0
    · cases e0
      exact frz ⟨cur, _, hg⟩

def dC : Cl Int := ⟨.slice none 0 0, [], 0⟩
/-- Whether the j-th is kept: it is no other list than the one before it. -/
def kpc (ps : List (Cl Int)) (j : Nat) : Bool := decide (j = 0) || decide ((ps[j]?.getD dC).xs ≠ (ps[j - 1]?.getD dC).xs)
def KpC (ps : List (Cl Int)) (j : Nat) : Prop := kpc ps j = true
theorem kpc_iff {ps : List (Cl Int)} {j : Nat} : KpC ps j ↔ j = 0 ∨ (ps[j]?.getD dC).xs ≠ (ps[j - 1]?.getD dC).xs := by unfold KpC kpc; simp
/-- What is kept of the first m. -/
def cpt (ps : List (Cl Int)) : Nat → List (Cl Int)
  | 0 => []
  | m + 1 => if kpc ps m = true then cpt ps m ++ [ps[m]?.getD dC] else cpt ps m
theorem cpt_keep {ps : List (Cl Int)} {m : Nat} (h : KpC ps m) : cpt ps (m + 1) = cpt ps m ++ [ps[m]?.getD dC] := by simp only [cpt]; exact if_pos h
theorem cpt_skip {ps : List (Cl Int)} {m : Nat} (h : ¬ KpC ps m) : cpt ps (m + 1) = cpt ps m := by simp only [cpt]; exact if_neg h
theorem cpt_all {ps : List (Cl Int)} {m : Nat} (hm : m ≤ ps.length) (h : ∀ j, j < m → KpC ps j) : cpt ps m = ps.take m := by
  induction m with
  | zero => simp [cpt]
  | succ m ih =>
    rw [cpt_keep (h m (Nat.lt_succ_self _)), ih (by omega) (fun j hj => h j (by omega)), List.take_add_one]
    simp [show m < ps.length by omega]
theorem cpt_le {ps : List (Cl Int)} (m : Nat) : (cpt ps m).length ≤ m := by
  induction m with
  | zero => simp [cpt]
  | succ m ih =>
    by_cases h : KpC ps m
    · rw [cpt_keep h]; simp; omega
    · rw [cpt_skip h]; omega

theorem equal_yes (u v : Value) (xs ys : List Int) (w : World) (hu : SlAt mI 0 0 w.heap.size w u xs) (hv : SlAt mI 0 0 w.heap.size w v ys) (h : xs = ys) :
    Calls Try.prog 37 #[u, v] w fun e w' => e = .returned (.bool true) ∧ ∃ q, w' = w.drewN q :=
  (equal_any u v xs ys w hu hv).mono (fun _ _ ⟨h1, h2⟩ => ⟨by
    rcases h1.cases with ⟨h3, -⟩ | ⟨-, h4⟩
    · exact h3
    · exact absurd h h4, h2⟩)
theorem equal_no (u v : Value) (xs ys : List Int) (w : World) (hu : SlAt mI 0 0 w.heap.size w u xs) (hv : SlAt mI 0 0 w.heap.size w v ys) (h : ¬ xs = ys) :
    Calls Try.prog 37 #[u, v] w fun e w' => e = .returned (.bool false) ∧ ∃ q, w' = w.drewN q :=
  (equal_any u v xs ys w hu hv).mono (fun _ _ ⟨h1, h2⟩ => ⟨by
    rcases h1.cases with ⟨-, h4⟩ | ⟨h3, -⟩
    · exact absurd h4 h
    · exact h3, h2⟩)

/-- While it is compacted: kk are kept of the first m; dk is what the row holds. -/
structure CI (ps : List (Cl Int)) (m kk : Nat) (dk : List (Cl Int)) : Prop where
  len : dk.length = ps.length
  kept : (cpt ps m).length = kk
  low : dk.take kk = cpt ps m
  high : ∀ j, m ≤ j + 1 → j < ps.length → dk[j]?.getD dC = ps[j]?.getD dC
  lt : kk < m
  le : m ≤ ps.length
theorem CI.start {ps : List (Cl Int)} {k : Nat} (hk : k < ps.length) (hall : ∀ j, j < k → KpC ps j) (hno : ¬ KpC ps k) : CI ps (k + 1) k ps := by
  have e := cpt_all (by omega) hall
  exact ⟨rfl, by rw [cpt_skip hno, e]; simp; omega, by rw [cpt_skip hno, e], fun _ _ _ => rfl, by omega, by omega⟩
theorem CI.skip {ps : List (Cl Int)} {m kk : Nat} {dk : List (Cl Int)} (h : CI ps m kk dk) (hm : m < ps.length) (hno : ¬ KpC ps m) : CI ps (m + 1) kk dk :=
  ⟨h.len, by rw [cpt_skip hno]; exact h.kept, by rw [cpt_skip hno]; exact h.low, fun j h1 h2 => h.high j (by omega) h2, by have := h.lt; omega, by omega⟩
theorem CI.keep {ps : List (Cl Int)} {m kk : Nat} {dk : List (Cl Int)} (h : CI ps m kk dk) (hm : m < ps.length) (hy : KpC ps m) : CI ps (m + 1) (kk + 1) (dk.set kk (ps[m]?.getD dC)) := by
  have h1 := h.lt
  have h2 := h.len
  refine ⟨by simpa using h2, by rw [cpt_keep hy]; simp [h.kept], ?_, fun j k1 k2 => ?_, by omega, by omega⟩
  · rw [cpt_keep hy, ← h.low]
    apply List.ext_getElem
    · simp; omega
    · intro i i1 i2
      simp at i1 i2
      by_cases e : i = kk
      · subst e
        rw [List.getElem_append_right (by simp; omega)]
        simp
      · rw [List.getElem_take, List.getElem_set_ne (by omega), List.getElem_append_left (by simp; omega), List.getElem_take]
  · rw [List.getElem?_set_ne (by omega)]
    exact h.high j (by omega) k2

/-- Whatever is said of a world and holds of it where the block g alone has turned. -/
theorem ok_chg {w w' : World} {g : Nat} {p : Cl Int} (h : p.ok mI 0 3 w) (hne : 0 < p.xs.length → p.b ≠ g) (hc : ChgF (fun k => k = g) w w') : p.ok mI 0 3 w' := h.same (fun hp => hc.block _ (fun e => hne hp e))

theorem zeroIntS (w : World) : (zeroValue 23).run Try.prog w = .ok (.slice none 0 0) w := Try.zeroValue23 w

set_option maxHeartbeats 4000000 in
set_option maxRecDepth 100000 in
theorem compactF_any (base g cap : Nat) (ps : List (Cl Int)) (w : World) (hown : w.ownsRow base 23 1 (.slice (some ⟨g, 0, none⟩) ps.length cap) ps.length (ps.map Cl.v)) (hok : ∀ p ∈ ps, p.ok mI 0 3 w) (hne : ∀ p ∈ ps, 0 < p.xs.length → p.b ≠ g) (hl : ps.length ≤ 1048576) :
    Calls Try.prog 36 #[.slice (some ⟨g, 0, none⟩) ps.length cap, .func (.func 37) #[] #[]] w fun e w' => e = .returned (.slice (some ⟨g, 0, none⟩) (cpt ps ps.length).length cap) ∧ w'.ownsRow base 23 1 (.slice (some ⟨g, 0, none⟩) (cpt ps ps.length).length cap) (cpt ps ps.length).length ((cpt ps ps.length).map Cl.v) ∧ ChgF (fun k => k = g) w w' := by
  obtain ⟨hcp, hcm⟩ := (own_cap hown).le
  unfold maxLen at hcm
  have Hown := hide hown
  have Hok := hide hok
  have Hne := hide hne
  have hrd : Hid (∀ j : Nat, j < ps.length → w.cell? ⟨g, j, none⟩ = some (ps[j]?.getD dC).v) := fun j hj => by
    obtain ⟨g', c', e, hc⟩ := own_at_s hown (by omega)
    cases e
    rw [hc j hj, List.getElem?_map, List.getElem?_eq_getElem hj]
    rfl
  clear hown hok hne
  by_cases h2 : ps.length < 2
  · have h2' : (ps.length : Int) < 2 := by omega
    have e : cpt ps ps.length = ps := by
      rw [cpt_all (Nat.le_refl _) (fun j hj => kpc_iff.2 (Or.inl (by omega))), List.take_length]
    rw [e]
    go_enter Try.func36, Try.ntmps36
    go_wp2
    go_ret
    exact ⟨rfl, unhide Hown, ChgF.refl _ _⟩
  · have h2' : ¬ (ps.length : Int) < 2 := by omega
    go_enter Try.func36, Try.ntmps36
    go_wp2_with fail
    go_loopw [5] (fun i wr => (∃ k : Nat, 1 ≤ k ∧ k ≤ ps.length ∧ i = .int .i64 k ∧ ∀ j : Nat, j < k → KpC ps j) ∧ ∃ q, wr = w.drewN q) (fun i _ => ps.length - (intOf i).toNat)
    case atStart => exact ⟨⟨1, Nat.le_refl _, by omega, rfl, fun j hj => kpc_iff.2 (Or.inl (by omega))⟩, 0, rfl⟩
    case round =>
      obtain ⟨⟨k, hk1, hk, rfl, hall⟩, q, rfl⟩ := hrel
      have Hall := hide hall
      clear hall
      by_cases hlt : k < ps.length
      · obtain ⟨k, rfl⟩ : ∃ j, k = j + 1 := ⟨k - 1, by omega⟩
        have hlt' : (k : Int) + 1 < (ps.length : Int) := by omega
        have hlt0 : (k : Int) < (ps.length : Int) := by omega
        have hp1 : (0 : Int) ≤ (k : Int) + 1 := by omega
        have hki : IntKind.i64.wrap (k : Int) = (k : Int) := k64i (by omega) (by omega)
        have hx := unhide hrd (k + 1) hlt
        have hy := unhide hrd k (by omega)
        have hm1 : ps[k + 1]?.getD dC ∈ ps := by rw [List.getElem?_eq_getElem hlt]; exact List.getElem_mem hlt
        have hm2 : ps[k]?.getD dC ∈ ps := by rw [List.getElem?_eq_getElem (by omega)]; exact List.getElem_mem _
        have S1 := hide (unhide Hok _ hm1).at
        have S2 := hide (unhide Hok _ hm2).at
        have HK : Hid (KpC ps (k + 1) ↔ (ps[k + 1]?.getD dC).xs ≠ (ps[k]?.getD dC).xs) := by rw [kpc_iff]; exact ⟨fun h => h.resolve_left (by omega), Or.inr⟩
        clear hm1 hm2
        generalize ps[k + 1]?.getD dC = p at *
        generalize ps[k]?.getD dC = r at *
        obtain ⟨a1, c1, e1⟩ : ∃ a c, p.v = .slice a p.xs.length c := by obtain ⟨a, c, e, -⟩ := unhide S1; exact ⟨a, c, e⟩
        obtain ⟨a2, c2, e2⟩ : ∃ a c, r.v = .slice a r.xs.length c := by obtain ⟨a, c, e, -⟩ := unhide S2; exact ⟨a, c, e⟩
        rw [e1] at hx S1
        rw [e2] at hy S2
        clear e1 e2
        obtain ⟨W, hW⟩ : ∃ W, w.drewN q = W := ⟨_, rfl⟩
        have HW := hide hW
        replace hx : W.cell? ⟨g, k + 1, none⟩ = some (.slice a1 p.xs.length c1) := by rw [← hW]; exact hx
        replace hy : W.cell? ⟨g, k, none⟩ = some (.slice a2 r.xs.length c2) := by rw [← hW]; exact hy
        replace S1 : Hid (SlAt mI 0 0 W.heap.size W (.slice a1 p.xs.length c1) p.xs) := by rw [← hW]; exact unhide S1
        replace S2 : Hid (SlAt mI 0 0 W.heap.size W (.slice a2 r.xs.length c2) r.xs) := by rw [← hW]; exact unhide S2
        rw [hW]
        clear hW
        by_cases hdup : p.xs = r.xs
        · have hno : Hid (¬ KpC ps (k + 1)) := fun h => (unhide HK).1 h hdup
          have Hdup := hide hdup
          clear HK hdup
          go_wp2_with fail
          go_quiet ((go_at_call 37; refine Calls.quiet_of (equal_yes _ _ _ _ _ (by exact unhide S1) (by exact unhide S2) (unhide Hdup))))
          go_wp2_with fail
          have hci := hide (CI.start hlt (unhide Hall) (unhide hno))
          have HW2 : Hid (ChgF (fun k => k = g) w (W.drewN nq)) := by rw [← unhide HW]; exact ⟨rfl, rfl, rfl, rfl, fun _ _ => rfl⟩
          have Hown2 : Hid ((W.drewN nq).ownsRow base 23 1 (.slice (some ⟨g, 0, none⟩) ps.length cap) ps.length (ps.map Cl.v)) := by rw [← unhide HW]; exact unhide Hown
          clear hx hy S1 S2 HW Hdup hno Hall hrd hki hp1 hlt0 hlt'
          generalize W.drewN nq = V at *
          obtain ⟨L, hL⟩ : ∃ L, ps.length - (k + 1) = L := ⟨_, rfl⟩
          have hL2 : ps.length = k + 1 + L := by omega
          have HL2 := hide hL2
          have hnle : k + 1 + L ≤ ps.length := by omega
          have hnge : ps.length ≤ k + 1 + L := by omega
          rw [hL]
          clear hL hL2
          go_loopw [5, 7] (fun kv k2v wr => ∃ (kk j : Nat) (dk : List (Cl Int)), kv = .int .i64 kk ∧ k2v = .int .i64 ((j : Int) + 1) ∧ j + 1 ≤ L ∧ CI ps (k + 1 + (j + 1)) kk dk ∧ wr.ownsRow base 23 1 (.slice (some ⟨g, 0, none⟩) ps.length cap) ps.length (dk.map Cl.v) ∧ ChgF (fun k => k = g) w wr) (fun _ k2v _ => L - (intOf k2v).toNat)
          case atStart => exact ⟨k + 1, 0, ps, by go_num, rfl, by omega, unhide hci, unhide Hown2, unhide HW2⟩
          case round =>
            clear hci Hown2 HW2
            obtain ⟨kk, j, dk, rfl, rfl, hjL, hci, hown, hch⟩ := hrel
            have hkk := hci.lt
            have Hci := hide hci
            have Hown' := hide hown
            have Hch := hide hch
            by_cases hj : j + 1 < L
            · have hj' : (j : Int) + 1 < (L : Int) := by omega
              have hj0 : (j : Int) < (L : Int) := by omega
              have hp1 : (0 : Int) ≤ (j : Int) + 1 := by omega
              have hki : IntKind.i64.wrap (j : Int) = (j : Int) := k64i (by omega) (by omega)
              have hkn : (kk : Int) < (ps.length : Int) := by omega
              obtain ⟨g', c', e, hcl⟩ := own_at_s hown (by omega)
              cases e
              have hx : wr.cell? ⟨g, k + 1 + (j + 1), none⟩ = some (ps[k + 1 + (j + 1)]?.getD dC).v := by
                rw [hcl _ (by omega), List.getElem?_map, List.getElem?_eq_getElem (by rw [hci.len]; omega), ← hci.high _ (by omega) (by omega), List.getElem?_eq_getElem (by rw [hci.len]; omega)]
                rfl
              have hy : wr.cell? ⟨g, k + 1 + j, none⟩ = some (ps[k + 1 + j]?.getD dC).v := by
                rw [hcl _ (by omega), List.getElem?_map, List.getElem?_eq_getElem (by rw [hci.len]; omega), ← hci.high _ (by omega) (by omega), List.getElem?_eq_getElem (by rw [hci.len]; omega)]
                rfl
              obtain ⟨old, hold⟩ : ∃ old, wr.cell? ⟨g, kk, none⟩ = some old := ⟨_, by rw [hcl _ (by omega), List.getElem?_map, List.getElem?_eq_getElem (by rw [hci.len]; omega)]; rfl⟩
              have hfz : wr.frozen? ⟨g, kk, none⟩ = false := by
                rcases hown.2 with ⟨e0, _⟩ | ⟨g', cap', cur, e0, hb, hg, -⟩
                · cases e0
                · cases e0
                  exact frz ⟨cur, _, hg⟩
              have hm1 : ps[k + 1 + (j + 1)]?.getD dC ∈ ps := by rw [List.getElem?_eq_getElem (by omega)]; exact List.getElem_mem _
              have hm2 : ps[k + 1 + j]?.getD dC ∈ ps := by rw [List.getElem?_eq_getElem (by omega)]; exact List.getElem_mem _
              have S1 := hide (ok_chg (unhide Hok _ hm1) (unhide Hne _ hm1) hch).at
              have S2 := hide (ok_chg (unhide Hok _ hm2) (unhide Hne _ hm2) hch).at
              have HK : Hid (KpC ps (k + 1 + (j + 1)) ↔ (ps[k + 1 + (j + 1)]?.getD dC).xs ≠ (ps[k + 1 + j]?.getD dC).xs) := by
                rw [kpc_iff, show k + 1 + (j + 1) - 1 = k + 1 + j by omega]
                exact ⟨fun h => h.resolve_left (by omega), Or.inr⟩
              have Hkeep : Hid (KpC ps (k + 1 + (j + 1)) → CI ps (k + 1 + (j + 1 + 1)) (kk + 1) (dk.set kk (ps[k + 1 + (j + 1)]?.getD dC))) := fun h => hci.keep (by omega) h
              have Hskip : Hid (¬ KpC ps (k + 1 + (j + 1)) → CI ps (k + 1 + (j + 1 + 1)) kk dk) := fun h => hci.skip (by omega) h
              clear hm1 hm2 hcl hci hown hch
              generalize ps[k + 1 + (j + 1)]?.getD dC = p at *
              generalize ps[k + 1 + j]?.getD dC = r at *
              obtain ⟨a1, c1, e1⟩ : ∃ a c, p.v = .slice a p.xs.length c := by obtain ⟨a, c, e, -⟩ := unhide S1; exact ⟨a, c, e⟩
              obtain ⟨a2, c2, e2⟩ : ∃ a c, r.v = .slice a r.xs.length c := by obtain ⟨a, c, e, -⟩ := unhide S2; exact ⟨a, c, e⟩
              have E1 := hide e1
              rw [e1] at hx S1
              rw [e2] at hy S2
              clear e1 e2
              by_cases hdup : p.xs = r.xs
              · have hn := hide (unhide Hskip (fun h => (unhide HK).1 h hdup))
                have Hdup := hide hdup
                clear HK hdup Hkeep Hskip
                go_wp2_with fail
                go_quiet ((go_at_call 37; refine Calls.quiet_of (equal_yes _ _ _ _ _ (by exact unhide S1) (by exact unhide S2) (unhide Hdup))))
                go_wp2
                go_roundw
                case rel => exact ⟨kk, j + 1, dk, rfl, by go_num, by omega, unhide hn, unhide Hown', ⟨(unhide Hch).os, (unhide Hch).tape, (unhide Hch).output, (unhide Hch).size, (unhide Hch).block⟩⟩
                case measure => simp [intOf]; omega
              · have hn := hide (unhide Hkeep ((unhide HK).2 hdup))
                have Hdup := hide hdup
                clear HK hdup Hkeep Hskip
                go_wp2_with fail
                go_quiet ((go_at_call 37; refine Calls.quiet_of (equal_no _ _ _ _ _ (by exact unhide S1) (by exact unhide S2) (unhide Hdup))))
                go_wp2
                go_roundw
                case rel => exact ⟨kk + 1, j + 1, dk.set kk p, by go_num, by go_num, by omega, unhide hn, by rw [List.map_set, unhide E1]; exact own_set (w := wr.drewN nq) (unhide Hown') (by omega), (ChgF.trans (b := wr.drewN nq) ⟨(unhide Hch).os, (unhide Hch).tape, (unhide Hch).output, (unhide Hch).size, (unhide Hch).block⟩ ((ChgF.refl (fun k => k = g) _).put (b := g) rfl _))⟩
                case measure => simp [intOf]; omega
            · have hjL2 : j + 1 = L := by omega
              subst hjL2
              have hfin : Hid (CI ps ps.length kk dk) := by
                have e : k + 1 + (j + 1) = ps.length := by omega
                rw [← e]
                exact hci
              have hkn : kk < ps.length := by omega
              have hkn' : (kk : Int) < (ps.length : Int) := by omega
              have hkc : (kk : Int) ≤ (cap : Int) := by omega
              have hcl : ∀ ty, (Builtin.clear_ #[31] ty #[.slice (some ⟨g, kk, none⟩) (ps.length - kk) (cap - kk)]).run Try.prog wr = .ok (.tuple #[]) (wr.setCells g kk (List.replicate (ps.length - kk) (.slice none 0 0))) := fun ty => by
                have hown2 := hown
                obtain ⟨g', c', e, hc2⟩ := own_at_s hown (by omega)
                cases e
                refine Lib.run_clear_slice wr _ _ ty _ Try.underlying31 (fun w => zeroIntS w) rfl rfl g kk _ _ (by omega) (fun i hi => ?_) (fun i hi => ?_)
                · rw [hc2 _ (by omega), List.getElem?_map, List.getElem?_eq_getElem (by rw [hci.len]; omega)]
                  rfl
                · rcases hown2.2 with ⟨e0, _⟩ | ⟨g', cap', cur, e0, hb, hg, -⟩
                  · cases e0
                  · cases e0
                    exact frz ⟨cur, _, hg⟩
              clear hci hown hch
              go_wp2
              go_ret
              have h1 := (unhide hfin).kept
              have h2 := (unhide hfin).low
              rw [h1]
              refine ⟨rfl, ?_, (unhide Hch).trans chg_sets⟩
              have h3 := own_cut (k := kk) (unhide Hown') (by omega)
              rw [← List.map_take, h2] at h3
              exact own_pasts h3 (Nat.le_refl _)
        · have hyes : Hid (KpC ps (k + 1)) := (unhide HK).2 hdup
          have Hdup := hide hdup
          clear HK hdup
          go_wp2_with fail
          go_quiet ((go_at_call 37; refine Calls.quiet_of (equal_no _ _ _ _ _ (by exact unhide S1) (by exact unhide S2) (unhide Hdup))))
          go_wp2
          go_roundw
          case rel => exact ⟨⟨k + 1 + 1, by omega, by omega, by go_num, fun j hj => by
            by_cases e : j = k + 1
            · subst e; exact unhide hyes
            · exact unhide Hall j (by omega)⟩, q + nq, by rw [← unhide HW, drew2]⟩
          case measure => simp [intOf]; omega
      · obtain rfl : k = ps.length := by omega
        have e : Hid (cpt ps ps.length = ps) := by show cpt ps ps.length = ps; rw [cpt_all (Nat.le_refl _) (unhide Hall), List.take_length]
        go_wp2
        go_ret
        rw [unhide e]
        exact ⟨rfl, unhide Hown, ⟨rfl, rfl, rfl, rfl, fun _ _ => rfl⟩⟩

end Go.Proofs.Ytfgngdfhejeolaa
