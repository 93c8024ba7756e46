import Derived.Test.YtcmofgehhdfifaaGreatDoorPk16
import Derived.Deep.AppendLies
import Derived.Deep.RegionLaw
import Derived.Test.YtcmofgehhdfifaaGreatDoorPt15
import Derived.Defers
import Derived.Recover
import Derived.Test.YtcmofgehhdfifaaGreatDoorPz10
import Derived.Test.YtcmofgehhdfifaaGreatDoorPk10
import Derived.Test.YtcmofgehhdfifaaGreatDoorC5
namespace Go.Proofs.YtcmofgehhdfifaaGreatDoor
open Go.RowKit
theorem joinParts_l (base n : Nat) (v : Value) (vals : List Value) (w : World) (hown : w.ownsRow base 59 1 v n vals) (hn : 0 < n) (hif : ∀ u ∈ vals, ∃ T x, u = .iface T x) (hl : n ≤ 1000000) :
    Calls Tryz.prog 89 #[v] w fun e w' => e = .returned (jV vals) ∧ w' = w := by
  have h1 := hown.1
  rw [Nat.mul_one] at h1
  cases vals with
  | nil => simp at h1; omega
  | cons p r =>
    have e : n = r.length + 1 := by rw [← h1]; rfl
    subst e
    exact joinParts_any base v p r w hown hif (by omega)
theorem catEnd_pk (xs : List Int) (i : Nat) (hb : ∀ x ∈ xs, 0 ≤ x) : catEnd (xs.drop i) = true ↔ (pkB xs i = 124 ∨ pkB xs i = 41 ∨ pkB xs i = 36 ∨ pkB xs i = -1) := by
  by_cases hlt : i < xs.length
  · have hx := hb (xs[i]) (List.getElem_mem hlt)
    unfold pkB
    rw [List.drop_eq_getElem_cons hlt, List.getElem?_eq_getElem hlt]
    simp [catEnd]
    constructor
    · rintro ((h | h) | h) <;> simp [h]
    · rintro (h | h | h | h)
      · simp [h]
      · simp [h]
      · simp [h]
      · omega
  · unfold pkB
    rw [List.drop_eq_nil_of_le (by omega), List.getElem?_eq_none (by omega)]
    simp [catEnd]
set_option maxHeartbeats 2000000 in
theorem atCatEnd_any (w : World) (N q : Nat) (tv : Value) (xs : List Int) (at' d : Nat) (ov : Bool) (h : Rdr w N q tv xs at' d ov) (hb : ∀ x ∈ xs, 0 ≤ x ∧ x ≤ 255) (ha : at' ≤ xs.length) (hl : xs.length ≤ 100000) :
    Calls Tryz.prog 87 #[.pointer (some ⟨q, 0, none⟩)] w fun e w' => e = .returned (.bool (catEnd (xs.drop at'))) ∧ ∃ n, w' = w.drewN n := by
  have HP := hide (peek_any w N q tv xs at' d ov h hb ha hl)
  have hce := catEnd_pk xs at' (fun x hx => (hb x hx).1)
  obtain ⟨y, hy⟩ : ∃ y, y = pkB xs at' := ⟨_, rfl⟩
  rw [← hy] at HP hce
  obtain ⟨ce, hc9⟩ : ∃ ce, ce = catEnd (xs.drop at') := ⟨_, rfl⟩
  rw [← hc9] at hce ⊢
  have HC := hide hce
  clear h hb hy hce hc9
  by_cases e1 : y = 124
  · have hh : ce = true := (unhide HC).2 (.inl e1)
    subst e1 hh
    go_enter Tryz.func87, Tryz.ntmps87
    go_wp2_with fail
    refine (unhide HP).mono ?_
    rintro e w1 ⟨rfl, n1, rfl⟩
    go_wp2
    go_ret
    exact ⟨rfl, _, rfl⟩
  by_cases e2 : y = 41
  · have hh : ce = true := (unhide HC).2 (.inr (.inl e2))
    subst e2 hh
    go_enter Tryz.func87, Tryz.ntmps87
    go_wp2_with fail
    refine (unhide HP).mono ?_
    rintro e w1 ⟨rfl, n1, rfl⟩
    go_wp2
    go_ret
    exact ⟨rfl, _, rfl⟩
  by_cases e3 : y = 36
  · have hh : ce = true := (unhide HC).2 (.inr (.inr (.inl e3)))
    subst e3 hh
    go_enter Tryz.func87, Tryz.ntmps87
    go_wp2_with fail
    refine (unhide HP).mono ?_
    rintro e w1 ⟨rfl, n1, rfl⟩
    go_wp2
    go_ret
    exact ⟨rfl, _, rfl⟩
  by_cases e4 : y = -1
  · have hh : ce = true := (unhide HC).2 (.inr (.inr (.inr e4)))
    subst e4 hh
    go_enter Tryz.func87, Tryz.ntmps87
    go_wp2_with fail
    refine (unhide HP).mono ?_
    rintro e w1 ⟨rfl, n1, rfl⟩
    go_wp2
    go_ret
    exact ⟨rfl, _, rfl⟩
  have hh : ce = false := by
    cases ce with
    | false => rfl
    | true =>
      rcases (unhide HC).1 rfl with h | h | h | h
      · exact absurd h e1
      · exact absurd h e2
      · exact absurd h e3
      · exact absurd h e4
  subst hh
  go_enter Tryz.func87, Tryz.ntmps87
  go_wp2_with fail
  refine (unhide HP).mono ?_
  rintro e w1 ⟨rfl, n1, rfl⟩
  go_wp2
  go_ret
  exact ⟨rfl, _, rfl⟩
theorem jV_snoc {vs : List Value} (h : vs ≠ []) (u : Value) : jV (vs ++ [u]) = cV (jV vs) u := by
  match vs, h with
  | p :: r, _ => simp [jV]
theorem jV_ifc {vs : List Value} (h : vs ≠ []) (hi : ∀ u ∈ vs, ∃ Y x, u = .iface Y x) : ∃ Y x, jV vs = .iface Y x := by
  match vs, h with
  | p :: r, _ => exact foldV r p (hi p (by simp))
structure CtI (xs : List Int) (at' i d : Nat) (ov o : Bool) (vs : List Value) (T : Tr) (ts : List Tk) : Prop where
  bal : wl 0 ts = some 0
  ifa : ∀ u ∈ vs, ∃ Y x, u = .iface Y x
  ovq : o = (ov || ovr 100 250 d ts)
  emp : vs = [] → i = at' ∧ ts = []
  full : vs ≠ [] → (∀ y, Ev (fun n => rdCatL n T ts (xs.drop i)) y → Ev (fun n => rdCat n (xs.drop at')) y) ∧ (o = false → NdV (jV vs) T)
  ge : at' ≤ i
  few : vs.length ≤ i - at'
theorem CtI.bad {xs : List Int} {at' i d : Nat} {ov o : Bool} {vs : List Value} {T : Tr} {ts : List Tk} (h : CtI xs at' i d ov o vs T ts) (hc : catEnd (xs.drop i) = false) (hn : Ev (fun n => rdItem n (xs.drop i)) none) : Ev (fun n => rdCat n (xs.drop at')) none := by
  by_cases e : vs = []
  · obtain ⟨rfl, -⟩ := h.emp e
    exact Ev.bind0 (k := fun n (x : Tr × List Tk × List Int) => rdCatL n x.1 x.2.1 x.2.2) hn (fun n => by rw [rdCat_s, if_neg (by rw [hc]; simp)])
  · exact (h.full e).1 _ (Ev.bind0 (k := fun n (x : Tr × List Tk × List Int) => rdCatL n (.cat T x.1) (ts ++ x.2.1) x.2.2) hn (fun n => by rw [rdCatL_s, if_neg (by rw [hc]; simp)]))
theorem CtI.next {xs : List Int} {at' i j d : Nat} {ov o o2 : Bool} {vs : List Value} {T B : Tr} {ts us : List Tk} {Y : TypeId} {x : Value} (h : CtI xs at' i d ov o vs T ts) (hd : 100 < d → ov = true) (hc : catEnd (xs.drop i) = false) (hev : Ev (fun n => rdItem n (xs.drop i)) (some (B, us, xs.drop j))) (hwl : wl 0 us = some 0) (ho : o2 = (o || ovr 100 250 d us)) (hnd : o2 = false → NdV (.iface Y x) B) (hj : i + 1 ≤ j) : ∃ T' ts', CtI xs at' j d ov o2 (vs ++ [.iface Y x]) T' ts' := by
  have hif : ∀ u ∈ vs ++ [.iface Y x], ∃ Y x, u = .iface Y x := fun u hu => by
    rcases List.mem_append.1 hu with hu | hu
    · exact h.ifa u hu
    · exact ⟨Y, x, List.mem_singleton.1 hu⟩
  have hge := h.ge
  have hfew := h.few
  by_cases e : vs = []
  · obtain ⟨hi, ht⟩ := h.emp e
    subst hi ht e
    have ho1 : o = ov := by rw [h.ovq, ov_nil hd]
    refine ⟨B, us, hwl, hif, by rw [ho, ho1], fun e => by simp at e, fun _ => ⟨fun y hy => ?_, hnd⟩, by omega, by simp; omega⟩
    exact Ev.bind (k := fun n (x : Tr × List Tk × List Int) => rdCatL n x.1 x.2.1 x.2.2) hev hy (fun n => by rw [rdCat_s, if_neg (by rw [hc]; simp)])
  · obtain ⟨h1, h2⟩ := h.full e
    refine ⟨.cat T B, ts ++ us, wl_cat h.bal hwl, hif, by rw [ho, h.ovq, ovr_app h.bal, Bool.or_assoc], fun e => by simp at e, fun _ => ⟨fun y hy => ?_, fun hf => ?_⟩, by omega, by simp; omega⟩
    · exact h1 y (Ev.bind (k := fun n (x : Tr × List Tk × List Int) => rdCatL n (.cat T x.1) (ts ++ x.2.1) x.2.2) hev hy (fun n => by rw [rdCatL_s, if_neg (by rw [hc]; simp)]))
    · rw [jV_snoc e]
      have ho9 : o = false := by rw [hf] at ho; cases o with
        | false => rfl
        | true => simp at ho
      exact NdV.cat (h2 ho9) (hnd hf)
theorem CtI.stop {xs : List Int} {at' i d : Nat} {ov o : Bool} {vs : List Value} {T : Tr} {ts : List Tk} (h : CtI xs at' i d ov o vs T ts) (hd : 100 < d → ov = true) (hc : catEnd (xs.drop i) = true) : (vs = [] → Ev (fun n => rdCat n (xs.drop at')) (some (.e, [], xs.drop i)) ∧ o = ov) ∧ (vs ≠ [] → Ev (fun n => rdCat n (xs.drop at')) (some (T, ts, xs.drop i))) := by
  refine ⟨fun e => ?_, fun e => ?_⟩
  · obtain ⟨rfl, rfl⟩ := h.emp e
    exact ⟨Ev.const (fun n => by rw [rdCat_s, if_pos hc]), by rw [h.ovq, ov_nil hd]⟩
  · exact (h.full e).1 _ (Ev.const (fun n => by rw [rdCatL_s, if_pos hc]))
theorem Rdr.kb {w w' : World} {N q m : Nat} {tv : Value} {xs : List Int} {at' d : Nat} {ov : Bool} (h : Rdr w N q tv xs at' d ov) (hb : Below m w w') (hm : q < m) : Rdr w' N q tv xs at' d ov := by
  have := h.lt
  exact ⟨World.rowIs.of_block h.row (hb.block q hm), h.txt.undr hb (by omega), h.lt⟩
theorem gw_below {q : Nat} {w a b : World} (h : Gw q w a) (hb : Below w.heap.size a b) : Gw q w b := ⟨hb.os.trans h.os, hb.tape.trans h.tape, hb.output.trans h.output, Nat.le_trans h.size hb.size, fun k hk hq => (hb.block k hk).trans (h.block k hk hq)⟩
theorem own_gw {q base e sz n : Nat} {w w' : World} {v : Value} {xs : List Value} (h : w.ownsRow base e sz v n xs) (hG : Gw q w w') (hq : q < base) : w'.ownsRow base e sz v n xs := own_blk h (fun k hk => hG.block k (own_lt h k hk) (by have := (h.lt k hk).1; omega))
set_option maxHeartbeats 8000000 in
set_option maxRecDepth 100000 in
theorem readCat_any (w : World) (N q : Nat) (tv : Value) (xs : List Int) (at' d : Nat) (ov : Bool) (h : Rdr w N q tv xs at' d ov) (hb : ∀ x ∈ xs, 0 ≤ x ∧ x ≤ 255) (ha : at' ≤ xs.length) (hl : xs.length ≤ 100000) (hd : d ≤ at') (ho : 100 < d → ov = true) (m : Nat) (hA : AltH N q tv xs m) (hm : xs.length - at' ≤ m) :
    Calls Tryz.prog 72 #[.pointer (some ⟨q, 0, none⟩)] w fun e w' => NdR rdCat 0 e w w' N q tv xs at' d ov := by
  obtain ⟨i0, hi0, hz0, hz1, hz2⟩ := info_parts Tryz.info59
  have hqs := h.in
  have H := hide h
  have HB := hide hb
  have HA := hide hA
  have HO := hide ho
  clear h hb hA ho
  go_enter Tryz.func72, Tryz.ntmps72
  go_wp2_with fail
  go_loopw [3] (fun iv wr => ∃ (i : Nat) (o : Bool) (vs : List Value) (T : Tr) (ts : List Tk), CtI xs at' i d ov o vs T ts ∧ i ≤ xs.length ∧ Rdr wr N q tv xs i d o ∧ wr.ownsRow w.heap.size 59 1 iv vs.length vs ∧ Gw q w wr) (fun _ wr => xs.length - posOf q wr)
  case atStart => exact ⟨at', ov, [], .e, [], ⟨rfl, fun u hu => by simp at hu, (ov_nil (unhide HO)).symm, fun _ => ⟨rfl, rfl⟩, fun e => absurd rfl e, Nat.le_refl _, Nat.zero_le _⟩, ha, unhide H, World.ownsRow_nil _ _ _ _, Gw.refl q w⟩
  case round =>
    clear H
    obtain ⟨i, o, vs, T, ts, hI, hi, hR, hown, hG⟩ := hrel
    obtain ⟨w3, rfl⟩ : ∃ w3, w3 = wr := ⟨_, rfl⟩
    obtain ⟨nv, hnv⟩ : ∃ nv, nv = vs.length := ⟨_, rfl⟩
    rw [← hnv] at hown
    have hfew := hI.few
    rw [← hnv] at hfew
    have hge := hI.ge
    obtain ⟨oa, oc, rfl⟩ := own_is hown
    have HC := hide (atCatEnd_any w3 N q tv xs i d o hR (unhide HB) hi hl)
    have HR := hide hR
    have HOWN := hide hown
    have HG := hide hG
    have HI := hide hI
    have HPO := hide hR.pos
    have HNV := hide hnv
    have hz3 := hG.size
    clear hR hown hG hI hnv
    obtain ⟨ce, hce⟩ : ∃ ce, ce = catEnd (xs.drop i) := ⟨_, rfl⟩
    rw [← hce] at HC
    cases ce with
    | false =>
      have HCE := hide hce.symm
      clear hce
      go_wp2_with fail
      refine (unhide HC).mono ?_
      rintro e w4 ⟨rfl, n4, rfl⟩
      have hdi : d ≤ i := by omega
      have hoi : 100 < d → o = true := fun h => by rw [(unhide HI).ovq, unhide HO h]; rfl
      have HIT := hide (readItem_any (w3.drewN n4) N q tv xs i d o ((unhide HR).drewN n4) (unhide HB) hi hl hdi hoi m (unhide HA) (by omega))
      clear HC hoi
      go_wp2_with fail
      refine (unhide HIT).mono ?_
      rintro e w5 ⟨hG5, ⟨hno, z, rfl⟩ | ⟨u, B, us, at2, hev, hle2, hge2, hwl, rfl, ⟨Y, x, rfl⟩, hR5, hnd⟩⟩
      · have HX := hide ((unhide HI).bad (unhide HCE) hno)
        have HG5 := hide (((unhide HG).trans (obk_drewN q w3 n4).gw).trans hG5)
        clear hno hG5 HIT
        go_wp2
        exact ⟨rfl, unhide HG5, .inl ⟨unhide HX, _, rfl⟩⟩
      · obtain ⟨o2, ho2⟩ : ∃ o2, o2 = (o || ovr 100 250 d us) := ⟨_, rfl⟩
        rw [← ho2] at hR5 hnd
        have HI2 := hide ((unhide HI).next (unhide HO) (unhide HCE) hev hwl ho2 hnd hge2)
        have HG5 := hide (((unhide HG).trans (obk_drewN q w3 n4).gw).trans hG5)
        have HOWN5 := hide (own_gw (unhide HOWN) ((obk_drewN q w3 n4).gw.trans hG5) (by omega))
        have HR5 := hide hR5
        have hz5 := (unhide HG5).size
        have hlt2 : i < at2 := by omega
        go_wp2_with (at_builtin; refine wpList_append_own _ rfl _ _ 95 rfl w.heap.size 59 i0 .nilIface 1 16 Tryz.underlying95 hi0 hz0 hz1 hz2 rfl (by decide) _ _ _ rfl ((unhide HOWN5).alloc _) ⟨w5.heap.size, 0, none⟩ 1 1 [.iface Y x] rfl rfl ?_ ?_ ?_ ?_ ?_ ?_)
        · exact cell_one (by simp)
        · intro u hu; simp at hu; subst hu; rfl
        · unfold maxLen; omega
        · omega
        · simp only [sz_alloc]; omega
        intro v' w' h1 hg _
        have hB : Below w.heap.size w5 w' := ((below1 w5 (.cells #[.iface Y x] 59)).mono hz5).grown hg (by rw [sz_alloc]; omega) (fun k hk => ((unhide HOWN5).lt k hk).1)
        have HR6 := hide ((unhide HR5).kb hB hqs)
        have HG6 := hide (gw_below (unhide HG5) hB)
        have HN2 : Hid (nv + 1 = (vs ++ [Value.iface Y x]).length) := by show _ = _; rw [List.length_append, ← unhide HNV]; rfl
        have H1 := hide h1
        have HM9 : Hid (xs.length - at2 < xs.length - i) := by show _ < _; omega
        clear h1 hg hB
        go_wp2
        go_roundw
        case rel =>
          obtain ⟨T', ts', hI2⟩ := unhide HI2
          exact ⟨at2, o2, vs ++ [.iface Y x], T', ts', hI2, hle2, unhide HR6, by rw [← unhide HN2]; exact unhide H1, unhide HG6⟩
        case measure => rw [(unhide HR6).pos, unhide HPO]; exact unhide HM9
    | true =>
      obtain ⟨hs1, hs2⟩ := (unhide HI).stop (unhide HO) hce.symm
      have HS1 := hide hs1
      have HS2 := hide hs2
      clear hce hs1 hs2
      by_cases hv : vs = []
      · have hn0 : nv = 0 := by rw [unhide HNV, hv]; rfl
        subst hn0
        obtain ⟨hev, hoo⟩ := unhide HS1 hv
        have HEV := hide hev
        have HOO := hide hoo
        clear hv hev hoo
        go_wp2_with fail
        refine (unhide HC).mono ?_
        rintro e w4 ⟨rfl, n4, rfl⟩
        go_wp2
        go_ret
        refine ⟨(unhide HG).trans (obk_drewN q w3 n4).gw, .inr ⟨eV, .e, [], i, unhide HEV, hi, hge, rfl, rfl, ⟨_, _, rfl⟩, ?_, fun _ => NdV.e⟩⟩
        rw [ov_nil (unhide HO), ← unhide HOO]
        exact (unhide HR).drewN n4
      · have hn1 : 0 < nv := by rw [unhide HNV]; exact List.length_pos_iff.2 hv
        have hn2 : ¬ (nv : Int) = 0 := by omega
        have HEV := hide (unhide HS2 hv)
        have HV := hide hv
        clear hv
        go_wp2_with fail
        refine (unhide HC).mono ?_
        rintro e w4 ⟨rfl, n4, rfl⟩
        have HJ := hide (joinParts_l w.heap.size nv (.slice oa nv oc) vs (w3.drewN n4) (own_gw (unhide HOWN) (obk_drewN q w3 n4).gw (by omega)) hn1 (unhide HI).ifa (by omega))
        go_wp2_with fail
        refine (unhide HJ).mono ?_
        rintro e w5 ⟨rfl, rfl⟩
        obtain ⟨Y, x, hjv⟩ := jV_ifc (unhide HV) (unhide HI).ifa
        have hnd := ((unhide HI).full (unhide HV)).2
        rw [hjv] at hnd ⊢
        have HND := hide hnd
        have HBAL := hide (unhide HI).bal
        have HOV := hide (unhide HI).ovq
        clear hjv hnd HJ HC
        go_wp2
        go_ret
        refine ⟨(unhide HG).trans (obk_drewN q w3 n4).gw, .inr ⟨.iface Y x, T, ts, i, unhide HEV, hi, hge, unhide HBAL, rfl, ⟨_, _, rfl⟩, ?_, ?_⟩⟩
        · rw [← unhide HOV]; exact (unhide HR).drewN n4
        · rw [← unhide HOV]; exact unhide HND
structure AlI (xs : List Int) (at' i d : Nat) (ov o : Bool) (u : Value) (T : Tr) (ts : List Tk) : Prop where
  bal : wl 0 ts = some 0
  ovq : o = (ov || ovr 100 250 d ts)
  go : ∀ y, Ev (fun n => rdAltL n T ts (xs.drop i)) y → Ev (fun n => rdAlt n (xs.drop at')) y
  nd : o = false → NdV u T
  ge : at' ≤ i
theorem AlI.bad {xs : List Int} {at' i d : Nat} {ov o : Bool} {u : Value} {T : Tr} {ts : List Tk} {r : List Int} (h : AlI xs at' i d ov o u T ts) (hc : xs.drop i = 124 :: r) (hn : Ev (fun n => rdCat n r) none) : Ev (fun n => rdAlt n (xs.drop at')) none := by
  apply h.go
  rw [hc]
  exact Ev.bind0 (k := fun n (x : Tr × List Tk × List Int) => rdAltL n (.alt T x.1) (ts ++ .inr (.inr (.inr ())) :: x.2.1) x.2.2) hn (fun n => by rw [rdAltL_c, if_pos rfl])
theorem AlI.next {xs : List Int} {at' i j d : Nat} {ov o o2 : Bool} {u v : Value} {T B : Tr} {ts us : List Tk} (h : AlI xs at' i d ov o u T ts) (hc : xs.drop i = 124 :: xs.drop (i + 1)) (hev : Ev (fun n => rdCat n (xs.drop (i + 1))) (some (B, us, xs.drop j))) (hwl : wl 0 us = some 0) (ho : o2 = (o || ovr 100 250 d us)) (hnd : o2 = false → NdV v B) (hj : i + 1 ≤ j) : AlI xs at' j d ov o2 (aV u v) (.alt T B) (ts ++ .inr (.inr (.inr ())) :: us) := by
  have hge := h.ge
  refine ⟨wl_cat h.bal hwl, by rw [ho, h.ovq, ovr_app h.bal, ovr_bar, Bool.or_assoc], fun y hy => ?_, fun hf => ?_, by omega⟩
  · apply h.go
    rw [hc]
    exact Ev.bind (k := fun n (x : Tr × List Tk × List Int) => rdAltL n (.alt T x.1) (ts ++ .inr (.inr (.inr ())) :: x.2.1) x.2.2) hev hy (fun n => by rw [rdAltL_c, if_pos rfl])
  · have ho9 : o = false := by rw [hf] at ho; cases o with
      | false => rfl
      | true => simp at ho
    exact NdV.alt (h.nd ho9) (hnd hf)
theorem AlI.stop {xs : List Int} {at' i d : Nat} {ov o : Bool} {u : Value} {T : Tr} {ts : List Tk} (h : AlI xs at' i d ov o u T ts) (hc : ∀ r, xs.drop i ≠ 124 :: r) : Ev (fun n => rdAlt n (xs.drop at')) (some (T, ts, xs.drop i)) := by
  apply h.go
  cases hs : xs.drop i with
  | nil => exact Ev.const (fun n => rdAltL_n n T ts)
  | cons c r => exact Ev.const (fun n => by rw [rdAltL_c, if_neg (fun e => hc r (by rw [hs, e]))])
set_option maxHeartbeats 8000000 in
set_option maxRecDepth 100000 in
theorem readAlt_any (w : World) (N q : Nat) (tv : Value) (xs : List Int) (at' d : Nat) (ov : Bool) (h : Rdr w N q tv xs at' d ov) (hb : ∀ x ∈ xs, 0 ≤ x ∧ x ≤ 255) (ha : at' ≤ xs.length) (hl : xs.length ≤ 100000) (hd : d ≤ at') (ho : 100 < d → ov = true) (m : Nat) (hA : AltH N q tv xs m) (hm : xs.length - at' ≤ m) :
    Calls Tryz.prog 51 #[.pointer (some ⟨q, 0, none⟩)] w fun e w' => NdR rdAlt 0 e w w' N q tv xs at' d ov := by
  have HP := hide (readCat_any w N q tv xs at' d ov h hb ha hl hd ho m hA hm)
  have HB := hide hb
  have HA := hide hA
  have HO := hide ho
  clear h hb hA ho
  go_enter Tryz.func51, Tryz.ntmps51
  go_wp2_with fail
  refine (unhide HP).mono ?_
  rintro e w1 ⟨hG1, ⟨hno, z, rfl⟩ | ⟨u, T, ts, at2, hev, hle2, hge2, hwl, rfl, ⟨Y, x, rfl⟩, hR1, hnd⟩⟩
  · have HX : Hid (Ev (fun n => rdAlt n (xs.drop at')) none) := Ev.bind0 (k := fun n (x : Tr × List Tk × List Int) => rdAltL n x.1 x.2.1 x.2.2) hno (fun n => rdAlt_s n _)
    have HG1 := hide hG1
    clear hno hG1
    go_wp2
    exact ⟨rfl, unhide HG1, .inl ⟨unhide HX, _, rfl⟩⟩
  · have HI0 : Hid (AlI xs at' at2 d ov (ov || ovr 100 250 d ts) (.iface Y x) T ts) := ⟨hwl, rfl, fun y hy => Ev.bind (k := fun n (x : Tr × List Tk × List Int) => rdAltL n x.1 x.2.1 x.2.2) hev hy (fun n => rdAlt_s n _), hnd, by omega⟩
    have HG1 := hide hG1
    have HR1 := hide hR1
    clear HP hG1 hev hwl hnd hge2 hR1
    go_wp2_with fail
    go_loopw [3] (fun iv wr => ∃ (i : Nat) (o : Bool) (Y : TypeId) (x : Value) (T : Tr) (ts : List Tk), iv = .iface Y x ∧ AlI xs at' i d ov o (.iface Y x) T ts ∧ i ≤ xs.length ∧ Rdr wr N q tv xs i d o ∧ Gw q w wr) (fun _ wr => xs.length - posOf q wr)
    case atStart => exact ⟨at2, _, Y, x, T, ts, rfl, unhide HI0, hle2, unhide HR1, unhide HG1⟩
    case round =>
      clear HI0 HR1 HG1
      obtain ⟨i, o, Y, x, T, ts, rfl, hI, hi, hR, hG⟩ := hrel
      obtain ⟨w3, rfl⟩ : ∃ w3, w3 = wr := ⟨_, rfl⟩
      have hge := hI.ge
      have HT := hide (take_any w3 N q tv xs i d o 124 hR (unhide HB) hi hl)
      have HR := hide hR
      have HG := hide hG
      have HI := hide hI
      have HPO := hide hR.pos
      clear hR hG hI
      go_wp2_with fail
      refine (unhide HT).mono ?_
      rintro e w4 (⟨hno, rfl, n4, rfl⟩ | ⟨hye, rfl, hR4, hob4⟩)
      · have HEV := hide ((unhide HI).stop (drop_ne hno))
        have HND := hide (unhide HI).nd
        have HBAL := hide (unhide HI).bal
        have HOV := hide (unhide HI).ovq
        clear hno HT
        go_wp2
        go_ret
        refine ⟨(unhide HG).trans (obk_drewN q w3 n4).gw, .inr ⟨.iface Y x, T, ts, i, unhide HEV, hi, hge, unhide HBAL, rfl, ⟨_, _, rfl⟩, ?_, ?_⟩⟩
        · rw [← unhide HOV]; exact (unhide HR).drewN n4
        · rw [← unhide HOV]; exact unhide HND
      · obtain ⟨hdr, hlt⟩ := drop_pk (by omega) hye
        have hle4 : i + 1 ≤ xs.length := hlt
        have hdi : d ≤ i + 1 := by omega
        have hoi : 100 < d → o = true := fun h => by rw [(unhide HI).ovq, unhide HO h]; rfl
        have HIT := hide (readCat_any w4 N q tv xs (i + 1) d o hR4 (unhide HB) hle4 hl hdi hoi m (unhide HA) (by omega))
        have HDR := hide hdr
        have HG4 := hide ((unhide HG).trans hob4.gw)
        clear hye hdr hlt hob4 hR4 HT hoi
        go_wp2_with fail
        refine (unhide HIT).mono ?_
        rintro e w5 ⟨hG5, ⟨hno, z, rfl⟩ | ⟨v, B, us, at5, hev, hle5, hge5, hwl, rfl, ⟨Y5, x5, rfl⟩, hR5, hnd⟩⟩
        · have HX := hide ((unhide HI).bad (unhide HDR) hno)
          have HG5 := hide ((unhide HG4).trans hG5)
          clear hno hG5 HIT
          go_wp2
          exact ⟨rfl, unhide HG5, .inl ⟨unhide HX, _, rfl⟩⟩
        · obtain ⟨o2, ho2⟩ : ∃ o2, o2 = (o || ovr 100 250 d us) := ⟨_, rfl⟩
          rw [← ho2] at hR5 hnd
          have HI2 := hide ((unhide HI).next (unhide HDR) hev hwl ho2 hnd hge5)
          have HG5 := hide ((unhide HG4).trans hG5)
          have HR5 := hide hR5
          have HM9 : Hid (xs.length - at5 < xs.length - i) := by show _ < _; omega
          clear hev hwl ho2 hnd hG5 hR5 HIT hge5
          go_wp2
          go_roundw
          case rel => exact ⟨at5, o2, _, _, _, _, rfl, unhide HI2, hle5, unhide HR5, unhide HG5⟩
          case measure => rw [(unhide HR5).pos, unhide HPO]; exact unhide HM9
theorem altH_all (N q : Nat) (tv : Value) (xs : List Int) (hb : ∀ x ∈ xs, 0 ≤ x ∧ x ≤ 255) (hl : xs.length ≤ 100000) : ∀ m, AltH N q tv xs m
  | 0 => fun w at' d ov h => absurd h (by omega)
  | m + 1 => fun w at' d ov h1 h2 h3 h4 h5 => readAlt_any w N q tv xs at' d ov h5 hb h2 hl h3 h4 m (altH_all N q tv xs hb hl m) (by omega)
def at1 (xs : List Int) : Nat := if pkB xs 0 = 94 then 1 else 0
def PtR (e : Ending) (w w' : World) (N q : Nat) (tv : Value) (xs : List Int) : Prop :=
  Gw q w w' ∧ (((∀ T ts b, ¬ Prs (xs.drop (at1 xs)) T ts b) ∧ Flt e) ∨ ∃ (u : Value) (T : Tr) (ts : List Tk) (b : Bool), Prs (xs.drop (at1 xs)) T ts b ∧ e = .returned (.tuple #[.bool (decide (pkB xs 0 = 94)), u, .bool b]) ∧ (∃ Y x, u = .iface Y x) ∧ wl 0 ts = some 0 ∧
    (∃ i, Rdr w' N q tv xs i 0 (ovr 100 250 0 ts)) ∧ (ovr 100 250 0 ts = false → NdV u T))
theorem prs_no {s : List Int} (h : Ev (fun n => rdAlt n s) none) : ∀ T ts b, ¬ Prs s T ts b := fun T ts b hp => by
  have := (rd_of_prs hp).one h
  cases this
theorem prs_bad {s r : List Int} {T : Tr} {ts : List Tk} (h : Ev (fun n => rdAlt n s) (some (T, ts, r))) (h1 : r ≠ []) (h2 : r ≠ [36]) : ∀ T ts b, ¬ Prs s T ts b := fun T' ts' b hp => by
  have := (rd_of_prs hp).one h
  simp only [Option.some.injEq, Prod.mk.injEq] at this
  have h3 := this.2.2
  cases b with
  | false => exact h1 h3.symm
  | true => exact h2 h3.symm
theorem prs_yes {s r : List Int} {T : Tr} {ts : List Tk} (h : Ev (fun n => rdAlt n s) (some (T, ts, r))) : (r = [] → Prs s T ts false) ∧ (r = [36] → Prs s T ts true) := by
  obtain ⟨N, h⟩ := h
  exact prs_of_rd (h N (Nat.le_refl _))
theorem pk_end {xs : List Int} {i : Nat} (hb : ∀ x ∈ xs, 0 ≤ x ∧ x ≤ 255) : pkB xs i = -1 ↔ xs.drop i = [] := by
  by_cases hlt : i < xs.length
  · have hx := hb (xs[i]) (List.getElem_mem hlt)
    unfold pkB
    rw [List.getElem?_eq_getElem hlt, List.drop_eq_getElem_cons hlt]
    simp
    omega
  · unfold pkB
    rw [List.getElem?_eq_none (by omega), List.drop_eq_nil_of_le (by omega)]
    simp
set_option maxHeartbeats 8000000 in
set_option maxRecDepth 100000 in
theorem readPattern_any (w : World) (N q : Nat) (tv : Value) (xs : List Int) (h : Rdr w N q tv xs 0 0 false) (hb : ∀ x ∈ xs, 0 ≤ x ∧ x ≤ 255) (hl : xs.length ≤ 100000) :
    Calls Tryz.prog 27 #[.pointer (some ⟨q, 0, none⟩)] w fun e w' => PtR e w w' N q tv xs := by
  have HP := hide (take_any w N q tv xs 0 0 false 94 h hb (Nat.zero_le _) hl)
  have HB := hide hb
  have H := hide h
  clear h hb
  go_enter Tryz.func27, Tryz.ntmps27
  go_wp2_with fail
  refine (unhide HP).mono ?_
  rintro e w1 hcase
  obtain ⟨lf, i1, rfl, hR1, hG1, hle1, hlf, hi1⟩ : ∃ (lf : Bool) (i1 : Nat), e = .returned (.bool lf) ∧ Rdr w1 N q tv xs i1 0 false ∧ Gw q w w1 ∧ i1 ≤ xs.length ∧ lf = decide (pkB xs 0 = 94) ∧ i1 = at1 xs := by
    rcases hcase with ⟨hno, rfl, n, rfl⟩ | ⟨hye, rfl, hR, hob⟩
    · exact ⟨false, 0, rfl, (unhide H).drewN n, (obk_drewN q w n).gw, Nat.zero_le _, by simp [hno], by simp [at1, hno]⟩
    · exact ⟨true, 1, rfl, hR, hob.gw, (drop_pk (by omega) hye).2, by simp [hye], by simp [at1, hye]⟩
  have HA := hide (altH_all N q tv xs (unhide HB) hl (xs.length + 1) w1 i1 0 false (by omega) hle1 (Nat.zero_le _) (fun h => absurd h (by omega)) hR1)
  have HG1 := hide hG1
  have HLF := hide hlf
  have HI1 := hide hi1
  clear hcase hR1 hG1 hlf hi1 HP H
  go_wp2_with fail
  refine (unhide HA).mono ?_
  rintro e w2 ⟨hG2, ⟨hno, z, rfl⟩ | ⟨u, T, ts, at2, hev, hle2, hge2, hwl, rfl, ⟨Y, x, rfl⟩, hR2, hnd⟩⟩
  · have HX := hide (prs_no hno)
    have HG2 := hide ((unhide HG1).trans hG2)
    clear hno hG2 HA
    go_wp2
    exact ⟨rfl, unhide HG2, .inl ⟨by rw [← unhide HI1]; exact unhide HX, _, rfl⟩⟩
  · rw [Bool.false_or] at hR2 hnd
    obtain ⟨o, ho⟩ : ∃ o, o = ovr 100 250 0 ts := ⟨_, rfl⟩
    rw [← ho] at hR2 hnd
    have HEV := hide hev
    have HG2 := hide ((unhide HG1).trans hG2)
    have HND := hide hnd
    have HWL := hide hwl
    have HOV := hide ho
    have HT := hide (take_any w2 N q tv xs at2 0 o 36 hR2 (unhide HB) hle2 hl)
    have HR2 := hide hR2
    clear hev hG2 hnd hwl ho hR2 HA HG1 hge2
    go_wp2_with fail
    refine (unhide HT).mono ?_
    rintro e w3 hcase
    obtain ⟨rt, i3, rfl, hR3, hG3, hle3, hrt⟩ : ∃ (rt : Bool) (i3 : Nat), e = .returned (.bool rt) ∧ Rdr w3 N q tv xs i3 0 o ∧ Gw q w2 w3 ∧ i3 ≤ xs.length ∧ ((pkB xs i3 = -1 → Prs (xs.drop i1) T ts rt) ∧ (pkB xs i3 ≠ -1 → ∀ T ts b, ¬ Prs (xs.drop i1) T ts b)) := by
      rcases hcase with ⟨hno, rfl, n, rfl⟩ | ⟨hye, rfl, hR, hob⟩
      · refine ⟨false, at2, rfl, (unhide HR2).drewN n, (obk_drewN q w2 n).gw, hle2, fun h => (prs_yes (unhide HEV)).1 ((pk_end (unhide HB)).1 h), fun h => prs_bad (unhide HEV) (fun e => h ((pk_end (unhide HB)).2 e)) (drop_ne hno [])⟩
      · obtain ⟨hdr, hlt⟩ := drop_pk (by omega) hye
        refine ⟨true, at2 + 1, rfl, hR, hob.gw, hlt, fun h => (prs_yes (unhide HEV)).2 (by rw [hdr, (pk_end (unhide HB)).1 h]), fun h => prs_bad (unhide HEV) (by rw [hdr]; simp) (fun e => h ((pk_end (unhide HB)).2 (by rw [hdr] at e; exact (List.cons.inj e).2)))⟩
    have HPK := hide (peek_any w3 N q tv xs i3 0 o hR3 (unhide HB) hle3 hl)
    have HG3 := hide ((unhide HG2).trans hG3)
    have HRT := hide hrt
    have HR3 := hide hR3
    obtain ⟨y, hy⟩ : ∃ y, y = pkB xs i3 := ⟨_, rfl⟩
    rw [← hy] at HPK HRT
    clear hcase hrt hG3 hR3 HT HG2 HR2 hy
    by_cases ey : y = -1
    · have HPR := hide ((unhide HRT).1 ey)
      subst ey
      go_wp2_with fail
      refine (unhide HPK).mono ?_
      rintro e w4 ⟨rfl, n4, rfl⟩
      go_wp2
      go_ret3
      refine ⟨(unhide HG3).trans (obk_drewN q w3 n4).gw, .inr ⟨.iface Y x, T, ts, rt, by rw [← unhide HI1]; exact unhide HPR, by rw [← unhide HLF]; rfl, ⟨_, _, rfl⟩, unhide HWL, ⟨i3, by rw [← unhide HOV]; exact (unhide HR3).drewN n4⟩, by rw [← unhide HOV]; exact unhide HND⟩⟩
    · have HPR := hide ((unhide HRT).2 ey)
      have ey2 : (y != -1) = true := by simp [ey]
      go_wp2_with fail
      refine (unhide HPK).mono ?_
      rintro e w4 ⟨rfl, n4, rfl⟩
      have HF := hide (fail_any (w3.drewN n4) N q tv xs i3 0 o ((unhide HR3).drewN n4))
      go_wp2_with fail
      refine (unhide HF).mono ?_
      rintro e w5 ⟨rfl, rfl⟩
      go_wp2
      exact ⟨rfl, (unhide HG3).trans (obk_drewN q w3 n4).gw, .inl ⟨by rw [← unhide HI1]; exact unhide HPR, _, rfl⟩⟩
theorem ta_flt (x : Value) (w : World) : Sem.run Tryz.prog (Instr.typeAssert (.iface 91 x) 20 91 true) w = .ok (.tuple #[x, .bool true]) w := by kernel_rfl
set_option maxHeartbeats 2000000 in
theorem faultCode_any (k : Nat) (w : World) : Calls Tryz.prog 26 #[fltV k] w fun e w' => e = .returned (.int .i64 1) ∧ Below w.heap.size w w' := by
  have h1 := ta_flt
  unfold fltV
  go_enter Tryz.func26, Tryz.ntmps26
  go_wp2
  go_ret
  exact ⟨rfl, below1 w _⟩
def caught (w : World) (p c : Nat) : World := (((w.setCell ⟨p, 0, none⟩ (.bool false)).setCell ⟨p, 1, none⟩ (.bool false)).setCell ⟨p, 2, none⟩ (.slice none 0 0)).setCell ⟨c, 0, none⟩ (.int .i64 1)
set_option maxHeartbeats 2000000 in
theorem catch_pan (p c : Nat) (k : Nat) (w : World) (c0 c1 c2 d0 : Value) (hp : w.rowIs p 25 3 (fun j => [c0, c1, c2].getD j undef)) (hc : w.rowIs c 3 1 (fun _ => d0)) (hpc : p ≠ c) :
    CallsD Tryz.prog 25 #[.pointer (some ⟨p, 0, none⟩), .pointer (some ⟨c, 0, none⟩)] (.panicking [{ v := fltV k, recovered := false }]) w fun e u' w' =>
      e = .returned (.tuple #[]) ∧ u' = .panicking [{ v := fltV k, recovered := true }] ∧ ∃ w1, Below w.heap.size w w1 ∧ w' = caught w1 p c := by
  have hflt := faultCode_any k w
  unfold fltV at hflt ⊢
  have HF := hide hflt
  clear hflt
  refine callsD_of_wpS Tryz.func25 rfl fun f0 cs hu => ?_
  apply wpS_seq
  apply wpS_region
  simp [wpOpsS, go_sem, recoverD, hu, Tryz.ntmps25, Exit.thenS]
  have e0 : (#[Value.pointer (some ⟨p, 0, none⟩), Value.pointer (some ⟨c, 0, none⟩)] ++ ((Array.replicate 7 undef).setIfInBounds 1 (.iface 91 (.agg #[.int .i64 (k : Nat)]))).setIfInBounds 0 (.iface 91 (.agg #[.int .i64 (k : Nat)]))) = #[Value.pointer (some ⟨p, 0, none⟩), Value.pointer (some ⟨c, 0, none⟩), .iface 91 (.agg #[.int .i64 (k : Nat)]), .iface 91 (.agg #[.int .i64 (k : Nat)]), undef, undef, undef, undef, undef] := rfl
  rw [e0]
  clear e0
  refine wpS_of_wp ?_
  go_wp2_with fail
  refine (unhide HF).mono ?_
  rintro e w1 ⟨rfl, hb⟩
  have hp1 := rk hp hb (Nat.le_refl _)
  have hc1 := rk hc hb (Nat.le_refl _)
  have a0 := hp1.cell (i := 0) (by omega)
  have a1 := hp1.cell (i := 1) (by omega)
  have a2 := hp1.cell (i := 2) (by omega)
  have b0 := hc1.cell (i := 0) (by omega)
  have f0' := hp1.frozen 0
  have f1' := hp1.frozen 1
  have f2' := hp1.frozen 2
  have g0' := hc1.frozen 0
  have hpc' : c ≠ p := fun e => hpc e.symm
  have HB := hide hb
  clear hp1 hc1 hp hc HF hb
  go_wp2
  refine ⟨rfl, _, rfl, .tuple #[], ?_, rfl, rfl, w1, unhide HB, rfl⟩
  exact results_none rfl _ _ _
set_option maxHeartbeats 2000000 in
theorem catch_idle (p c : Nat) (w : World) :
    CallsD Tryz.prog 25 #[.pointer (some ⟨p, 0, none⟩), .pointer (some ⟨c, 0, none⟩)] .returning w fun e u' w' => e = .returned (.tuple #[]) ∧ u' = .returning ∧ w' = w := by
  refine callsD_of_wpS Tryz.func25 rfl fun f0 cs hu => ?_
  apply wpS_seq
  apply wpS_region
  simp [wpOpsS, go_sem, recoverD, hu, Tryz.ntmps25, Exit.thenS]
  have e0 : (#[Value.pointer (some ⟨p, 0, none⟩), Value.pointer (some ⟨c, 0, none⟩)] ++ ((Array.replicate 7 undef).setIfInBounds 1 .nilIface).setIfInBounds 0 .nilIface) = #[Value.pointer (some ⟨p, 0, none⟩), Value.pointer (some ⟨c, 0, none⟩), .nilIface, .nilIface, undef, undef, undef, undef, undef] := rfl
  rw [e0]
  clear e0
  refine wpS_of_wp ?_
  go_wp2
  refine ⟨rfl, .returning, ?_, .tuple #[], results_none rfl _ _ _, rfl, rfl, rfl⟩
  cases f0
  simp at hu
  simp [hu]
def PAns (xs : List Int) (l r : Bool) (L : List El) (c : Int) : Prop :=
  (2000 < xs.length ∧ l = false ∧ r = false ∧ L = [] ∧ c = 2) ∨ (xs.length ≤ 2000 ∧
   (((∀ T ts b, ¬ Prs (xs.drop (at1 xs)) T ts b) ∧ l = false ∧ r = false ∧ L = [] ∧ c = 1) ∨
    ∃ T ts b, Prs (xs.drop (at1 xs)) T ts b ∧ (((ovr 100 250 0 ts = true ∨ 500 < T.n) ∧ l = false ∧ r = false ∧ L = [] ∧ c = 2) ∨ (ovr 100 250 0 ts = false ∧ T.n ≤ 500 ∧ l = decide (pkB xs 0 = 94) ∧ r = b ∧ L = T.l ∧ c = 0))))
theorem PAns.one {xs : List Int} {l r l' r' : Bool} {L L' : List El} {c c' : Int} (h : PAns xs l r L c) (k : PAns xs l' r' L' c') : l = l' ∧ r = r' ∧ L = L' ∧ c = c' := by
  rcases h with ⟨h0, rfl, rfl, rfl, rfl⟩ | ⟨h0, h⟩
  · rcases k with ⟨k0, rfl, rfl, rfl, rfl⟩ | ⟨k0, -⟩
    · exact ⟨rfl, rfl, rfl, rfl⟩
    · omega
  · rcases k with ⟨k0, -⟩ | ⟨k0, k⟩
    · omega
    · rcases h with ⟨h1, rfl, rfl, rfl, rfl⟩ | ⟨T, ts, b, h1, h⟩
      · rcases k with ⟨k1, rfl, rfl, rfl, rfl⟩ | ⟨T', ts', b', k1, -⟩
        · exact ⟨rfl, rfl, rfl, rfl⟩
        · exact absurd k1 (h1 _ _ _)
      · rcases k with ⟨k1, -⟩ | ⟨T', ts', b', k1, k⟩
        · exact absurd h1 (k1 _ _ _)
        · obtain ⟨rfl, rfl, rfl⟩ := h1.one k1
          rcases h with ⟨h2, rfl, rfl, rfl, rfl⟩ | ⟨h2, h3, rfl, rfl, rfl, rfl⟩
          · rcases k with ⟨k2, rfl, rfl, rfl, rfl⟩ | ⟨k2, k3, -⟩
            · exact ⟨rfl, rfl, rfl, rfl⟩
            · rcases h2 with h2 | h2
              · rw [h2] at k2; cases k2
              · omega
          · rcases k with ⟨k2, -⟩ | ⟨k2, k3, rfl, rfl, rfl, rfl⟩
            · rcases k2 with k2 | k2
              · rw [h2] at k2; cases k2
              · omega
            · exact ⟨rfl, rfl, rfl, rfl⟩
theorem ElsF.nil2 (S : Nat → Prop) (w : World) : ElsF S w (.slice none 0 0) [] := ⟨none, 0, rfl, ⟨Nat.le_refl _, by unfold maxLen; omega⟩, fun h => absurd h (by simp)⟩
def PpR (w : World) (xs : List Int) (e : Ending) (w' : World) : Prop := ∃ (l r : Bool) (v : Value) (L : List El) (c : Int), e = .returned (.tuple #[.agg #[.bool l, .bool r, v], .int .i64 c]) ∧ PAns xs l r L c ∧ ElsF (Rng w.heap.size w'.heap.size) w' v L ∧ Below w.heap.size w w'
theorem caught_cells {w : World} {p c : Nat} {c0 c1 c2 d0 : Value} (hp : Bx3 w p 25 c0 c1 c2) (hc : w.rowIs c 3 1 (fun _ => d0)) (hpc : p ≠ c) : (caught w p c).cell? ⟨p, 0, none⟩ = some (.bool false) ∧ (caught w p c).cell? ⟨p, 1, none⟩ = some (.bool false) ∧ (caught w p c).cell? ⟨p, 2, none⟩ = some (.slice none 0 0) ∧ (caught w p c).cell? ⟨c, 0, none⟩ = some (.int .i64 1) := by
  have h1 := World.rowIs.setOther (World.rowIs.set (World.rowIs.set (World.rowIs.set hp 0 (.bool false)) 1 (.bool false)) 2 (.slice none 0 0)) (a := ⟨c, 0, none⟩) hpc (.int .i64 1)
  have hcp : c ≠ p := fun e => hpc e.symm
  have h2 := World.rowIs.set (World.rowIs.setOther (World.rowIs.setOther (World.rowIs.setOther hc (a := ⟨p, 0, none⟩) hcp (.bool false)) (a := ⟨p, 1, none⟩) hcp (.bool false)) (a := ⟨p, 2, none⟩) hcp (.slice none 0 0)) 0 (.int .i64 1)
  exact ⟨h1.cell (i := 0) (by omega), h1.cell (i := 1) (by omega), h1.cell (i := 2) (by omega), h2.cell (i := 0) (by omega)⟩
set_option maxHeartbeats 8000000 in
set_option maxRecDepth 100000 in
theorem implParse_any (tv : Value) (xs : List Int) (w : World) (ht : SlAt mB 0 0 w.heap.size w tv xs) (hb : ∀ x ∈ xs, 0 ≤ x ∧ x ≤ 255) :
    Calls Tryz.prog 8 #[tv] w fun e w' => PpR w xs e w' := by
  have hmf : ∀ (fn : Fn) (first cap : Array Value) (w : World), (Instr.makeFunc fn first cap).run Tryz.prog w = .ok (.func fn first cap) w := fun _ _ _ _ => rfl
  obtain ⟨a, cp, rfl, hcap, -⟩ := id ht
  by_cases hlen : 2000 < xs.length
  · have hlen' : (2000 : Int) < (xs.length : Int) := by omega
    have HA : Hid (PAns xs false false [] 2) := .inl ⟨hlen, rfl, rfl, rfl, rfl⟩
    go_enter_defers Tryz.func8, Tryz.ntmps8
    go_wp2
    refine ⟨.tuple #[.agg #[.bool false, .bool false, .slice none 0 0], .int .i64 2], by simp [results, Tryz.results8, go_sem], false, false, _, [], 2, rfl, unhide HA, ElsF.nil2 _ _, ?_⟩
    first | exact below2 w _ _ | exact bput (bput (bput (bput (below2 w _ _) (by omega) _) (by omega) _) (by omega) _) (by omega) _
  · have hlen' : ¬ (2000 : Int) < (xs.length : Int) := by omega
    have hle : xs.length ≤ 2000 := by omega
    have hb3 := below3 w (.cells #[.bool false, .bool false, .slice none 0 0] 25) (.cells #[.int .i64 0] 3) (.cells #[.slice a xs.length cp, .int .i64 0, .int .i64 0, .bool false] 57)
    have rP := World.rowIs.alloc (World.rowIs.alloc (Bx3.new w 25 (.bool false) (.bool false) (.slice none 0 0)) (.cells #[.int .i64 0] 3)) (.cells #[.slice a xs.length cp, .int .i64 0, .int .i64 0, .bool false] 57)
    have rC := World.rowIs.alloc (World.rowIs_alloc (w.alloc (.cells #[.bool false, .bool false, .slice none 0 0] 25)) #[.int .i64 0] 3 (fun _ => .int .i64 0) (fun i hi => by
      match i, hi with
      | 0, _ => rfl)) (.cells #[.slice a xs.length cp, .int .i64 0, .int .i64 0, .bool false] 57)
    have rR := Row4.new ((w.alloc (.cells #[.bool false, .bool false, .slice none 0 0] 25)).alloc (.cells #[.int .i64 0] 3)) 57 (.slice a xs.length cp) (.int .i64 0) (.int .i64 0) (.bool false)
    rw [sz_alloc] at rC
    rw [sz_alloc, sz_alloc] at rR
    obtain ⟨W, hW⟩ : ∃ W, W = ((w.alloc (.cells #[.bool false, .bool false, .slice none 0 0] 25)).alloc (.cells #[.int .i64 0] 3)).alloc (.cells #[.slice a xs.length cp, .int .i64 0, .int .i64 0, .bool false] 57) := ⟨_, rfl⟩
    rw [← hW] at hb3 rP rC rR
    have hRd : Rdr W w.heap.size (w.heap.size + 1 + 1) (.slice a xs.length cp) xs 0 0 false := ⟨rR, ht.undr hb3 (Nat.le_refl _), by omega⟩
    have HP := hide (readPattern_any W w.heap.size (w.heap.size + 1 + 1) (.slice a xs.length cp) xs hRd hb (by omega))
    have RP := hide rP
    have RC := hide rC
    have HB3 := hide hb3
    have hzW := row_lt rR
    clear rP rC rR hb3 hRd hb ht
    go_enter_defers Tryz.func8, Tryz.ntmps8
    go_wp2_with fail
    rw [← hW]
    clear hW
    refine (unhide HP).mono ?_
    rintro e w1 ⟨hG1, ⟨hno, z, rfl⟩ | ⟨u, T, ts, b, hprs, rfl, ⟨Y, x, rfl⟩, hwl, ⟨i, hR1⟩, hnd⟩⟩
    · have HA : Hid (PAns xs false false [] 1) := .inr ⟨hle, .inl ⟨hno, rfl, rfl, rfl, rfl⟩⟩
      have rP1 := row_gw hG1 (unhide RP) (by omega)
      have rC1 := row_gw hG1 (unhide RC) (by omega)
      have hB1 : Below w.heap.size w w1 := (unhide HB3).trans (hG1.below (by omega) (by omega))
      clear HP hno hG1
      refine leaves_cons (f := 25) (args := #[.pointer (some ⟨w.heap.size, 0, none⟩), .pointer (some ⟨w.heap.size + 1, 0, none⟩)]) (by simp) (by simp [go_sem]) ?_
      refine (catch_pan w.heap.size (w.heap.size + 1) z w1 _ _ _ _ rP1 rC1 (by omega)).mono ?_
      rintro e u' w'' ⟨rfl, rfl, w2, hb2, rfl⟩
      obtain ⟨q0, q1, q2, q3⟩ := caught_cells (rk rP1 hb2 (Nat.le_refl _)) (rk rC1 hb2 (Nat.le_refl _)) (by omega)
      have hB2 : Below w.heap.size w w2 := hB1.trans (hb2.mono hB1.size)
      show ∃ v, _ ∧ _
      refine ⟨.tuple #[.agg #[.bool false, .bool false, .slice none 0 0], .int .i64 1], by simp [results, Tryz.results8, go_sem, q0, q1, q2, q3], false, false, _, [], 1, rfl, unhide HA, ElsF.nil2 _ _, ?_⟩
      exact bput (bput (bput (bput hB2 (by omega) _) (by omega) _) (by omega) _) (by omega) _
    · obtain ⟨o, ho⟩ : ∃ o, o = ovr 100 250 0 ts := ⟨_, rfl⟩
      rw [← ho] at hR1 hnd
      obtain ⟨-, -, -, k3, -⟩ := hR1.row.facts
      have rP1 := row_gw hG1 (unhide RP) (by omega)
      have rC1 := row_gw hG1 (unhide RC) (by omega)
      have hB1 : Below w.heap.size w w1 := (unhide HB3).trans (hG1.below (by omega) (by omega))
      have HPRS := hide hprs
      have HOV := hide ho
      have HB1 := hide hB1
      have hz1 := row_lt rC1
      clear HP hG1 hprs ho hB1 hR1
      cases o with
      | true =>
        obtain ⟨p0, p1, p2⟩ := Bx3.facts rP1
        have f0 := World.rowIs.frozen rP1 0
        have f1 := World.rowIs.frozen rP1 1
        have f2 := World.rowIs.frozen rP1 2
        have d0 := rC1.cell (i := 0) (Nat.zero_lt_one)
        have g0 := rC1.frozen 0
        have HA : Hid (PAns xs false false [] 2) := .inr ⟨hle, .inr ⟨T, ts, b, unhide HPRS, .inl ⟨.inl (unhide HOV).symm, rfl, rfl, rfl, rfl⟩⟩⟩
        clear rP1 rC1 hnd
        go_wp2
        refine leaves_cons (f := 25) (args := #[.pointer (some ⟨w.heap.size, 0, none⟩), .pointer (some ⟨w.heap.size + 1, 0, none⟩)]) (by simp) (by simp [go_sem]) ?_
        refine (catch_idle w.heap.size (w.heap.size + 1) _).mono ?_
        rintro e u' w'' ⟨rfl, rfl, rfl⟩
        show ∃ v, _ ∧ _
        refine ⟨.tuple #[.agg #[.bool false, .bool false, .slice none 0 0], .int .i64 2], by simp [results, Tryz.results8, go_sem, p0, p1, p2, d0], false, false, _, [], 2, rfl, unhide HA, ElsF.nil2 _ _, ?_⟩
        exact bput (bput (bput (bput (unhide HB1) (by omega) _) (by omega) _) (by omega) _) (by omega) _
      | false =>
        obtain ⟨⟨⟨Y1, x1, F1, e1, hm1, hcf1, hF1⟩, hn0, hn1⟩, ⟨Y2, x2, F2, e2, hm2, hcf2, hF2⟩⟩ := hnd rfl
        cases e1
        cases e2
        have HF1 := hide hF1
        have HF2 := hide hF2
        have RP1 := hide rP1
        have RC1 := hide rC1
        have hTl := (prs_len (unhide HPRS)).2
        have hdl : (xs.drop (at1 xs)).length ≤ xs.length := by rw [List.length_drop]; omega
        have hTl2 : T.l.length ≤ 5000 := by omega
        clear rP1 rC1 hnd hF1 hF2 hTl hdl
        obtain ⟨n, hn⟩ : ∃ n, n = T.n := ⟨_, rfl⟩
        rw [← hn] at HF1 hn0 hn1
        have HN := hide hn
        clear hn
        go_wp2_with fail
        refine (unhide HF1 _).mono ?_
        rintro e w2 ⟨rfl, hb2⟩
        have RP2 := hide (rk (unhide RP1) hb2 (Nat.le_refl _))
        have RC2 := hide (rk (unhide RC1) hb2 (Nat.le_refl _))
        have HB2 := hide ((unhide HB1).trans (hb2.mono (unhide HB1).size))
        have hz2 := hb2.size
        clear hb2 RP1 RC1 HB1
        by_cases h500 : 500 < n
        · obtain ⟨p0, p1, p2⟩ := Bx3.facts (unhide RP2)
          have f0 := World.rowIs.frozen (unhide RP2) 0
          have f1 := World.rowIs.frozen (unhide RP2) 1
          have f2 := World.rowIs.frozen (unhide RP2) 2
          have d0 := (unhide RC2).cell (i := 0) (Nat.zero_lt_one)
          have g0 := (unhide RC2).frozen 0
          have HA : Hid (PAns xs false false [] 2) := .inr ⟨hle, .inr ⟨T, ts, b, unhide HPRS, .inl ⟨.inr (by rw [← unhide HN]; exact h500), rfl, rfl, rfl, rfl⟩⟩⟩
          go_wp2
          refine leaves_cons (f := 25) (args := #[.pointer (some ⟨w.heap.size, 0, none⟩), .pointer (some ⟨w.heap.size + 1, 0, none⟩)]) (by simp) (by simp [go_sem]) ?_
          refine (catch_idle w.heap.size (w.heap.size + 1) _).mono ?_
          rintro e u' w'' ⟨rfl, rfl, rfl⟩
          show ∃ v, _ ∧ _
          refine ⟨.tuple #[.agg #[.bool false, .bool false, .slice none 0 0], .int .i64 2], by simp [results, Tryz.results8, go_sem, p0, p1, p2, d0], false, false, _, [], 2, rfl, unhide HA, ElsF.nil2 _ _, ?_⟩
          exact bput (bput (bput (bput (unhide HB2) (by omega) _) (by omega) _) (by omega) _) (by omega) _
        · have HA : Hid (PAns xs (decide (pkB xs 0 = 94)) b T.l 0) := .inr ⟨hle, .inr ⟨T, ts, b, unhide HPRS, .inr ⟨(unhide HOV).symm, by rw [← unhide HN]; omega, rfl, rfl, rfl, rfl⟩⟩⟩
          obtain ⟨lf, hlf⟩ : ∃ lf, lf = decide (pkB xs 0 = 94) := ⟨_, rfl⟩
          rw [← hlf] at HA ⊢
          clear hlf
          go_wp2_with (with_reducible refine (unhide HF2 w2.heap.size _ [] _ ?_ ?_ ?_).mono ?_)
          · exact Nat.le_refl _
          · exact ⟨World.ownsRow_nil _ _ _ _, by simp, by simp, List.Pairwise.nil⟩
          · simp; omega
          rintro e w3 ⟨v3, qs, rfl, g1, g2, g3, -⟩
          have hz3 := g3.size
          have hb3 : Below w2.heap.size w2 w3 := (Below.refl _ _).grown g3 (Nat.le_refl _) (fun k hk => by cases hk)
          have hf0 : ElsF (Rng w.heap.size w3.heap.size) w3 v3 T.l := by
            have := g1.foot.mono (S' := Rng w.heap.size w3.heap.size) (fun k hk => ⟨by have := hk.1; omega, hk.2⟩)
            rw [List.nil_append, g2] at this
            exact this
          have hf1 : ElsF (Rng w2.heap.size w3.heap.size) w3 v3 T.l := by
            have := g1.foot
            rw [List.nil_append, g2] at this
            exact this
          obtain ⟨a3, c3, rfl⟩ := el_is hf1
          obtain ⟨p0, p1, p2⟩ := (Bx3.below (unhide RP2) hb3 (by omega)).facts
          have rP3 := rk (unhide RP2) hb3 (Nat.le_refl _)
          have rC3 := rk (unhide RC2) hb3 (Nat.le_refl _)
          have f0 := World.rowIs.frozen rP3 0
          have f1 := World.rowIs.frozen rP3 1
          have f2 := World.rowIs.frozen rP3 2
          have d0 := rC3.cell (i := 0) (Nat.zero_lt_one)
          have g0 := rC3.frozen 0
          have HB9 := hide ((unhide HB2).trans (hb3.mono (unhide HB2).size))
          have HE := hide hf1
          clear g1 g2 g3 hf0 hf1 rP3 rC3 hb3
          go_wp2
          refine leaves_cons (f := 25) (args := #[.pointer (some ⟨w.heap.size, 0, none⟩), .pointer (some ⟨w.heap.size + 1, 0, none⟩)]) (by simp) (by simp [go_sem]) ?_
          refine (catch_idle w.heap.size (w.heap.size + 1) _).mono ?_
          rintro e u' w'' ⟨rfl, rfl, rfl⟩
          show ∃ v, _ ∧ _
          refine ⟨.tuple #[.agg #[.bool lf, .bool b, .slice a3 T.l.length c3], .int .i64 0], by simp [results, Tryz.results8, go_sem, p0, p1, p2, d0], lf, b, _, T.l, 0, rfl, unhide HA, ?_, ?_⟩
          · refine ((unhide HE).same (fun k hk => ?_)).mono (fun k hk => ⟨Nat.le_trans (by omega) hk.1, by simp only [sz_put]; exact hk.2⟩)
            have hk1 : w2.heap.size ≤ k := hk.1
            rw [Below.heap_setCell _ _ _ _ (by intro e; simp only at e; omega), Below.heap_setCell _ _ _ _ (by intro e; simp only at e; omega), Below.heap_setCell _ _ _ _ (by intro e; simp only at e; omega), Below.heap_setCell _ _ _ _ (by intro e; simp only at e; omega)]
          · exact bput (bput (bput (bput (unhide HB9) (by omega) _) (by omega) _) (by omega) _) (by omega) _
theorem gr_size {n : Nat} {ts : List Tk} {T : Tr} (h : Gr n ts T) : (∀ t ∈ ts, TokOk t) → (∀ t ∈ ts, bigR 250 t = false) → SegM T.l T.n ∧ SzS T.l T.n := by
  have leaf : ∀ (k : Int) (cs : List Int), (k = 0 ∨ k = 1) → SegM [⟨k, cs, 0, 0⟩] 1 ∧ SzS [⟨k, cs, 0, 0⟩] 1 := fun k cs hk => ⟨SegM.leaf hk, fun v w hv _ => l1size_leaf k hk cs v w hv⟩
  have bin : ∀ (k : Int) (A B : Tr), (k = 2 ∨ k = 3) → (SegM A.l A.n ∧ SzS A.l A.n) → (SegM B.l B.n ∧ SzS B.l B.n) → SegM (A.l ++ B.l ++ [⟨k, [], 0, 0⟩]) (cap (A.n + B.n)) ∧ SzS (A.l ++ B.l ++ [⟨k, [], 0, 0⟩]) (cap (A.n + B.n)) := fun k A B hk hA hB => ⟨SegM.bin hA.1 hB.1 hk, fun v w hv hl => l1size_bin k hk A.l B.l A.n B.n hA.1 hB.1 hA.2 hB.2 v w hv hl⟩
  refine h.ind (Q := fun _ ts T => (∀ t ∈ ts, TokOk t) → (∀ t ∈ ts, bigR 250 t = false) → SegM T.l T.n ∧ SzS T.l T.n) ?_ ?_ ?_ ?_ ?_ ?_ ?_ ?_ ?_ ?_
  · intro cs _ _; exact leaf 1 cs (.inr rfl)
  · intro ts T _ ih h1 h2; exact ih (fun t ht => h1 t (by simp [ht])) (fun t ht => h2 t (by simp [ht]))
  · intro ts T _ ih; exact ih
  · intro ts T lo hi _ ih h1 h2
    have hT := ih (fun t ht => h1 t (by simp [ht])) (fun t ht => h2 t (by simp [ht]))
    obtain ⟨a, b⟩ : 0 ≤ lo ∧ (hi = -1 ∨ lo ≤ hi) := h1 (.inr (.inl (lo, hi))) (by simp)
    have c := h2 (.inr (.inl (lo, hi))) (by simp)
    simp [bigR] at c
    have o4 : hi = -1 ∨ (lo ≤ hi ∧ hi ≤ 250) := by omega
    exact ⟨SegM.rep (x := ⟨4, [], lo, hi⟩) hT.1 rfl a o4, fun v w hv hl => l1size_rep lo hi T.l T.n hT.1 a (by omega) o4 hT.2 v w hv hl⟩
  · intro ts T _ ih; exact ih
  · intro us vs A B _ _ i1 i2 h1 h2
    exact bin 2 A B (.inl rfl) (i1 (fun t ht => h1 t (by simp [ht])) (fun t ht => h2 t (by simp [ht]))) (i2 (fun t ht => h1 t (by simp [ht])) (fun t ht => h2 t (by simp [ht])))
  · intro _ _; exact leaf 0 [] (.inl rfl)
  · intro ts T _ ih; exact ih
  · intro us A _ ih h1 h2
    exact bin 3 A .e (.inr rfl) (ih (fun t ht => h1 t (by simp [ht])) (fun t ht => h2 t (by simp [ht]))) (leaf 0 [] (.inl rfl))
  · intro us vs A B _ _ i1 i2 h1 h2
    exact bin 3 A B (.inr rfl) (i1 (fun t ht => h1 t (by simp [ht])) (fun t ht => h2 t (by simp [ht]))) (i2 (fun t ht => h1 t (by simp [ht])) (fun t ht => h2 t (by simp [ht])))
end Go.Proofs.YtcmofgehhdfifaaGreatDoor
