import Derived.Test.YtpkghafpelilfaaI11
namespace Go.Proofs.Ytpkghafpelilfaa
open Go.RowKit

theorem plcs_mem (xss : List (List Int)) (n : Nat) (p : Int) : p ∈ plcs xss n ↔ ∃ i : Nat, i < n ∧ ∃ t, t ∈ tr (xss[i]?.getD []) ∧ p = t * 1000 + i := by
  induction n with
  | zero => simp [plcs]
  | succ n ih =>
    rw [plcs, List.mem_append, ih]
    constructor
    · rintro (⟨i, hi, t, ht, e⟩ | h)
      · exact ⟨i, by omega, t, ht, e⟩
      · unfold plc at h
        obtain ⟨t, ht, e⟩ := List.mem_map.1 h
        exact ⟨n, by omega, t, ht, e.symm⟩
    · rintro ⟨i, hi, t, ht, e⟩
      by_cases q : i < n
      · exact Or.inl ⟨i, q, t, ht, e⟩
      · obtain rfl : i = n := by omega
        exact Or.inr (List.mem_map.2 ⟨t, ht, e.symm⟩)
theorem allT_mem (xss : List (List Int)) (z : Int) : z ∈ allT xss ↔ ∃ i : Nat, i < xss.length ∧ z ∈ tr (xss[i]?.getD []) := by
  unfold allT
  rw [List.mem_flatMap]
  constructor
  · rintro ⟨x, hx, hz⟩
    obtain ⟨i, hi, e⟩ := List.mem_iff_getElem.1 hx
    exact ⟨i, hi, by rw [List.getElem?_eq_getElem hi]; show z ∈ tr xss[i]; rw [e]; exact hz⟩
  · rintro ⟨i, hi, hz⟩
    rw [List.getElem?_eq_getElem hi] at hz
    exact ⟨xss[i], List.getElem_mem _, hz⟩
theorem tr_nonneg {bs : List Int} (h : Bytes bs) {t : Int} (ht : t ∈ tr bs) : 0 ≤ t ∧ t ≤ 16777215 := by
  unfold tr tris at ht
  obtain ⟨i, -, rfl⟩ := List.mem_map.1 ht
  have h0 := h i
  have h1 := h (i + 1)
  have h2 := h (i + 2)
  have e : tri3 bs i = bs[i]?.getD 0 * 65536 + bs[i + 1]?.getD 0 * 256 + bs[i + 2]?.getD 0 := rfl
  omega

theorem tot_app {α : Type} (a b : List (List α)) : tot (a ++ b) = tot a + tot b := by
  induction a with
  | nil => simp [tot]
  | cons x r ih => simp only [List.cons_append, tot, ih]; omega

/-- While the places are put into their lists: the first m are. -/
structure KInv (base : Int) (zs : List Int) (m : Nat) (ks : List Int) (pss : List (List Int)) : Prop where
  asc : Asc ks
  mem : ∀ z, z ∈ ks ↔ ∃ p, p ∈ zs.take m ∧ z = p / 1000
  len : pss.length = ks.length
  post : ∀ j : Nat, j < ks.length → Asc (pss[j]?.getD []) ∧ ∀ x, x ∈ pss[j]?.getD [] ↔ ∃ p, p ∈ zs.take m ∧ p / 1000 = ks[j]?.getD 0 ∧ x = base + p % 1000
  cnt : tot pss ≤ m ∧ ks.length ≤ m
theorem KInv.start (base : Int) (zs : List Int) : KInv base zs 0 [] [] := ⟨List.Pairwise.nil, by simp, rfl, fun j hj => absurd hj (by simp), by simp [tot]⟩
theorem take_lt {zs : List Int} (hz : Asc zs) {m : Nat} (hm : m < zs.length) {p : Int} (hp : p ∈ zs.take m) : p < zs[m]?.getD 0 := by
  obtain ⟨i, hi, e⟩ := mem_get.1 hp
  rw [List.length_take] at hi
  rw [List.getElem?_take, if_pos (by omega)] at e
  rw [← e]
  exact asc_get hz (by omega) hm
theorem KInv.le {base : Int} {zs : List Int} {m : Nat} {ks : List Int} {pss : List (List Int)} (h : KInv base zs m ks pss) (hz : Asc zs) (hm : m < zs.length) : ∀ z ∈ ks, z ≤ zs[m]?.getD 0 / 1000 := fun z hk => by
  obtain ⟨p, hp, rfl⟩ := (h.mem z).1 hk
  have := take_lt hz hm hp
  omega
theorem KInv.lt {base : Int} {zs : List Int} {m : Nat} {ks : List Int} {pss : List (List Int)} (h : KInv base zs m ks pss) (hz : Asc zs) (hm : m < zs.length) (hne : ks = [] ∨ ks[ks.length - 1]?.getD 0 ≠ zs[m]?.getD 0 / 1000) : ∀ z ∈ ks, z < zs[m]?.getD 0 / 1000 := fun z hk => by
  have h1 := h.le hz hm z hk
  rcases hne with e | e
  · rw [e] at hk; simp at hk
  · obtain ⟨i, hi, e2⟩ := mem_get.1 hk
    have h2 := h.le hz hm (ks[ks.length - 1]?.getD 0) (mem_get.2 ⟨ks.length - 1, by omega, rfl⟩)
    by_cases q : i = ks.length - 1
    · subst q; omega
    · have := asc_get h.asc (show i < ks.length - 1 by omega) (by omega)
      omega
theorem KInv.new {base : Int} {zs : List Int} {m : Nat} {ks : List Int} {pss : List (List Int)} (h : KInv base zs m ks pss) (hm : m < zs.length) (hlt : ∀ z ∈ ks, z < zs[m]?.getD 0 / 1000) : KInv base zs (m + 1) (ks ++ [zs[m]?.getD 0 / 1000]) (pss ++ [[base + zs[m]?.getD 0 % 1000]]) := by
  refine ⟨List.pairwise_append.2 ⟨h.asc, List.pairwise_singleton _ _, fun a ha b hb => ?_⟩, fun z => ?_, by simp [h.len], fun j hj => ?_, by have := h.cnt; rw [tot_app, List.length_append]; simp [tot]; omega⟩
  · rw [List.mem_singleton] at hb
    rw [hb]
    exact hlt a ha
  · rw [List.mem_append, h.mem, List.mem_singleton]
    constructor
    · rintro (⟨p, hp, e⟩ | e)
      · exact ⟨p, (take_succ_mem hm p).2 (Or.inl hp), e⟩
      · exact ⟨_, (take_succ_mem hm _).2 (Or.inr rfl), e⟩
    · rintro ⟨p, hp, e⟩
      rcases (take_succ_mem hm p).1 hp with hp | rfl
      · exact Or.inl ⟨p, hp, e⟩
      · exact Or.inr e
  · by_cases q : j < ks.length
    · rw [List.getElem?_append_left (by rw [h.len]; exact q), List.getElem?_append_left q]
      obtain ⟨h1, h2⟩ := h.post j q
      refine ⟨h1, fun x => ?_⟩
      rw [h2]
      constructor
      · rintro ⟨p, hp, e⟩
        exact ⟨p, (take_succ_mem hm p).2 (Or.inl hp), e⟩
      · rintro ⟨p, hp, e1, e2⟩
        rcases (take_succ_mem hm p).1 hp with hp | rfl
        · exact ⟨p, hp, e1, e2⟩
        · have := hlt (ks[j]?.getD 0) (mem_get.2 ⟨j, q, rfl⟩)
          omega
    · have hj' : j = ks.length := by rw [List.length_append] at hj; simp at hj; omega
      subst hj'
      rw [List.getElem?_append_right (by rw [h.len]; exact Nat.le_refl _), List.getElem?_append_right (Nat.le_refl _), h.len, Nat.sub_self]
      simp only [List.getElem?_cons_zero, Option.getD_some]
      refine ⟨List.pairwise_singleton _ _, fun x => ?_⟩
      rw [List.mem_singleton]
      constructor
      · rintro rfl
        exact ⟨_, (take_succ_mem hm _).2 (Or.inr rfl), rfl, rfl⟩
      · rintro ⟨p, hp, e1, e2⟩
        rcases (take_succ_mem hm p).1 hp with hp | rfl
        · have := hlt (p / 1000) ((h.mem _).2 ⟨p, hp, rfl⟩)
          omega
        · exact e2
theorem KInv.same {base : Int} {zs : List Int} {m : Nat} {ks l : List Int} {pss : List (List Int)} (h : KInv base zs m ks (pss ++ [l])) (hz : Asc zs) (hm : m < zs.length) (hk : ks[ks.length - 1]?.getD 0 = zs[m]?.getD 0 / 1000) : KInv base zs (m + 1) ks (pss ++ [l ++ [base + zs[m]?.getD 0 % 1000]]) := by
  have hlen := h.len
  rw [List.length_append] at hlen
  simp only [List.length_singleton] at hlen
  have hmk : zs[m]?.getD 0 / 1000 ∈ ks := mem_get.2 ⟨ks.length - 1, by omega, hk⟩
  refine ⟨h.asc, fun z => ?_, by simp; omega, fun j hj => ?_, by have := h.cnt; rw [tot_app] at this ⊢; simp [tot] at this ⊢; omega⟩
  · rw [h.mem]
    constructor
    · rintro ⟨p, hp, e⟩
      exact ⟨p, (take_succ_mem hm p).2 (Or.inl hp), e⟩
    · rintro ⟨p, hp, e⟩
      rcases (take_succ_mem hm p).1 hp with hp | rfl
      · exact ⟨p, hp, e⟩
      · rw [e]
        exact (h.mem _).1 hmk
  · by_cases q : j < pss.length
    · have h3 := h.post j hj
      rw [List.getElem?_append_left q] at h3 ⊢
      obtain ⟨h1, h2⟩ := h3
      refine ⟨h1, fun x => ?_⟩
      rw [h2]
      constructor
      · rintro ⟨p, hp, e⟩
        exact ⟨p, (take_succ_mem hm p).2 (Or.inl hp), e⟩
      · rintro ⟨p, hp, e1, e2⟩
        rcases (take_succ_mem hm p).1 hp with hp | rfl
        · exact ⟨p, hp, e1, e2⟩
        · have := asc_get h.asc (show j < ks.length - 1 by omega) (by omega)
          omega
    · have hj' : j = pss.length := by omega
      have hkj : ks[j]?.getD 0 = zs[m]?.getD 0 / 1000 := by rw [show j = ks.length - 1 by omega]; exact hk
      subst hj'
      have h3 := h.post pss.length hj
      rw [List.getElem?_append_right (Nat.le_refl _), Nat.sub_self] at h3 ⊢
      simp only [List.getElem?_cons_zero, Option.getD_some] at h3 ⊢
      obtain ⟨h1, h2⟩ := h3
      refine ⟨List.pairwise_append.2 ⟨h1, List.pairwise_singleton _ _, fun a ha b hb => ?_⟩, fun x => ?_⟩
      · rw [List.mem_singleton] at hb
        obtain ⟨p, hp, e1, e2⟩ := (h2 a).1 ha
        have := take_lt hz hm hp
        omega
      · rw [List.mem_append, h2, List.mem_singleton]
        constructor
        · rintro (⟨p, hp, e⟩ | e)
          · exact ⟨p, (take_succ_mem hm p).2 (Or.inl hp), e⟩
          · exact ⟨_, (take_succ_mem hm _).2 (Or.inr rfl), hkj.symm, e⟩
        · rintro ⟨p, hp, e1, e2⟩
          rcases (take_succ_mem hm p).1 hp with hp | rfl
          · exact Or.inl ⟨p, hp, e1, e2⟩
          · exact Or.inr e2
theorem KInv.done {base : Int} {zs : List Int} {ks : List Int} {pss xss : List (List Int)} (h : KInv base zs zs.length ks pss) (ho : Ord (plcs xss xss.length) zs) (hn : xss.length ≤ 1000) : SegR base xss ks pss := by
  have hmem : ∀ p, p ∈ zs.take zs.length ↔ ∃ i : Nat, i < xss.length ∧ ∃ t, t ∈ tr (xss[i]?.getD []) ∧ p = t * 1000 + i := fun p => by rw [List.take_length, ho.mem, plcs_mem]
  refine ⟨⟨h.asc, fun z => ?_⟩, h.len, fun j hj => ⟨(h.post j hj).1, fun x => ?_⟩⟩
  · rw [h.mem, allT_mem]
    constructor
    · rintro ⟨p, hp, e⟩
      obtain ⟨i, hi, t, ht, e2⟩ := (hmem p).1 hp
      exact ⟨i, hi, by rw [show z = t by omega]; exact ht⟩
    · rintro ⟨i, hi, ht⟩
      exact ⟨z * 1000 + i, (hmem _).2 ⟨i, hi, z, ht, rfl⟩, by omega⟩
  · rw [(h.post j hj).2]
    constructor
    · rintro ⟨p, hp, e, e2⟩
      obtain ⟨i, hi, t, ht, e3⟩ := (hmem p).1 hp
      exact ⟨i, hi, by omega, by rw [show ks[j]?.getD 0 = t by omega]; exact ht⟩
    · rintro ⟨i, hi, e, ht⟩
      exact ⟨ks[j]?.getD 0 * 1000 + i, (hmem _).2 ⟨i, hi, _, ht, rfl⟩, by omega, by omega⟩

theorem own_last {base e g cap : Nat} {w : World} {ps : List (Cl Int)} {q : Cl Int} {n : Nat} (h : w.ownsRow base e 1 (.slice (some ⟨g, 0, none⟩) n cap) (ps ++ [q]).length ((ps ++ [q]).map Cl.v)) : w.cell? ⟨g, ps.length, none⟩ = some q.v := by
  rw [List.length_append] at h
  obtain ⟨a, c, e⟩ := own_is h
  cases e
  rw [h.cellAt ps.length (by simp), List.map_append, List.getElem?_append_right (by rw [List.length_map]; exact Nat.le_refl _), List.length_map, Nat.sub_self]
  rfl

theorem len_snoc {ps : List (Cl Int)} {q : Cl Int} {m : Nat} (h : ∀ p ∈ ps, p.xs.length ≤ m) (hq : q.xs.length ≤ m + 1) : ∀ p ∈ ps ++ [q], p.xs.length ≤ m + 1 := fun p hp => by
  rcases List.mem_append.1 hp with h1 | h1
  · have := h p h1; omega
  · rw [List.mem_singleton] at h1; subst h1; exact hq
theorem GT.low {n n' : Nat} {w : World} {kv pv : Value} {ks : List Int} {ps : List (Cl Int)} (h : GT n w kv ks pv ps) (hn : n' ≤ n) : GT n' w kv ks pv ps := ⟨own_low h.keys hn, ⟨own_low h.ll.own hn, h.ll.ok, fun p hp h0 => Nat.le_trans hn (h.ll.lo p hp h0), h.ll.apart⟩, h.kap⟩

/-- What postingLists answers. -/
def PostRet (e : Ending) (w w' : World) (base : Int) (xss : List (List Int)) : Prop := ∃ kv pv ks ps, e = .returned (.tuple #[kv, pv]) ∧ SegR base xss ks (ps.map Cl.xs) ∧ (ks.length ≤ 1048576 ∧ tot (ps.map Cl.xs) ≤ 1048576) ∧ GT w.heap.size w' kv ks pv ps

set_option maxHeartbeats 4000000 in
set_option maxRecDepth 100000 in
theorem postingLists_any (base : Int) (v : Value) (xss : List (List Int)) (w : World) (hv : SsAt mB 0 w.heap.size w v xss) (hbb : ∀ x ∈ xss, Bytes x) (hT : tot xss ≤ 1048576) (hL : xss.length ≤ 1000) (hb0 : 0 ≤ base) (hb1 : base ≤ 1000) :
    Calls Try.prog 63 #[.int .i64 base, v] w fun e w' => PostRet e w w' base xss ∧ Below w.heap.size w w' := by
  obtain ⟨i0, hi, hz0, hz1, hz2⟩ := info_parts Try.zinInt
  obtain ⟨j0, hj, hy0, hy1, hy2⟩ := info_parts Try.zinIntS
  have Hv := hide hv
  have HB := hide hbb
  obtain ⟨a, cap, rfl, hl, hc⟩ := hv
  clear hbb hc
  go_enter Try.func63, Try.ntmps63
  go_wp2_with fail
  refine (trigramPlaces_any _ xss _ (unhide Hv) (unhide HB) hT hL).mono ?_
  rintro e w1 ⟨⟨v1, zs, rfl, ho, hzl, hown⟩, hb1'⟩
  have hz1' := hb1'.size
  have HO := hide ho
  have hzl' : zs.length ≤ 1048576 := Nat.le_trans hzl (Nat.le_trans (plcs_len xss _ (Nat.le_refl _)) (Nat.le_trans (tot_take xss _) hT))
  have hpos : ∀ p, p ∈ zs → 0 ≤ p ∧ p ≤ 16777215999 := fun p hp => by
    obtain ⟨i, hi2, t, ht, e⟩ := (plcs_mem xss _ p).1 ((ho.mem p).1 hp)
    have := tr_nonneg (unhide HB (xss[i]?.getD []) (by rw [List.getElem?_eq_getElem hi2]; exact List.getElem_mem _)) ht
    omega
  have HP := hide hpos
  have SZ := hide ((own_slw (lo := 0) hown (Nat.zero_le _) (by unfold maxLen; omega)).at)
  obtain ⟨za, zc, rfl⟩ := own_is hown
  clear hown ho hzl hpos
  go_wp2_with fail
  go_loopw [4, 5, 14] (fun kv pv iv wr => ∃ (m : Nat) (ks : List Int) (ps : List (Cl Int)), m ≤ zs.length ∧ ks.length ≤ m ∧ (∀ p ∈ ps, p.xs.length ≤ m) ∧ iv = .int .i64 m ∧ KInv base zs m ks (ps.map Cl.xs) ∧ GS w1.heap.size wr kv ks pv ps ∧ Below w1.heap.size w1 wr) (fun _ _ iv _ => zs.length - (intOf iv).toNat)
  case atStart => exact ⟨0, [], [], Nat.zero_le _, Nat.le_refl _, by simp, rfl, KInv.start base zs, GT.nil, Below.refl _ _⟩
  case round =>
    obtain ⟨m, ks, ps, hm, hkm, hpm, rfl, hkv, hgs, hb⟩ := hrel
    have HPM := hide hpm
    clear hpm
    have hszr := hb.size
    have HK := hide hkv
    have HG := hide hgs
    have hpl : ps.length = ks.length := by have := hkv.len; rwa [List.length_map] at this
    have HPL := hide hpl
    obtain ⟨ka, kc, rfl⟩ := own_is hgs.keys
    obtain ⟨pa, pc, rfl⟩ := own_is hgs.ll.own
    clear hkv hgs
    by_cases hlt : m < zs.length
    · have hlt' : (m : Int) < (zs.length : Int) := by omega
      obtain ⟨_, _, e1, -, hc⟩ := (unhide SZ).below hb (Nat.le_refl _)
      cases e1
      obtain ⟨b, off, rfl, -, hbn, hcell⟩ := hc (by omega)
      have hx := hcell m hlt
      unfold mI at hx
      obtain ⟨p0, p1⟩ := unhide HP (zs[m]?.getD 0) (mem_get.2 ⟨m, hlt, rfl⟩)
      have Hlt := hide (fun hne => (unhide HK).new hlt ((unhide HK).lt (unhide HO).asc hlt hne))
      have Hsame := hide (fun (pss : List (List Int)) (l : List Int) (e : ps.map Cl.xs = pss ++ [l]) he => KInv.same (l := l) (pss := pss) (by rw [← e]; exact unhide HK) (unhide HO).asc hlt he)
      clear hcell hc
      generalize zs[m]?.getD 0 = p at *
      have d1 : p.tdiv 1000 = p / 1000 := by rw [Int.tdiv_eq_ediv_of_nonneg p0]
      have d2 : p.tmod 1000 = p % 1000 := by rw [Int.tmod_eq_emod_of_nonneg p0]
      have r0 : 0 ≤ p % 1000 := by omega
      have r1 : p % 1000 < 1000 := by omega
      have hpk : ps.length ≤ 1048576 := by omega
      by_cases hk0 : ks = []
      · have Hn := hide (unhide Hlt (Or.inl hk0))
        have hl0 : (ks.length : Int) - 1 < 0 := by rw [hk0]; decide
        have hPK : Hid (ks.length = ps.length) := hpl.symm
        have hkb : ks.length < ps.length + 1 := by omega
        have hkb' : (ks.length : Int) < (ps.length : Int) + 1 := by omega
        clear Hlt Hsame HK hpl HPL hk0
        go_wp2_with (first
          | (at_builtin; refine wpList_append_own_at _ rfl _ _ 23 rfl w1.heap.size 3 i0 (.int .i64 0) 1 8 Try.underlying23 hi hz0 hz1 hz2 rfl (by decide) _ _ _ rfl (World.ownsRow.alloc (w := wr) (unhide HG).keys _) ⟨wr.heap.size, 0, none⟩ 1 1 [.int .i64 (p / 1000)] rfl rfl (cell_1 (by simp)) (by intro u hu; simp at hu; subst hu; rfl) (by unfold maxLen; omega) (by omega) (by rw [sz_alloc]; show _ ≤ wr.heap.size + 1; omega) ?_; intro kv2 w2 g1 g2 _ g4; have H2 := hide (GT.key (w := wr) (unhide HG).toGT hszr g1 g2 g4); obtain ⟨kg, kcap, rfl⟩ := ownsRow_succ g1; have hz2' : w1.heap.size ≤ w2.heap.size := Nat.le_trans hszr (unhide H2).2.size; clear g1 g2 g4 HG)
          | (at_builtin; refine wpList_append_own_at _ rfl _ _ 24 rfl w1.heap.size 23 j0 (.slice none 0 0) 1 24 Try.underlying24 hj hy0 hy1 hy2 rfl (by decide) _ _ _ rfl (World.ownsRow.alloc (w := w2) (unhide H2).1.ll.own _) ⟨w2.heap.size, 0, none⟩ 1 1 [.slice none 0 0] rfl rfl (cell_1 (by simp)) (by intro u hu; simp at hu; subst hu; rfl) (by unfold maxLen; omega) (by omega) (by rw [sz_alloc]; omega) ?_; intro pv3 w3 g1 g2 _ _; have H3 := hide ((unhide H2).1.post0 hz2' g1 g2); obtain ⟨pg, pcap, rfl⟩ := ownsRow_succ g1; have hz3' : w1.heap.size ≤ w3.heap.size := Nat.le_trans hz2' (unhide H3).2.size; have hB3 := hide ((unhide H2).2.trans (unhide H3).2); have hcl3 : w3.cell? ⟨pg, ks.length, none⟩ = some (.slice none 0 0) := (by rw [unhide hPK]; exact own_last (unhide H3).1.ll.own); clear g1 g2 H2)
          | (at_builtin; refine wpList_append_own_at _ rfl _ _ 23 rfl w1.heap.size 3 i0 (.int .i64 0) 1 8 Try.underlying23 hi hz0 hz1 hz2 rfl (by decide) _ 0 [] rfl (World.ownsRow_nil _ _ _ _) ⟨w3.heap.size, 0, none⟩ 1 1 [.int .i64 (base + p % 1000)] rfl rfl (cell_1 (by simp)) (by intro u hu; simp at hu; subst hu; rfl) (by unfold maxLen; omega) (by omega) (by rw [sz_alloc]; omega) ?_; intro v4 w4 g1 g2 _ g4; have H4 := hide (GS.post (unhide H3).1 hz3' g1 g2 g4); obtain ⟨vg, vcap, rfl⟩ := ownsRow_succ g1; obtain ⟨c4, z4⟩ : w4.cell? ⟨pg, ks.length, none⟩ = some (.slice none 0 0) ∧ w4.frozen? ⟨pg, ks.length, none⟩ = false := (by rw [unhide hPK]; obtain ⟨q', _, _, _, x1, x2⟩ := unhide H4; exact ⟨x1, x2⟩); clear g1 g2 g4))
        obtain ⟨q', e1, e2, e3, -, -⟩ := unhide H4
        rw [show (⟨pg, ks.length, none⟩ : Addr) = ⟨pg, ps.length, none⟩ by rw [unhide hPK]]
        refine ⟨⟨m + 1, ks ++ [p / 1000], ps ++ [q'], by omega, by simp; omega, len_snoc (unhide HPM) (by rw [e1]; simp), by go_num, ?_, e2, hb.trans ((unhide hB3).trans e3)⟩, by simp [intOf]; omega⟩
        rw [List.map_append, List.map_singleton, e1]
        exact unhide Hn
      · have hpp : 0 < ks.length := List.length_pos_iff.2 hk0
        obtain ⟨g, oc', e, hcl⟩ := own_at (unhide HG).keys hpp
        cases e
        have hl0 : wr.cell? ⟨g, ks.length - 1, none⟩ = some (.int .i64 (ks[ks.length - 1]?.getD 0)) := by
          rw [hcl _ (by omega), List.getElem?_map, getD_of_lt (show ks.length - 1 < ks.length by omega)]
          rfl
        have hidx : ((ks.length : Int) - 1).toNat = ks.length - 1 := by omega
        have hlb : ¬ (ks.length : Int) - 1 < 0 := by omega
        have hlb2 : (0 : Int) ≤ (ks.length : Int) - 1 := by omega
        have hlb3 : (ks.length : Int) - 1 < (ks.length : Int) := by omega
        by_cases hne : ks[ks.length - 1]?.getD 0 = p / 1000
        · obtain ⟨ps0, q, rfl⟩ : ∃ ps0 q, ps = ps0 ++ [q] := ⟨ps.dropLast, ps.getLast (by intro e; rw [e] at hpl; simp at hpl; omega), (List.dropLast_concat_getLast _).symm⟩
          have hpl0 : ps0.length = ks.length - 1 := by rw [List.length_append] at hpl; simp at hpl; omega
          have Hn := hide (unhide Hsame (ps0.map Cl.xs) q.xs (by rw [List.map_append]; rfl) hne)
          have hown := ((unhide HG).last ps0 q rfl).1
          have hqm := unhide HPM q (by simp)
          obtain ⟨qa, qc, eq⟩ := own_is hown
          have elen : (ps0 ++ [q]).length = ps0.length + 1 := by simp
          have hrw := (unhide HG).ll.own
          rw [elen] at hrw HG ⊢
          obtain ⟨pg, e8⟩ : ∃ pg, pa = some ⟨pg, 0, none⟩ := by
            rcases hrw.2 with ⟨e, h0⟩ | ⟨g2, cap2, cur, e, _⟩
            · omega
            · cases e; exact ⟨g2, rfl⟩
          subst e8
          have hcl3 : wr.cell? ⟨pg, ps0.length, none⟩ = some (.slice qa q.xs.length qc) := by rw [← eq]; exact own_last (unhide HG).ll.own
          rw [eq] at hown
          have HOw := hide hown
          have Hgp := hide (fun (v' : Value) (w' : World) (o : Obj) => GS.post (x := base + p % 1000) (v' := v') (w' := w') (o := o) (unhide HG) hszr)
          rw [eq] at Hgp
          have hP0 : Hid (ks.length - 1 = ps0.length) := hpl0.symm
          have i1 : ((ks.length : Int) - 1).toNat = ps0.length := by omega
          have i2 : (ks.length : Int) - 1 < (ps0.length : Int) + 1 := by omega
          rw [hne] at hl0
          have hcl4 : wr.cell? ⟨pg, ks.length - 1, none⟩ = some (.slice qa q.xs.length qc) := by rw [unhide hP0]; exact hcl3
          have Hok := hide (unhide HPM)
          clear hcl hne hpl HPL elen hrw hown Hlt Hsame HK hpl0 i1 hcl3
          go_wp2_with (at_builtin; refine wpList_append_own_at _ rfl _ _ 23 rfl w1.heap.size 3 i0 (.int .i64 0) 1 8 Try.underlying23 hi hz0 hz1 hz2 rfl (by decide) _ _ _ rfl (World.ownsRow.alloc (w := wr) (unhide HOw) _) ⟨wr.heap.size, 0, none⟩ 1 1 [.int .i64 (base + p % 1000)] rfl rfl (cell_1 (by simp)) (by intro u hu; simp at hu; subst hu; rfl) (by unfold maxLen; omega) (by omega) (by rw [sz_alloc]; omega) ?_; intro v4 w4 g1 g2 _ g4; have H4 := hide (unhide Hgp v4 w4 _ g1 g2 g4); obtain ⟨vg, vcap, rfl⟩ := ownsRow_succ g1; obtain ⟨c4, z4⟩ : w4.cell? ⟨pg, ks.length - 1, none⟩ = some (.slice qa q.xs.length qc) ∧ w4.frozen? ⟨pg, ks.length - 1, none⟩ = false := (by rw [unhide hP0]; obtain ⟨q', _, _, _, x1, x2⟩ := unhide H4; exact ⟨x1, x2⟩); clear g1 g2 g4)
          obtain ⟨q', e1, e2, e3, -, -⟩ := unhide H4
          rw [show (⟨pg, ks.length - 1, none⟩ : Addr) = ⟨pg, ps0.length, none⟩ by rw [unhide hP0]]
          refine ⟨⟨m + 1, ks, ps0 ++ [q'], by omega, by omega, len_snoc (fun r hr => unhide HPM r (by simp [hr])) (by rw [e1]; simp; omega), by go_num, ?_, e2, hb.trans e3⟩, by simp [intOf]; omega⟩
          rw [List.map_append, List.map_singleton, e1]
          exact unhide Hn
        · have Hn := hide (unhide Hlt (Or.inr hne))
          generalize ks[ks.length - 1]?.getD 0 = lk at *
          have hne' : (lk != p / 1000) = true := by simp [hne]
          have hPK : Hid (ks.length = ps.length) := hpl.symm
          have hkb : ks.length < ps.length + 1 := by omega
          have hkb' : (ks.length : Int) < (ps.length : Int) + 1 := by omega
          clear Hlt Hsame HK hpl HPL hk0 hcl hne
          go_wp2_with (first
            | (at_builtin; refine wpList_append_own_at _ rfl _ _ 23 rfl w1.heap.size 3 i0 (.int .i64 0) 1 8 Try.underlying23 hi hz0 hz1 hz2 rfl (by decide) _ _ _ rfl (World.ownsRow.alloc (w := wr) (unhide HG).keys _) ⟨wr.heap.size, 0, none⟩ 1 1 [.int .i64 (p / 1000)] rfl rfl (cell_1 (by simp)) (by intro u hu; simp at hu; subst hu; rfl) (by unfold maxLen; omega) (by omega) (by rw [sz_alloc]; show _ ≤ wr.heap.size + 1; omega) ?_; intro kv2 w2 g1 g2 _ g4; have H2 := hide (GT.key (w := wr) (unhide HG).toGT hszr g1 g2 g4); obtain ⟨kg, kcap, rfl⟩ := ownsRow_succ g1; have hz2' : w1.heap.size ≤ w2.heap.size := Nat.le_trans hszr (unhide H2).2.size; clear g1 g2 g4 HG)
            | (at_builtin; refine wpList_append_own_at _ rfl _ _ 24 rfl w1.heap.size 23 j0 (.slice none 0 0) 1 24 Try.underlying24 hj hy0 hy1 hy2 rfl (by decide) _ _ _ rfl (World.ownsRow.alloc (w := w2) (unhide H2).1.ll.own _) ⟨w2.heap.size, 0, none⟩ 1 1 [.slice none 0 0] rfl rfl (cell_1 (by simp)) (by intro u hu; simp at hu; subst hu; rfl) (by unfold maxLen; omega) (by omega) (by rw [sz_alloc]; omega) ?_; intro pv3 w3 g1 g2 _ _; have H3 := hide ((unhide H2).1.post0 hz2' g1 g2); obtain ⟨pg, pcap, rfl⟩ := ownsRow_succ g1; have hz3' : w1.heap.size ≤ w3.heap.size := Nat.le_trans hz2' (unhide H3).2.size; have hB3 := hide ((unhide H2).2.trans (unhide H3).2); have hcl3 : w3.cell? ⟨pg, ks.length, none⟩ = some (.slice none 0 0) := (by rw [unhide hPK]; exact own_last (unhide H3).1.ll.own); clear g1 g2 H2)
            | (at_builtin; refine wpList_append_own_at _ rfl _ _ 23 rfl w1.heap.size 3 i0 (.int .i64 0) 1 8 Try.underlying23 hi hz0 hz1 hz2 rfl (by decide) _ 0 [] rfl (World.ownsRow_nil _ _ _ _) ⟨w3.heap.size, 0, none⟩ 1 1 [.int .i64 (base + p % 1000)] rfl rfl (cell_1 (by simp)) (by intro u hu; simp at hu; subst hu; rfl) (by unfold maxLen; omega) (by omega) (by rw [sz_alloc]; omega) ?_; intro v4 w4 g1 g2 _ g4; have H4 := hide (GS.post (unhide H3).1 hz3' g1 g2 g4); obtain ⟨vg, vcap, rfl⟩ := ownsRow_succ g1; obtain ⟨c4, z4⟩ : w4.cell? ⟨pg, ks.length, none⟩ = some (.slice none 0 0) ∧ w4.frozen? ⟨pg, ks.length, none⟩ = false := (by rw [unhide hPK]; obtain ⟨q', _, _, _, x1, x2⟩ := unhide H4; exact ⟨x1, x2⟩); clear g1 g2 g4))
          obtain ⟨q', e1, e2, e3, -, -⟩ := unhide H4
          rw [show (⟨pg, ks.length, none⟩ : Addr) = ⟨pg, ps.length, none⟩ by rw [unhide hPK]]
          refine ⟨⟨m + 1, ks ++ [p / 1000], ps ++ [q'], by omega, by simp; omega, len_snoc (unhide HPM) (by rw [e1]; simp), by go_num, ?_, e2, hb.trans ((unhide hB3).trans e3)⟩, by simp [intOf]; omega⟩
          rw [List.map_append, List.map_singleton, e1]
          exact unhide Hn
    · obtain rfl : m = zs.length := by omega
      have Hseg := hide ((unhide HK).done (unhide HO) hL)
      have Hcnt := hide (unhide HK).cnt
      have hBf := hb1'.trans (hb.mono hz1')
      go_wp2_with fail
      go_ret2
      exact ⟨⟨_, _, ks, ps, rfl, unhide Hseg, ⟨Nat.le_trans (unhide Hcnt).2 hzl', Nat.le_trans (unhide Hcnt).1 hzl'⟩, (unhide HG).toGT.low hz1'⟩, hBf⟩

end Go.Proofs.Ytpkghafpelilfaa
