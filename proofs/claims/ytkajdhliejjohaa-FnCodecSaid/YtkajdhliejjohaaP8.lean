import Derived.Test.YtkajdhliejjohaaP7
import Derived.Deep.RegionHeld3
import Derived.Test.YtkajdhliejjohaaP3
import Derived.Test.YtkajdhliejjohaaP4
import Derived.Laws.BytesArg
namespace Go.Proofs.Ytkajdhliejjohaa
open Go.RowKit

theorem plcs_mem (xss : List (List Int)) (n : Nat) (p : Int) : p ∈ plcs xss n ↔ ∃ i : Nat, i < n ∧ ∃ t, t ∈ tr (xss[i]?.getD []) ∧ p = t * 1000 + i := by
  induction n with
  | zero => simp [plcs]
  | succ n ih =>
    rw [plcs, List.mem_append, ih]
    constructor
    · rintro (⟨i, hi, t, ht, e⟩ | h)
      · exact ⟨i, by omega, t, ht, e⟩
      · unfold plc at h
        obtain ⟨t, ht, e⟩ := List.mem_map.1 h
        exact ⟨n, by omega, t, ht, e.symm⟩
    · rintro ⟨i, hi, t, ht, e⟩
      by_cases q : i < n
      · exact Or.inl ⟨i, q, t, ht, e⟩
      · obtain rfl : i = n := by omega
        exact Or.inr (List.mem_map.2 ⟨t, ht, e.symm⟩)
theorem allT_mem (xss : List (List Int)) (z : Int) : z ∈ allT xss ↔ ∃ i : Nat, i < xss.length ∧ z ∈ tr (xss[i]?.getD []) := by
  unfold allT
  rw [List.mem_flatMap]
  constructor
  · rintro ⟨x, hx, hz⟩
    obtain ⟨i, hi, e⟩ := List.mem_iff_getElem.1 hx
    exact ⟨i, hi, by rw [List.getElem?_eq_getElem hi]; show z ∈ tr xss[i]; rw [e]; exact hz⟩
  · rintro ⟨i, hi, hz⟩
    rw [List.getElem?_eq_getElem hi] at hz
    exact ⟨xss[i], List.getElem_mem _, hz⟩
theorem tr_nonneg {bs : List Int} (h : Bytes bs) {t : Int} (ht : t ∈ tr bs) : 0 ≤ t ∧ t ≤ 16777215 := by
  unfold tr tris at ht
  obtain ⟨i, -, rfl⟩ := List.mem_map.1 ht
  have h0 := h i
  have h1 := h (i + 1)
  have h2 := h (i + 2)
  have e : tri3 bs i = bs[i]?.getD 0 * 65536 + bs[i + 1]?.getD 0 * 256 + bs[i + 2]?.getD 0 := rfl
  omega

theorem tot_app {α : Type} (a b : List (List α)) : tot (a ++ b) = tot a + tot b := by
  induction a with
  | nil => simp [tot]
  | cons x r ih => simp only [List.cons_append, tot, ih]; omega

/-- While the places are put into their lists: the first m are. -/
structure KInv (base : Int) (zs : List Int) (m : Nat) (ks : List Int) (pss : List (List Int)) : Prop where
  asc : Asc ks
  mem : ∀ z, z ∈ ks ↔ ∃ p, p ∈ zs.take m ∧ z = p / 1000
  len : pss.length = ks.length
  post : ∀ j : Nat, j < ks.length → Asc (pss[j]?.getD []) ∧ ∀ x, x ∈ pss[j]?.getD [] ↔ ∃ p, p ∈ zs.take m ∧ p / 1000 = ks[j]?.getD 0 ∧ x = base + p % 1000
  cnt : tot pss ≤ m ∧ ks.length ≤ m
theorem KInv.start (base : Int) (zs : List Int) : KInv base zs 0 [] [] := ⟨List.Pairwise.nil, by simp, rfl, fun j hj => absurd hj (by simp), by simp [tot]⟩
theorem take_lt {zs : List Int} (hz : Asc zs) {m : Nat} (hm : m < zs.length) {p : Int} (hp : p ∈ zs.take m) : p < zs[m]?.getD 0 := by
  obtain ⟨i, hi, e⟩ := mem_get.1 hp
  rw [List.length_take] at hi
  rw [List.getElem?_take, if_pos (by omega)] at e
  rw [← e]
  exact asc_get hz (by omega) hm
theorem KInv.le {base : Int} {zs : List Int} {m : Nat} {ks : List Int} {pss : List (List Int)} (h : KInv base zs m ks pss) (hz : Asc zs) (hm : m < zs.length) : ∀ z ∈ ks, z ≤ zs[m]?.getD 0 / 1000 := fun z hk => by
  obtain ⟨p, hp, rfl⟩ := (h.mem z).1 hk
  have := take_lt hz hm hp
  omega
theorem KInv.lt {base : Int} {zs : List Int} {m : Nat} {ks : List Int} {pss : List (List Int)} (h : KInv base zs m ks pss) (hz : Asc zs) (hm : m < zs.length) (hne : ks = [] ∨ ks[ks.length - 1]?.getD 0 ≠ zs[m]?.getD 0 / 1000) : ∀ z ∈ ks, z < zs[m]?.getD 0 / 1000 := fun z hk => by
  have h1 := h.le hz hm z hk
  rcases hne with e | e
  · rw [e] at hk; simp at hk
  · obtain ⟨i, hi, e2⟩ := mem_get.1 hk
    have h2 := h.le hz hm (ks[ks.length - 1]?.getD 0) (mem_get.2 ⟨ks.length - 1, by omega, rfl⟩)
    by_cases q : i = ks.length - 1
    · subst q; omega
    · have := asc_get h.asc (show i < ks.length - 1 by omega) (by omega)
      omega
theorem KInv.new {base : Int} {zs : List Int} {m : Nat} {ks : List Int} {pss : List (List Int)} (h : KInv base zs m ks pss) (hm : m < zs.length) (hlt : ∀ z ∈ ks, z < zs[m]?.getD 0 / 1000) : KInv base zs (m + 1) (ks ++ [zs[m]?.getD 0 / 1000]) (pss ++ [[base + zs[m]?.getD 0 % 1000]]) := by
  refine ⟨List.pairwise_append.2 ⟨h.asc, List.pairwise_singleton _ _, fun a ha b hb => ?_⟩, fun z => ?_, by simp [h.len], fun j hj => ?_, by have := h.cnt; rw [tot_app, List.length_append]; simp [tot]; omega⟩
  · rw [List.mem_singleton] at hb
    rw [hb]
    exact hlt a ha
  · rw [List.mem_append, h.mem, List.mem_singleton]
    constructor
    · rintro (⟨p, hp, e⟩ | e)
      · exact ⟨p, (take_succ_mem hm p).2 (Or.inl hp), e⟩
      · exact ⟨_, (take_succ_mem hm _).2 (Or.inr rfl), e⟩
    · rintro ⟨p, hp, e⟩
      rcases (take_succ_mem hm p).1 hp with hp | rfl
      · exact Or.inl ⟨p, hp, e⟩
      · exact Or.inr e
  · by_cases q : j < ks.length
    · rw [List.getElem?_append_left (by rw [h.len]; exact q), List.getElem?_append_left q]
      obtain ⟨h1, h2⟩ := h.post j q
      refine ⟨h1, fun x => ?_⟩
      rw [h2]
      constructor
      · rintro ⟨p, hp, e⟩
        exact ⟨p, (take_succ_mem hm p).2 (Or.inl hp), e⟩
      · rintro ⟨p, hp, e1, e2⟩
        rcases (take_succ_mem hm p).1 hp with hp | rfl
        · exact ⟨p, hp, e1, e2⟩
        · have := hlt (ks[j]?.getD 0) (mem_get.2 ⟨j, q, rfl⟩)
          omega
    · have hj' : j = ks.length := by rw [List.length_append] at hj; simp at hj; omega
      subst hj'
      rw [List.getElem?_append_right (by rw [h.len]; exact Nat.le_refl _), List.getElem?_append_right (Nat.le_refl _), h.len, Nat.sub_self]
      simp only [List.getElem?_cons_zero, Option.getD_some]
      refine ⟨List.pairwise_singleton _ _, fun x => ?_⟩
      rw [List.mem_singleton]
      constructor
      · rintro rfl
        exact ⟨_, (take_succ_mem hm _).2 (Or.inr rfl), rfl, rfl⟩
      · rintro ⟨p, hp, e1, e2⟩
        rcases (take_succ_mem hm p).1 hp with hp | rfl
        · have := hlt (p / 1000) ((h.mem _).2 ⟨p, hp, rfl⟩)
          omega
        · exact e2
theorem KInv.same {base : Int} {zs : List Int} {m : Nat} {ks l : List Int} {pss : List (List Int)} (h : KInv base zs m ks (pss ++ [l])) (hz : Asc zs) (hm : m < zs.length) (hk : ks[ks.length - 1]?.getD 0 = zs[m]?.getD 0 / 1000) : KInv base zs (m + 1) ks (pss ++ [l ++ [base + zs[m]?.getD 0 % 1000]]) := by
  have hlen := h.len
  rw [List.length_append] at hlen
  simp only [List.length_singleton] at hlen
  have hmk : zs[m]?.getD 0 / 1000 ∈ ks := mem_get.2 ⟨ks.length - 1, by omega, hk⟩
  refine ⟨h.asc, fun z => ?_, by simp; omega, fun j hj => ?_, by have := h.cnt; rw [tot_app] at this ⊢; simp [tot] at this ⊢; omega⟩
  · rw [h.mem]
    constructor
    · rintro ⟨p, hp, e⟩
      exact ⟨p, (take_succ_mem hm p).2 (Or.inl hp), e⟩
    · rintro ⟨p, hp, e⟩
      rcases (take_succ_mem hm p).1 hp with hp | rfl
      · exact ⟨p, hp, e⟩
      · rw [e]
        exact (h.mem _).1 hmk
  · by_cases q : j < pss.length
    · have h3 := h.post j hj
      rw [List.getElem?_append_left q] at h3 ⊢
      obtain ⟨h1, h2⟩ := h3
      refine ⟨h1, fun x => ?_⟩
      rw [h2]
      constructor
      · rintro ⟨p, hp, e⟩
        exact ⟨p, (take_succ_mem hm p).2 (Or.inl hp), e⟩
      · rintro ⟨p, hp, e1, e2⟩
        rcases (take_succ_mem hm p).1 hp with hp | rfl
        · exact ⟨p, hp, e1, e2⟩
        · have := asc_get h.asc (show j < ks.length - 1 by omega) (by omega)
          omega
    · have hj' : j = pss.length := by omega
      have hkj : ks[j]?.getD 0 = zs[m]?.getD 0 / 1000 := by rw [show j = ks.length - 1 by omega]; exact hk
      subst hj'
      have h3 := h.post pss.length hj
      rw [List.getElem?_append_right (Nat.le_refl _), Nat.sub_self] at h3 ⊢
      simp only [List.getElem?_cons_zero, Option.getD_some] at h3 ⊢
      obtain ⟨h1, h2⟩ := h3
      refine ⟨List.pairwise_append.2 ⟨h1, List.pairwise_singleton _ _, fun a ha b hb => ?_⟩, fun x => ?_⟩
      · rw [List.mem_singleton] at hb
        obtain ⟨p, hp, e1, e2⟩ := (h2 a).1 ha
        have := take_lt hz hm hp
        omega
      · rw [List.mem_append, h2, List.mem_singleton]
        constructor
        · rintro (⟨p, hp, e⟩ | e)
          · exact ⟨p, (take_succ_mem hm p).2 (Or.inl hp), e⟩
          · exact ⟨_, (take_succ_mem hm _).2 (Or.inr rfl), hkj.symm, e⟩
        · rintro ⟨p, hp, e1, e2⟩
          rcases (take_succ_mem hm p).1 hp with hp | rfl
          · exact Or.inl ⟨p, hp, e1, e2⟩
          · exact Or.inr e2
theorem KInv.done {base : Int} {zs : List Int} {ks : List Int} {pss xss : List (List Int)} (h : KInv base zs zs.length ks pss) (ho : Ord (plcs xss xss.length) zs) (hn : xss.length ≤ 1000) : SegR base xss ks pss := by
  have hmem : ∀ p, p ∈ zs.take zs.length ↔ ∃ i : Nat, i < xss.length ∧ ∃ t, t ∈ tr (xss[i]?.getD []) ∧ p = t * 1000 + i := fun p => by rw [List.take_length, ho.mem, plcs_mem]
  refine ⟨⟨h.asc, fun z => ?_⟩, h.len, fun j hj => ⟨(h.post j hj).1, fun x => ?_⟩⟩
  · rw [h.mem, allT_mem]
    constructor
    · rintro ⟨p, hp, e⟩
      obtain ⟨i, hi, t, ht, e2⟩ := (hmem p).1 hp
      exact ⟨i, hi, by rw [show z = t by omega]; exact ht⟩
    · rintro ⟨i, hi, ht⟩
      exact ⟨z * 1000 + i, (hmem _).2 ⟨i, hi, z, ht, rfl⟩, by omega⟩
  · rw [(h.post j hj).2]
    constructor
    · rintro ⟨p, hp, e, e2⟩
      obtain ⟨i, hi, t, ht, e3⟩ := (hmem p).1 hp
      exact ⟨i, hi, by omega, by rw [show ks[j]?.getD 0 = t by omega]; exact ht⟩
    · rintro ⟨i, hi, e, ht⟩
      exact ⟨ks[j]?.getD 0 * 1000 + i, (hmem _).2 ⟨i, hi, _, ht, rfl⟩, by omega, by omega⟩

theorem own_last {base e g cap : Nat} {w : World} {ps : List (Cl Int)} {q : Cl Int} {n : Nat} (h : w.ownsRow base e 1 (.slice (some ⟨g, 0, none⟩) n cap) (ps ++ [q]).length ((ps ++ [q]).map Cl.v)) : w.cell? ⟨g, ps.length, none⟩ = some q.v := by
  rw [List.length_append] at h
  obtain ⟨a, c, e⟩ := own_is h
  cases e
  rw [h.cellAt ps.length (by simp), List.map_append, List.getElem?_append_right (by rw [List.length_map]; exact Nat.le_refl _), List.length_map, Nat.sub_self]
  rfl

theorem len_snoc {ps : List (Cl Int)} {q : Cl Int} {m : Nat} (h : ∀ p ∈ ps, p.xs.length ≤ m) (hq : q.xs.length ≤ m + 1) : ∀ p ∈ ps ++ [q], p.xs.length ≤ m + 1 := fun p hp => by
  rcases List.mem_append.1 hp with h1 | h1
  · have := h p h1; omega
  · rw [List.mem_singleton] at h1; subst h1; exact hq
theorem GT.low {n n' : Nat} {w : World} {kv pv : Value} {ks : List Int} {ps : List (Cl Int)} (h : GT n w kv ks pv ps) (hn : n' ≤ n) : GT n' w kv ks pv ps := ⟨own_low h.keys hn, ⟨own_low h.ll.own hn, h.ll.ok, fun p hp h0 => Nat.le_trans hn (h.ll.lo p hp h0), h.ll.apart⟩, h.kap⟩

/-- What postingLists answers. -/
def PostRet (e : Ending) (w w' : World) (base : Int) (xss : List (List Int)) : Prop := ∃ kv pv ks ps, e = .returned (.tuple #[kv, pv]) ∧ SegR base xss ks (ps.map Cl.xs) ∧ (ks.length ≤ 1048576 ∧ tot (ps.map Cl.xs) ≤ 1048576) ∧ GT w.heap.size w' kv ks pv ps

set_option maxHeartbeats 4000000 in
set_option maxRecDepth 100000 in
theorem postingLists_any (base : Int) (v : Value) (xss : List (List Int)) (w : World) (hv : SsAt mB 0 w.heap.size w v xss) (hbb : ∀ x ∈ xss, Bytes x) (hT : tot xss ≤ 1048576) (hL : xss.length ≤ 1000) (hb0 : 0 ≤ base) (hb1 : base ≤ 1000) :
    Calls Try.prog 28 #[.int .i64 base, v] w fun e w' => PostRet e w w' base xss ∧ Below w.heap.size w w' := by
  obtain ⟨i0, hi, hz0, hz1, hz2⟩ := info_parts Try.zinInt
  obtain ⟨j0, hj, hy0, hy1, hy2⟩ := info_parts Try.zinIntS
  have Hv := hide hv
  have HB := hide hbb
  obtain ⟨a, cap, rfl, hl, hc⟩ := hv
  clear hbb hc
  go_enter Try.func28, Try.ntmps28
  go_wp2_with fail
  refine (trigramPlaces_any _ xss _ (unhide Hv) (unhide HB) hT hL).mono ?_
  rintro e w1 ⟨⟨v1, zs, rfl, ho, hzl, hown⟩, hb1'⟩
  have hz1' := hb1'.size
  have HO := hide ho
  have hzl' : zs.length ≤ 1048576 := Nat.le_trans hzl (Nat.le_trans (plcs_len xss _ (Nat.le_refl _)) (Nat.le_trans (tot_take xss _) hT))
  have hpos : ∀ p, p ∈ zs → 0 ≤ p ∧ p ≤ 16777215999 := fun p hp => by
    obtain ⟨i, hi2, t, ht, e⟩ := (plcs_mem xss _ p).1 ((ho.mem p).1 hp)
    have := tr_nonneg (unhide HB (xss[i]?.getD []) (by rw [List.getElem?_eq_getElem hi2]; exact List.getElem_mem _)) ht
    omega
  have HP := hide hpos
  have SZ := hide ((own_slw (lo := 0) hown (Nat.zero_le _) (by unfold maxLen; omega)).at)
  obtain ⟨za, zc, rfl⟩ := own_is hown
  clear hown ho hzl hpos
  go_wp2_with fail
  go_loopw [4, 5, 14] (fun kv pv iv wr => ∃ (m : Nat) (ks : List Int) (ps : List (Cl Int)), m ≤ zs.length ∧ ks.length ≤ m ∧ (∀ p ∈ ps, p.xs.length ≤ m) ∧ iv = .int .i64 m ∧ KInv base zs m ks (ps.map Cl.xs) ∧ GS w1.heap.size wr kv ks pv ps ∧ Below w1.heap.size w1 wr) (fun _ _ iv _ => zs.length - (intOf iv).toNat)
  case atStart => exact ⟨0, [], [], Nat.zero_le _, Nat.le_refl _, by simp, rfl, KInv.start base zs, GT.nil, Below.refl _ _⟩
  case round =>
    obtain ⟨m, ks, ps, hm, hkm, hpm, rfl, hkv, hgs, hb⟩ := hrel
    have HPM := hide hpm
    clear hpm
    have hszr := hb.size
    have HK := hide hkv
    have HG := hide hgs
    have hpl : ps.length = ks.length := by have := hkv.len; rwa [List.length_map] at this
    have HPL := hide hpl
    obtain ⟨ka, kc, rfl⟩ := own_is hgs.keys
    obtain ⟨pa, pc, rfl⟩ := own_is hgs.ll.own
    clear hkv hgs
    by_cases hlt : m < zs.length
    · have hlt' : (m : Int) < (zs.length : Int) := by omega
      obtain ⟨_, _, e1, -, hc⟩ := (unhide SZ).below hb (Nat.le_refl _)
      cases e1
      obtain ⟨b, off, rfl, -, hbn, hcell⟩ := hc (by omega)
      have hx := hcell m hlt
      unfold mI at hx
      obtain ⟨p0, p1⟩ := unhide HP (zs[m]?.getD 0) (mem_get.2 ⟨m, hlt, rfl⟩)
      have Hlt := hide (fun hne => (unhide HK).new hlt ((unhide HK).lt (unhide HO).asc hlt hne))
      have Hsame := hide (fun (pss : List (List Int)) (l : List Int) (e : ps.map Cl.xs = pss ++ [l]) he => KInv.same (l := l) (pss := pss) (by rw [← e]; exact unhide HK) (unhide HO).asc hlt he)
      clear hcell hc
      generalize zs[m]?.getD 0 = p at *
      have d1 : p.tdiv 1000 = p / 1000 := by rw [Int.tdiv_eq_ediv_of_nonneg p0]
      have d2 : p.tmod 1000 = p % 1000 := by rw [Int.tmod_eq_emod_of_nonneg p0]
      have r0 : 0 ≤ p % 1000 := by omega
      have r1 : p % 1000 < 1000 := by omega
      have hpk : ps.length ≤ 1048576 := by omega
      by_cases hk0 : ks = []
      · have Hn := hide (unhide Hlt (Or.inl hk0))
        have hl0 : (ks.length : Int) - 1 < 0 := by rw [hk0]; decide
        have hPK : Hid (ks.length = ps.length) := hpl.symm
        have hkb : ks.length < ps.length + 1 := by omega
        have hkb' : (ks.length : Int) < (ps.length : Int) + 1 := by omega
        clear Hlt Hsame HK hpl HPL hk0
        go_wp2_with (first
          | (at_builtin; refine wpList_append_own_at _ rfl _ _ 25 rfl w1.heap.size 3 i0 (.int .i64 0) 1 8 Try.underlying25 hi hz0 hz1 hz2 rfl (by decide) _ _ _ rfl (World.ownsRow.alloc (w := wr) (unhide HG).keys _) ⟨wr.heap.size, 0, none⟩ 1 1 [.int .i64 (p / 1000)] rfl rfl (cell_1 (by simp)) (by intro u hu; simp at hu; subst hu; rfl) (by unfold maxLen; omega) (by omega) (by rw [sz_alloc]; show _ ≤ wr.heap.size + 1; omega) ?_; intro kv2 w2 g1 g2 _ g4; have H2 := hide (GT.key (w := wr) (unhide HG).toGT hszr g1 g2 g4); obtain ⟨kg, kcap, rfl⟩ := ownsRow_succ g1; have hz2' : w1.heap.size ≤ w2.heap.size := Nat.le_trans hszr (unhide H2).2.size; clear g1 g2 g4 HG)
          | (at_builtin; refine wpList_append_own_at _ rfl _ _ 26 rfl w1.heap.size 25 j0 (.slice none 0 0) 1 24 Try.underlying26 hj hy0 hy1 hy2 rfl (by decide) _ _ _ rfl (World.ownsRow.alloc (w := w2) (unhide H2).1.ll.own _) ⟨w2.heap.size, 0, none⟩ 1 1 [.slice none 0 0] rfl rfl (cell_1 (by simp)) (by intro u hu; simp at hu; subst hu; rfl) (by unfold maxLen; omega) (by omega) (by rw [sz_alloc]; omega) ?_; intro pv3 w3 g1 g2 _ _; have H3 := hide ((unhide H2).1.post0 hz2' g1 g2); obtain ⟨pg, pcap, rfl⟩ := ownsRow_succ g1; have hz3' : w1.heap.size ≤ w3.heap.size := Nat.le_trans hz2' (unhide H3).2.size; have hB3 := hide ((unhide H2).2.trans (unhide H3).2); have hcl3 : w3.cell? ⟨pg, ks.length, none⟩ = some (.slice none 0 0) := (by rw [unhide hPK]; exact own_last (unhide H3).1.ll.own); clear g1 g2 H2)
          | (at_builtin; refine wpList_append_own_at _ rfl _ _ 25 rfl w1.heap.size 3 i0 (.int .i64 0) 1 8 Try.underlying25 hi hz0 hz1 hz2 rfl (by decide) _ 0 [] rfl (World.ownsRow_nil _ _ _ _) ⟨w3.heap.size, 0, none⟩ 1 1 [.int .i64 (base + p % 1000)] rfl rfl (cell_1 (by simp)) (by intro u hu; simp at hu; subst hu; rfl) (by unfold maxLen; omega) (by omega) (by rw [sz_alloc]; omega) ?_; intro v4 w4 g1 g2 _ g4; have H4 := hide (GS.post (unhide H3).1 hz3' g1 g2 g4); obtain ⟨vg, vcap, rfl⟩ := ownsRow_succ g1; obtain ⟨c4, z4⟩ : w4.cell? ⟨pg, ks.length, none⟩ = some (.slice none 0 0) ∧ w4.frozen? ⟨pg, ks.length, none⟩ = false := (by rw [unhide hPK]; obtain ⟨q', _, _, _, x1, x2⟩ := unhide H4; exact ⟨x1, x2⟩); clear g1 g2 g4))
        obtain ⟨q', e1, e2, e3, -, -⟩ := unhide H4
        rw [show (⟨pg, ks.length, none⟩ : Addr) = ⟨pg, ps.length, none⟩ by rw [unhide hPK]]
        refine ⟨⟨m + 1, ks ++ [p / 1000], ps ++ [q'], by omega, by simp; omega, len_snoc (unhide HPM) (by rw [e1]; simp), by go_num, ?_, e2, hb.trans ((unhide hB3).trans e3)⟩, by simp [intOf]; omega⟩
        rw [List.map_append, List.map_singleton, e1]
        exact unhide Hn
      · have hpp : 0 < ks.length := List.length_pos_iff.2 hk0
        obtain ⟨g, oc', e, hcl⟩ := own_at (unhide HG).keys hpp
        cases e
        have hl0 : wr.cell? ⟨g, ks.length - 1, none⟩ = some (.int .i64 (ks[ks.length - 1]?.getD 0)) := by
          rw [hcl _ (by omega), List.getElem?_map, getD_of_lt (show ks.length - 1 < ks.length by omega)]
          rfl
        have hidx : ((ks.length : Int) - 1).toNat = ks.length - 1 := by omega
        have hlb : ¬ (ks.length : Int) - 1 < 0 := by omega
        have hlb2 : (0 : Int) ≤ (ks.length : Int) - 1 := by omega
        have hlb3 : (ks.length : Int) - 1 < (ks.length : Int) := by omega
        by_cases hne : ks[ks.length - 1]?.getD 0 = p / 1000
        · obtain ⟨ps0, q, rfl⟩ : ∃ ps0 q, ps = ps0 ++ [q] := ⟨ps.dropLast, ps.getLast (by intro e; rw [e] at hpl; simp at hpl; omega), (List.dropLast_concat_getLast _).symm⟩
          have hpl0 : ps0.length = ks.length - 1 := by rw [List.length_append] at hpl; simp at hpl; omega
          have Hn := hide (unhide Hsame (ps0.map Cl.xs) q.xs (by rw [List.map_append]; rfl) hne)
          have hown := ((unhide HG).last ps0 q rfl).1
          have hqm := unhide HPM q (by simp)
          obtain ⟨qa, qc, eq⟩ := own_is hown
          have elen : (ps0 ++ [q]).length = ps0.length + 1 := by simp
          have hrw := (unhide HG).ll.own
          rw [elen] at hrw HG ⊢
          obtain ⟨pg, e8⟩ : ∃ pg, pa = some ⟨pg, 0, none⟩ := by
            rcases hrw.2 with ⟨e, h0⟩ | ⟨g2, cap2, cur, e, _⟩
            · omega
            · cases e; exact ⟨g2, rfl⟩
          subst e8
          have hcl3 : wr.cell? ⟨pg, ps0.length, none⟩ = some (.slice qa q.xs.length qc) := by rw [← eq]; exact own_last (unhide HG).ll.own
          rw [eq] at hown
          have HOw := hide hown
          have Hgp := hide (fun (v' : Value) (w' : World) (o : Obj) => GS.post (x := base + p % 1000) (v' := v') (w' := w') (o := o) (unhide HG) hszr)
          rw [eq] at Hgp
          have hP0 : Hid (ks.length - 1 = ps0.length) := hpl0.symm
          have i1 : ((ks.length : Int) - 1).toNat = ps0.length := by omega
          have i2 : (ks.length : Int) - 1 < (ps0.length : Int) + 1 := by omega
          rw [hne] at hl0
          have hcl4 : wr.cell? ⟨pg, ks.length - 1, none⟩ = some (.slice qa q.xs.length qc) := by rw [unhide hP0]; exact hcl3
          have Hok := hide (unhide HPM)
          clear hcl hne hpl HPL elen hrw hown Hlt Hsame HK hpl0 i1 hcl3
          go_wp2_with (at_builtin; refine wpList_append_own_at _ rfl _ _ 25 rfl w1.heap.size 3 i0 (.int .i64 0) 1 8 Try.underlying25 hi hz0 hz1 hz2 rfl (by decide) _ _ _ rfl (World.ownsRow.alloc (w := wr) (unhide HOw) _) ⟨wr.heap.size, 0, none⟩ 1 1 [.int .i64 (base + p % 1000)] rfl rfl (cell_1 (by simp)) (by intro u hu; simp at hu; subst hu; rfl) (by unfold maxLen; omega) (by omega) (by rw [sz_alloc]; omega) ?_; intro v4 w4 g1 g2 _ g4; have H4 := hide (unhide Hgp v4 w4 _ g1 g2 g4); obtain ⟨vg, vcap, rfl⟩ := ownsRow_succ g1; obtain ⟨c4, z4⟩ : w4.cell? ⟨pg, ks.length - 1, none⟩ = some (.slice qa q.xs.length qc) ∧ w4.frozen? ⟨pg, ks.length - 1, none⟩ = false := (by rw [unhide hP0]; obtain ⟨q', _, _, _, x1, x2⟩ := unhide H4; exact ⟨x1, x2⟩); clear g1 g2 g4)
          obtain ⟨q', e1, e2, e3, -, -⟩ := unhide H4
          rw [show (⟨pg, ks.length - 1, none⟩ : Addr) = ⟨pg, ps0.length, none⟩ by rw [unhide hP0]]
          refine ⟨⟨m + 1, ks, ps0 ++ [q'], by omega, by omega, len_snoc (fun r hr => unhide HPM r (by simp [hr])) (by rw [e1]; simp; omega), by go_num, ?_, e2, hb.trans e3⟩, by simp [intOf]; omega⟩
          rw [List.map_append, List.map_singleton, e1]
          exact unhide Hn
        · have Hn := hide (unhide Hlt (Or.inr hne))
          generalize ks[ks.length - 1]?.getD 0 = lk at *
          have hne' : (lk != p / 1000) = true := by simp [hne]
          have hPK : Hid (ks.length = ps.length) := hpl.symm
          have hkb : ks.length < ps.length + 1 := by omega
          have hkb' : (ks.length : Int) < (ps.length : Int) + 1 := by omega
          clear Hlt Hsame HK hpl HPL hk0 hcl hne
          go_wp2_with (first
            | (at_builtin; refine wpList_append_own_at _ rfl _ _ 25 rfl w1.heap.size 3 i0 (.int .i64 0) 1 8 Try.underlying25 hi hz0 hz1 hz2 rfl (by decide) _ _ _ rfl (World.ownsRow.alloc (w := wr) (unhide HG).keys _) ⟨wr.heap.size, 0, none⟩ 1 1 [.int .i64 (p / 1000)] rfl rfl (cell_1 (by simp)) (by intro u hu; simp at hu; subst hu; rfl) (by unfold maxLen; omega) (by omega) (by rw [sz_alloc]; show _ ≤ wr.heap.size + 1; omega) ?_; intro kv2 w2 g1 g2 _ g4; have H2 := hide (GT.key (w := wr) (unhide HG).toGT hszr g1 g2 g4); obtain ⟨kg, kcap, rfl⟩ := ownsRow_succ g1; have hz2' : w1.heap.size ≤ w2.heap.size := Nat.le_trans hszr (unhide H2).2.size; clear g1 g2 g4 HG)
            | (at_builtin; refine wpList_append_own_at _ rfl _ _ 26 rfl w1.heap.size 25 j0 (.slice none 0 0) 1 24 Try.underlying26 hj hy0 hy1 hy2 rfl (by decide) _ _ _ rfl (World.ownsRow.alloc (w := w2) (unhide H2).1.ll.own _) ⟨w2.heap.size, 0, none⟩ 1 1 [.slice none 0 0] rfl rfl (cell_1 (by simp)) (by intro u hu; simp at hu; subst hu; rfl) (by unfold maxLen; omega) (by omega) (by rw [sz_alloc]; omega) ?_; intro pv3 w3 g1 g2 _ _; have H3 := hide ((unhide H2).1.post0 hz2' g1 g2); obtain ⟨pg, pcap, rfl⟩ := ownsRow_succ g1; have hz3' : w1.heap.size ≤ w3.heap.size := Nat.le_trans hz2' (unhide H3).2.size; have hB3 := hide ((unhide H2).2.trans (unhide H3).2); have hcl3 : w3.cell? ⟨pg, ks.length, none⟩ = some (.slice none 0 0) := (by rw [unhide hPK]; exact own_last (unhide H3).1.ll.own); clear g1 g2 H2)
            | (at_builtin; refine wpList_append_own_at _ rfl _ _ 25 rfl w1.heap.size 3 i0 (.int .i64 0) 1 8 Try.underlying25 hi hz0 hz1 hz2 rfl (by decide) _ 0 [] rfl (World.ownsRow_nil _ _ _ _) ⟨w3.heap.size, 0, none⟩ 1 1 [.int .i64 (base + p % 1000)] rfl rfl (cell_1 (by simp)) (by intro u hu; simp at hu; subst hu; rfl) (by unfold maxLen; omega) (by omega) (by rw [sz_alloc]; omega) ?_; intro v4 w4 g1 g2 _ g4; have H4 := hide (GS.post (unhide H3).1 hz3' g1 g2 g4); obtain ⟨vg, vcap, rfl⟩ := ownsRow_succ g1; obtain ⟨c4, z4⟩ : w4.cell? ⟨pg, ks.length, none⟩ = some (.slice none 0 0) ∧ w4.frozen? ⟨pg, ks.length, none⟩ = false := (by rw [unhide hPK]; obtain ⟨q', _, _, _, x1, x2⟩ := unhide H4; exact ⟨x1, x2⟩); clear g1 g2 g4))
          obtain ⟨q', e1, e2, e3, -, -⟩ := unhide H4
          rw [show (⟨pg, ks.length, none⟩ : Addr) = ⟨pg, ps.length, none⟩ by rw [unhide hPK]]
          refine ⟨⟨m + 1, ks ++ [p / 1000], ps ++ [q'], by omega, by simp; omega, len_snoc (unhide HPM) (by rw [e1]; simp), by go_num, ?_, e2, hb.trans ((unhide hB3).trans e3)⟩, by simp [intOf]; omega⟩
          rw [List.map_append, List.map_singleton, e1]
          exact unhide Hn
    · obtain rfl : m = zs.length := by omega
      have Hseg := hide ((unhide HK).done (unhide HO) hL)
      have Hcnt := hide (unhide HK).cnt
      have hBf := hb1'.trans (hb.mono hz1')
      go_wp2_with fail
      go_ret2
      exact ⟨⟨_, _, ks, ps, rfl, unhide Hseg, ⟨Nat.le_trans (unhide Hcnt).2 hzl', Nat.le_trans (unhide Hcnt).1 hzl'⟩, (unhide HG).toGT.low hz1'⟩, hBf⟩

end Go.Proofs.Ytkajdhliejjohaa

namespace Go.Proofs.Ytkajdhliejjohaa
open Go.RowKit

/-- A segment that owns its memory, from block lo on. -/
def SegF (lo hi : Nat) (w : World) (v : Value) (base : Int) (xss : List (List Int)) (ks : List Int) (pss : List (List Int)) : Prop :=
  ∃ (lv kv pv : Value) (S1 S2 S3 : Nat → Prop), v = .agg #[.int .i64 base, lv, kv, pv] ∧ SsF mB 0 S1 w lv xss ∧ SlF mI 0 S2 w kv ks ∧ SsF mI 0 S3 w pv pss ∧
    (∀ k, S1 k ∨ S2 k ∨ S3 k → lo ≤ k ∧ k < hi) ∧ (∀ k, S1 k → ¬ S2 k ∧ ¬ S3 k) ∧ ∀ k, S2 k → ¬ S3 k
theorem SegF.same {lo hi : Nat} {w w' : World} {v : Value} {base : Int} {xss pss : List (List Int)} {ks : List Int} (h : SegF lo hi w v base xss ks pss) (hs : ∀ k, lo ≤ k → k < hi → w'.heap[k]? = w.heap[k]?) : SegF lo hi w' v base xss ks pss := by
  obtain ⟨lv, kv, pv, S1, S2, S3, e, h1, h2, h3, h4, h5, h6⟩ := h
  exact ⟨lv, kv, pv, S1, S2, S3, e, h1.same (fun k hk => hs k (h4 k (Or.inl hk)).1 (h4 k (Or.inl hk)).2), h2.same (fun k hk => hs k (h4 k (Or.inr (Or.inl hk))).1 (h4 k (Or.inr (Or.inl hk))).2), h3.same (fun k hk => hs k (h4 k (Or.inr (Or.inr hk))).1 (h4 k (Or.inr (Or.inr hk))).2), h4, h5, h6⟩
theorem SegF.keep {lo hi m : Nat} {w w' : World} {v : Value} {base : Int} {xss pss : List (List Int)} {ks : List Int} (h : SegF lo hi w v base xss ks pss) (hb : Below m w w') (hm : hi ≤ m) : SegF lo hi w' v base xss ks pss := h.same (fun k _ h2 => hb.block k (by omega))
theorem SegF.put {lo hi b o : Nat} {w : World} {v u : Value} {base : Int} {xss pss : List (List Int)} {ks : List Int} (h : SegF lo hi w v base xss ks pss) (hb : b < lo) : SegF lo hi (w.setCell ⟨b, o, none⟩ u) v base xss ks pss := h.same (fun k k1 _ => Below.heap_setCell _ _ _ _ (by show k ≠ b; omega))
theorem SegF.low {lo lo' hi hi' : Nat} {w : World} {v : Value} {base : Int} {xss pss : List (List Int)} {ks : List Int} (h : SegF lo hi w v base xss ks pss) (hl : lo' ≤ lo) (hh : hi ≤ hi') : SegF lo' hi' w v base xss ks pss := by
  obtain ⟨lv, kv, pv, S1, S2, S3, e, h1, h2, h3, h4, h5, h6⟩ := h
  exact ⟨lv, kv, pv, S1, S2, S3, e, h1, h2, h3, fun k hk => ⟨Nat.le_trans hl (h4 k hk).1, Nat.lt_of_lt_of_le (h4 k hk).2 hh⟩, h5, h6⟩
/-- In the blocks of S. -/
theorem LL.footP {α : Type} {mk : α → Value} {d : α} {e te : TypeId} {base : Nat} {w : World} {v : Value} {ps : List (Cl α)} {S : Nat → Prop} (hte : te ≠ e) (h : LL mk d e te base w v ps) (hrow : ∀ g, v.ownBlock = some g → S g) (hel : ∀ p ∈ ps, 0 < p.xs.length → S p.b) : SsF mk d S w v (ps.map Cl.xs) := by
  have hlen := h.own.1
  rcases h.own.2 with ⟨rfl, hz⟩ | ⟨g, cap, cur, rfl, hbg, hg, hnc, hcm, hcs, htake⟩
  · have : ps = [] := List.eq_nil_of_length_eq_zero hz
    subst this
    exact SsF.nil _ _ _ _ _ _ (Nat.zero_le _)
  · have hgl : g < w.heap.size := (h.own.lt g rfl).2
    have hget : ∀ i : Nat, i < ps.length → ∃ p, ps[i]? = some p ∧ p ∈ ps := fun i hi => ⟨ps[i], by simp [hi], List.getElem_mem hi⟩
    refine ⟨some ⟨g, 0, none⟩, cap, by rw [List.length_map], ⟨by rw [List.length_map]; exact hnc, hcm⟩, fun _ => ⟨g, 0, fun i => ((ps[i]?).map Cl.v).getD undef, fun i k => ∃ p, ps[i]? = some p ∧ 0 < p.xs.length ∧ k = p.b, rfl, hrow g rfl, ⟨cur, te, hg⟩, fun i hi => ?_, fun i hi => ?_, fun i hi k hk => ?_, fun i j hi hj hne k hk hk' => ?_⟩⟩
    · rw [List.length_map] at hi
      obtain ⟨p, hp, -⟩ := hget i hi
      show w.cell? ⟨g, 0 + i, none⟩ = some (((ps[i]?).map Cl.v).getD undef)
      rw [Nat.zero_add, h.own.cellAt i (by omega), List.getElem?_map, hp]
      rfl
    · rw [List.length_map] at hi
      obtain ⟨p, hp, hm⟩ := hget i hi
      have e1 : ((ps[i]?).map Cl.v).getD undef = p.v := by rw [hp]; rfl
      have e2 : ((ps.map Cl.xs)[i]?).getD [] = p.xs := by rw [List.getElem?_map, hp]; rfl
      show SlF mk d _ w (((ps[i]?).map Cl.v).getD undef) (((ps.map Cl.xs)[i]?).getD []) ∧ CapOk (((ps[i]?).map Cl.v).getD undef)
      rw [e1, e2]
      exact ⟨(h.ok p hm).foot.mono (fun k hk => ⟨p, hp, hk.1, hk.2⟩), (h.ok p hm).cap⟩
    · obtain ⟨p, hp, hp0, rfl⟩ := hk
      have hm : p ∈ ps := List.mem_of_getElem? hp
      refine ⟨hel p hm hp0, fun e1 => ?_⟩
      exact h.not_row hte (h.ok p hm) rfl hp0 (by rw [e1]; rfl)
    · obtain ⟨p, hp, hp0, rfl⟩ := hk
      obtain ⟨q, hq, hq0, e1⟩ := hk'
      rw [List.length_map] at hi hj
      have hpair := List.pairwise_iff_getElem.1 h.apart
      have ep : ps[i]'hi = p := by rw [List.getElem?_eq_getElem hi] at hp; exact Option.some.inj hp
      have eq : ps[j]'hj = q := by rw [List.getElem?_eq_getElem hj] at hq; exact Option.some.inj hq
      rcases Nat.lt_or_gt_of_ne hne with hlt | hlt
      · exact hpair i j hi hj hlt (by rw [ep]; exact hp0) (by rw [eq]; exact hq0) (by rw [ep, eq]; exact e1)
      · exact hpair j i hj hi hlt (by rw [eq]; exact hq0) (by rw [ep]; exact hp0) (by rw [ep, eq]; exact e1.symm)

/-- Out of its parts: the lines, then keys and posting lists. -/
theorem SegF.mk' {n m : Nat} {w : World} {base : Int} {lv kv pv : Value} {lps ps : List (Cl Int)} {ks : List Int} (hl : SsF mB 0 (Rng n m) w lv (lps.map Cl.xs)) (hg : GT m w kv ks pv ps) (hm : m ≤ w.heap.size) (hk : ks.length ≤ maxLen) (hnm : n ≤ m) : SegF n w.heap.size w (.agg #[.int .i64 base, lv, kv, pv]) base (lps.map Cl.xs) ks (ps.map Cl.xs) := by
  refine ⟨lv, kv, pv, Rng n m, fun k => kv.ownBlock = some k, fun k => Rng m w.heap.size k ∧ kv.ownBlock ≠ some k, rfl, hl, ?_, ?_, fun k hk => ?_, fun k hk => ⟨fun h2 => ?_, fun h3 => ?_⟩, fun k h2 h3 => h3.2 h2⟩
  · have hlen := hg.keys.1
    rcases hg.keys.2 with ⟨e, hz⟩ | ⟨g, cap, cur, e, hbg, hgb, hnc, hcm, hcs, htake⟩
    · refine ⟨0, 0, ⟨none, 0, by rw [e, hz], by omega, fun hp => by omega⟩, fun k h1 h2 => by omega⟩
    · subst e
      refine ⟨g, g + 1, ⟨_, cap, rfl, hk, fun hp => ⟨g, 0, rfl, Nat.le_refl _, Nat.lt_succ_self _, ⟨cur, _, hgb⟩, fun i hi => ?_⟩⟩, fun k h1 h2 => by rw [show k = g by omega]; rfl⟩
      rw [Nat.zero_add, hg.keys.cellAt i (by omega), List.getElem?_map, getD_of_lt hi]
      rfl
  · refine hg.ll.footP (by decide) (fun g e => ?_) (fun p hp h0 => ?_)
    · have h1 := hg.ll.own.lt g e
      refine ⟨⟨h1.1, h1.2⟩, fun e2 => ?_⟩
      rcases own_ne hg.ll.own hg.keys (by decide) with e3 | e3
      · rw [e3] at e; cases e
      · exact e3 (by rw [e, e2])
    · exact ⟨⟨hg.ll.lo p hp h0, (hg.ll.ok p hp).lt h0⟩, fun e2 => hg.kap p hp h0 e2.symm⟩
  · rcases hk with h | h | h
    · exact ⟨h.1, Nat.lt_of_lt_of_le h.2 hm⟩
    · have := hg.keys.lt k h
      exact ⟨by omega, this.2⟩
    · exact ⟨by have := h.1.1; omega, h.1.2⟩
  · have := hg.keys.lt k h2
    have := hk.2
    omega
  · have := h3.1.1
    have := hk.2
    omega

theorem run_bclone (x : Value) (w : World) : Sem.run Try.prog (callFunc 27 #[x]) w = .ok (.enter 27 #[x]) w := by kernel_rfl

/-- What building a segment answers: by the program. -/
def BuildGot (e : Ending) (w w' : World) (base : Int) (xss : List (List Int)) : Prop :=
  (Fits base xss ∧ ∃ v ks pss, e = .returned (.tuple #[v, .int .i64 0]) ∧ SegR base xss ks pss ∧ (ks.length ≤ 1048576 ∧ tot pss ≤ 1048576) ∧ SegF w.heap.size w'.heap.size w' v base xss ks pss) ∨ (¬ Fits base xss ∧ e = .returned (.tuple #[.agg #[.int .i64 0, .slice none 0 0, .slice none 0 0, .slice none 0 0], .int .i64 4]))

set_option maxHeartbeats 4000000 in
set_option maxRecDepth 100000 in
theorem implBuild_any (base : Int) (v : Value) (xss : List (List Int)) (w : World) (hv : SsAt mB 0 w.heap.size w v xss) (hbb : ∀ x ∈ xss, Bytes x) (hT : tot xss ≤ 1048576) (hL : xss.length ≤ 1048576) (hb0 : -9223372036854775808 ≤ base) (hb1 : base ≤ 9223372036854775807) :
    Calls Try.prog 9 #[.int .i64 base, v] w fun e w' => BuildGot e w w' base xss ∧ Below w.heap.size w w' := by
  obtain ⟨j0, hj, hy0, hy1, hy2⟩ := info_parts Try.zinByteS
  have Hv := hide hv
  have HB := hide hbb
  obtain ⟨a, cap, rfl, hl, hc⟩ := hv
  clear hbb hc
  have hb00 := below1 w (.cells #[.int .i64 0, .slice none 0 0, .slice none 0 0, .slice none 0 0] 28)
  have RR0 := Row4.new w 28 (.int .i64 0) (.slice none 0 0) (.slice none 0 0) (.slice none 0 0)
  go_enter Try.func9, Try.ntmps9
  go_wp2_with fail
  refine (fitSegment_any base _ xss _ ((unhide Hv).below hb00 (Nat.le_refl _)) (unhide HB) hT hL hb0 hb1).mono ?_
  rintro e w1 ⟨hr, q1, hw1⟩
  have hB1 : Below w.heap.size w w1 := by rw [hw1]; exact below_drewN hb00 q1
  have RR1 : Row4 w1 w.heap.size 28 (.int .i64 0) (.slice none 0 0) (.slice none 0 0) (.slice none 0 0) := by rw [hw1]; exact RR0
  have hz1 : w.heap.size + 1 ≤ w1.heap.size := by rw [hw1]; show _ ≤ (w.alloc _).heap.size; rw [sz_alloc]; exact Nat.le_refl _
  clear hw1 RR0 hb00
  rcases hr.cases with ⟨rfl, hm⟩ | ⟨rfl, hm⟩
  · have Hm := hide hm
    have h0 := hm.1
    have h1 := hm.2.2.1
    have HRR := hide RR1
    have hL2 : xss.length ≤ 1000 := by omega
    clear hm hr RR1
    go_wp2_with fail
    have hb20 := below1 w1 (.cells #[.int .i64 base, .slice none 0 0, .slice none 0 0, .slice none 0 0] 28)
    have RS0 := Row4.new w1 28 (.int .i64 base) (.slice none 0 0) (.slice none 0 0) (.slice none 0 0)
    go_loopw [18] (fun iv wr => ∃ (k : Nat) (lv : Value) (ps : List (Cl Int)), k ≤ xss.length ∧ ps.length ≤ k ∧ iv = .int .i64 k ∧ ps.map Cl.xs = xss.take k ∧ Row4 wr w1.heap.size 28 (.int .i64 base) lv (.slice none 0 0) (.slice none 0 0) ∧ LB (w1.heap.size + 1) wr lv ps ∧ Below w1.heap.size w1 wr) (fun iv _ => xss.length - (intOf iv).toNat)
    case atStart => exact ⟨0, _, [], Nat.zero_le _, Nat.le_refl _, rfl, by simp, RS0, LL.nil, hb20⟩
    case round =>
      obtain ⟨k, lv, ps, hk, hpk, rfl, hln, hbox, hll, hb⟩ := hrel
      have hszr := hb.size
      have Hll := hide hll
      have Hln := hide hln
      have Hbx := hide hbox
      obtain ⟨la, lc, rfl⟩ := own_is hll.own
      obtain ⟨f0, f1, f2, f3, g0, g1, g2, g3⟩ := hbox.facts
      have hBl : w1.heap.size < wr.heap.size := World.rowIs.lt hbox
      clear hll hln hbox
      by_cases hlt : k < xss.length
      · have hlt' : (k : Int) < (xss.length : Int) := by omega
        obtain ⟨_, _, e1, -, hc⟩ := (unhide Hv).below (hB1.trans (hb.mono (by omega))) (Nat.le_refl _)
        cases e1
        obtain ⟨b, off, rfl, hbn, hcell⟩ := hc (by omega)
        obtain ⟨s, hx, hs, -⟩ := hcell k hlt
        have Hs := hide hs
        have ht := tot_get xss k
        have Hsn := hide (take_snoc xss [] k hlt)
        obtain ⟨sa, sc, rfl, -, -⟩ := hs
        clear hcell hc
        generalize xss[k]?.getD [] = x at *
        have hS : Hid (∀ W' : World, Below wr.heap.size wr W' → W'.cell? ⟨w1.heap.size, 1, none⟩ = some (.slice la ps.length lc) ∧ W'.frozen? ⟨w1.heap.size, 1, none⟩ = false) := fun W' hW => by
          have := ((unhide Hbx).below hW (by omega)).facts
          exact ⟨this.2.1, this.2.2.2.2.2.1⟩
        have hS2 : Hid (∀ W' : World, Below (w1.heap.size + 1) wr W' → W'.cell? ⟨w1.heap.size, 1, none⟩ = some (.slice la ps.length lc) ∧ W'.frozen? ⟨w1.heap.size, 1, none⟩ = false) := fun W' hW => by
          have := ((unhide Hbx).below hW (by omega)).facts
          exact ⟨this.2.1, this.2.2.2.2.2.1⟩
        go_wp2_with fail
        go_region_law (
          (first
            | (refine step_call_o 27 #[.tmp 24] _ rfl #[.slice sa x.length sc] rfl (by first | (simp [Act.eval]; done) | (simp [Act.eval, Act.put]; done)) (run_bclone _) (bclone_any _ x _ (by exact unhide Hs) (by omega)) ?_; rintro e w5 ⟨⟨v5, rfl, hown5⟩, hb5⟩; have hB5 : Below wr.heap.size wr w5 := ⟨hb5.os, hb5.tape, hb5.output, hb5.size, hb5.block⟩; have Hown5 : Hid (w5.ownsRow wr.heap.size 5 1 v5 x.length (x.map mB)) := hown5; have hz5 := hB5.size; have HLk := hide ((unhide Hll).keep hB5 (Nat.le_refl _)); have Hpu := hide (LB.push (unhide Hll) (by omega) hB5 (Below.refl _ wr) (unhide Hown5)); obtain ⟨ya, yc, rfl⟩ := own_is hown5; obtain ⟨c5, z5⟩ := unhide hS _ hB5; obtain ⟨c6, z6⟩ := unhide hS _ (hB5.alloc hz5 (.cells #[.slice ya x.length yc] 22)); clear hown5 hb5; refine ⟨_, rfl, ?_⟩)
            | (refine step_append_lies _ rfl (.tmp 23) (.tmp 26) 24 rfl (w1.heap.size + 1) 22 j0 (.slice none 0 0) 1 24 Try.underlying24 hj hy0 hy1 hy2 rfl (by decide) (.slice la ps.length lc) ps.length (ps.map Cl.v) (by first | (simp [Act.eval]; done) | (simp [Act.eval, Act.put]; done)) (by refine Pushd.own (w := w5) (o := .cells #[.slice ya x.length yc] 22) ?_ (unhide HLk).own; exact ⟨rfl, rfl, rfl, rfl⟩) ⟨w5.heap.size, 0, none⟩ 1 1 [.slice ya x.length yc] (by first | (simp [Act.eval]; done) | (simp [Act.eval, Act.put]; done)) rfl (by refine Pushd.news (w := w5) (cs := #[.slice ya x.length yc]) (t := 22) ?_; exact ⟨rfl, rfl, rfl, rfl⟩) (by intro u hu; simp at hu; subst hu; rfl) (by decide) (by unfold maxLen; omega) (by omega) (by show w1.heap.size + 1 ≤ (w5.alloc _).heap.size; rw [sz_alloc]; omega) (w5.heap.size + 1) (sz_alloc w5 _) (fun gg cap' w7 q1 q2 q3 q4 => ?_); have h7 := hide (unhide Hpu w7 (.slice (some ⟨gg, 0, none⟩) (ps.length + 1) cap') q1 q2); have hB7 : Below (w1.heap.size + 1) wr w7 := (by obtain ⟨_, _, _, r⟩ := unhide h7; exact r); obtain ⟨c7, z7⟩ := unhide hS2 _ hB7; clear q1 q2 q3 q4)))
        all_goals
          go_wp2
          obtain ⟨p, r1, r2, r3⟩ := unhide h7
          exact ⟨⟨k + 1, _, ps ++ [p], by omega, by simp; omega, by go_num, by rw [unhide Hsn, ← unhide Hln, ← r1, List.map_append]; rfl, ((unhide Hbx).below hB7 (by omega)).put1, r2.putlo (by omega), bput (hb.trans (hB7.mono (by omega))) (Nat.le_refl _) _⟩, by simp [intOf]; omega⟩
      · obtain rfl : k = xss.length := by omega
        have Hx : Hid (ps.map Cl.xs = xss) := by
          have := unhide Hln
          rwa [List.take_length] at this
        obtain ⟨w4, hw4⟩ : ∃ w4, w4 = wr := ⟨_, rfl⟩
        rw [← hw4] at hb hszr Hll Hbx f0 f1 f2 f3 g0 g1 g2 g3 hBl ⊢
        clear hw4
        go_wp2_with fail
        refine (postingLists_any base _ xss _ ((unhide Hv).below (hB1.trans (hb.mono (by omega))) (Nat.le_refl _)) (unhide HB) hT hL2 h0 (by omega)).mono ?_
        rintro e w5 ⟨⟨kv, pv, ks, qs, rfl, hseg, hcnt, hgt⟩, hb5⟩
        have Hcnt := hide hcnt
        clear hcnt
        have hz5 := hb5.size
        have Hseg := hide hseg
        have Hgt := hide hgt
        have SL := hide ((LB.footR (unhide Hll)).keep hb5 (Nat.le_refl _))
        have Hb5 := hide ((unhide Hbx).below hb5 hBl)
        obtain ⟨ka, kc, rfl⟩ := own_is hgt.keys
        obtain ⟨pa, pc, rfl⟩ := own_is hgt.ll.own
        clear f0 f1 f2 f3 g0 g1 g2 g3
        obtain ⟨f0, f1, f2, f3, g0, g1, g2, g3⟩ := (unhide Hb5).facts
        have hB5 : Below w1.heap.size w1 w5 := hb.trans (hb5.mono (by omega))
        have hRR := hide ((unhide HRR).below hB5 (by omega))
        obtain ⟨r0, r1, r2, r3, t0, t1, t2, t3⟩ := (unhide hRR).facts
        clear hseg hgt
        go_wp2_with fail
        have hks : ks.length ≤ maxLen := by
          have h8 := own_cap (unhide Hgt).keys
          have := h8.le
          omega
        have hF := SegF.mk' (base := base) (unhide SL) (unhide Hgt) hz5 hks (by omega)
        rw [unhide Hx] at hF
        have hF' := ((((((hF.put (b := w1.heap.size) (o := 2) (u := .slice ka ks.length kc) (by omega)).put (b := w1.heap.size) (o := 3) (u := .slice pa qs.length pc) (by omega)).put (b := w.heap.size) (o := 0) (u := .int .i64 base) (by omega)).put (b := w.heap.size) (o := 1) (u := .slice la ps.length lc) (by omega)).put (b := w.heap.size) (o := 2) (u := .slice ka ks.length kc) (by omega)).put (b := w.heap.size) (o := 3) (u := .slice pa qs.length pc) (by omega)).low (lo' := w.heap.size) (by omega) (Nat.le_of_eq (show w5.heap.size = ((((((w5.setCell ⟨w1.heap.size, 2, none⟩ (.slice ka ks.length kc)).setCell ⟨w1.heap.size, 3, none⟩ (.slice pa qs.length pc)).setCell ⟨w.heap.size, 0, none⟩ (.int .i64 base)).setCell ⟨w.heap.size, 1, none⟩ (.slice la ps.length lc)).setCell ⟨w.heap.size, 2, none⟩ (.slice ka ks.length kc)).setCell ⟨w.heap.size, 3, none⟩ (.slice pa qs.length pc)).heap.size by simp only [sz_put]))
        have hRF := (((((unhide hRR).other (b' := w1.heap.size) (o := 2) (u := .slice ka ks.length kc) (by omega)).other (b' := w1.heap.size) (o := 3) (u := .slice pa qs.length pc) (by omega)).put0 (u := .int .i64 base)).put1 (u := .slice la ps.length lc)).put2 (u := .slice ka ks.length kc) |>.put3 (u := .slice pa qs.length pc)
        obtain ⟨e0, e1, e2, e3, -⟩ := hRF.facts
        have hBB := bput (bput (bput (bput (bput (bput (hB1.trans (hB5.mono (by omega))) (b := w1.heap.size) (o := 2) (by omega) (.slice ka ks.length kc)) (b := w1.heap.size) (o := 3) (by omega) (.slice pa qs.length pc)) (b := w.heap.size) (o := 0) (Nat.le_refl _) (.int .i64 base)) (b := w.heap.size) (o := 1) (Nat.le_refl _) (.slice la ps.length lc)) (b := w.heap.size) (o := 2) (Nat.le_refl _) (.slice ka ks.length kc)) (b := w.heap.size) (o := 3) (Nat.le_refl _) (.slice pa qs.length pc)
        exact bodyPost_ret (v := .tuple #[.agg #[.int .i64 base, .slice la ps.length lc, .slice ka ks.length kc, .slice pa qs.length pc], .int .i64 0]) (by simp [results, Try.results9, go_sem, e0, e1, e2, e3]) rfl ⟨Or.inl ⟨unhide Hm, _, ks, qs.map Cl.xs, rfl, unhide Hseg, unhide Hcnt, hF'⟩, hBB⟩
  · have Hm := hide hm
    have HRR := hide RR1
    obtain ⟨r0, r1, r2, r3, t0, t1, t2, t3⟩ := RR1.facts
    clear hm hr RR1
    go_wp2_with fail
    obtain ⟨e0, e1, e2, e3, -⟩ := ((((unhide HRR).put0 (u := .int .i64 0)).put1 (u := .slice none 0 0)).put2 (u := .slice none 0 0)).put3 (u := .slice none 0 0) |>.facts
    refine bodyPost_ret (v := .tuple #[.agg #[.int .i64 0, .slice none 0 0, .slice none 0 0, .slice none 0 0], .int .i64 4]) (by simp [results, Try.results9, go_sem, e0, e1, e2, e3]) rfl ⟨Or.inr ⟨unhide Hm, rfl⟩, bput (bput (bput (bput hB1 (Nat.le_refl _) _) (Nat.le_refl _) _) (Nat.le_refl _) _) (Nat.le_refl _) _⟩

end Go.Proofs.Ytkajdhliejjohaa

namespace Go.Proofs.Ytkajdhliejjohaa
open Go.RowKit

/-- A segment that can be read. -/
def SegRd (w : World) (v : Value) (base : Int) (xss : List (List Int)) (ks : List Int) (pss : List (List Int)) : Prop :=
  ∃ lv kv pv, v = .agg #[.int .i64 base, lv, kv, pv] ∧ SsAt mB 0 w.heap.size w lv xss ∧ SlAt mI 0 0 w.heap.size w kv ks ∧ SsAt mI 0 w.heap.size w pv pss
theorem SegRd.below {w w' : World} {v : Value} {base : Int} {xss pss : List (List Int)} {ks : List Int} {m : Nat} (h : SegRd w v base xss ks pss) (hb : Below m w w') (hm : w.heap.size ≤ m) : SegRd w' v base xss ks pss := by
  obtain ⟨lv, kv, pv, e, h1, h2, h3⟩ := h
  exact ⟨lv, kv, pv, e, h1.below hb hm, h2.below hb hm, h3.below hb hm⟩
theorem SegAt.rd {lo : Nat} {w : World} {v : Value} {base : Int} {xss pss : List (List Int)} {ks : List Int} (h : SegAt lo w v base xss ks pss) : SegRd w v base xss ks pss := by
  obtain ⟨lv, kv, pv, e, h1, h2, h3⟩ := h
  exact ⟨lv, kv, pv, e, h1.all (Nat.le_refl _), h2.all (Nat.le_refl _), h3.all (Nat.le_refl _)⟩
theorem SegF.rd {lo hi : Nat} {w : World} {v : Value} {base : Int} {xss pss : List (List Int)} {ks : List Int} (h : SegF lo hi w v base xss ks pss) (hh : hi ≤ w.heap.size) : SegRd w v base xss ks pss := by
  obtain ⟨lv, kv, pv, S1, S2, S3, e, h1, h2, h3, h4, h5, h6⟩ := h
  exact ⟨lv, kv, pv, e, h1.at (fun k hk => Nat.lt_of_lt_of_le (h4 k (Or.inl hk)).2 hh), h2.at (fun k hk => Nat.lt_of_lt_of_le (h4 k (Or.inr (Or.inl hk))).2 hh), h3.at (fun k hk => Nat.lt_of_lt_of_le (h4 k (Or.inr (Or.inr hk))).2 hh)⟩
theorem SegRd.zero (w : World) : SegRd w (.agg #[.int .i64 0, .slice none 0 0, .slice none 0 0, .slice none 0 0]) 0 [] [] [] :=
  ⟨_, _, _, rfl, ⟨none, 0, rfl, ⟨Nat.le_refl _, Nat.zero_le _⟩, fun h => absurd h (by simp)⟩, ⟨none, 0, rfl, Nat.zero_le _, fun h => absurd h (by simp)⟩, ⟨none, 0, rfl, ⟨Nat.le_refl _, Nat.zero_le _⟩, fun h => absurd h (by simp)⟩⟩
theorem SegAt.zero (lo : Nat) (w : World) : SegAt lo w (.agg #[.int .i64 0, .slice none 0 0, .slice none 0 0, .slice none 0 0]) 0 [] [] [] :=
  ⟨_, _, _, rfl, SsF.nil _ _ _ _ _ _ (Nat.zero_le _), ⟨none, 0, rfl, Nat.zero_le _, fun h => absurd h (by simp)⟩, SsF.nil _ _ _ _ _ _ (Nat.zero_le _)⟩
theorem SegF.zero (lo hi : Nat) (w : World) : SegF lo hi w (.agg #[.int .i64 0, .slice none 0 0, .slice none 0 0, .slice none 0 0]) 0 [] [] [] :=
  ⟨_, _, _, fun _ => False, fun _ => False, fun _ => False, rfl, SsF.nil _ _ _ _ _ _ (Nat.zero_le _), ⟨0, 0, ⟨none, 0, rfl, Nat.zero_le _, fun h => absurd h (by simp)⟩, fun k _ h => absurd h (by omega)⟩, SsF.nil _ _ _ _ _ _ (Nat.zero_le _), fun k h => by simp at h, fun k h => by simp at h, fun k h => by simp at h⟩

/-- How a segment's marks are counted. -/
def segN (xss : List (List Int)) (ks : List Int) (pss : List (List Int)) : Int := (tot xss : Int) + ks.length + tot pss
/-- A segment whose numbers are marks. -/
def SegMk (w : World) (v : Value) (base k : Int) (xss : List (List Int)) (ks : List Int) (pss : List (List Int)) : Prop :=
  SegRd w v base (marksL cntB k xss) (cnts (k + tot xss) ks.length) (marksL cnts (k + tot xss + ks.length) pss)

end Go.Proofs.Ytkajdhliejjohaa

namespace Go.Proofs.Ytkajdhliejjohaa
open Go.RowKit

/-- The lexicographic comparison: -1, 0 or 1. -/
def lexc : List Int → List Int → Int
  | [], [] => 0
  | [], _ :: _ => -1
  | _ :: _, [] => 1
  | x :: xs, y :: ys => if x < y then -1 else if y < x then 1 else lexc xs ys

theorem lexc_vals : ∀ xs ys : List Int, lexc xs ys = -1 ∨ lexc xs ys = 0 ∨ lexc xs ys = 1
  | [], [] => by simp [lexc]
  | [], _ :: _ => by simp [lexc]
  | _ :: _, [] => by simp [lexc]
  | x :: xs, y :: ys => by
    simp only [lexc]
    split
    · simp
    · split
      · simp
      · exact lexc_vals xs ys
theorem lexc_zero : ∀ {xs ys : List Int}, lexc xs ys = 0 ↔ xs = ys
  | [], [] => by simp [lexc]
  | [], _ :: _ => by simp [lexc]
  | _ :: _, [] => by simp [lexc]
  | x :: xs, y :: ys => by
    simp only [lexc, List.cons.injEq]
    have ih := lexc_zero (xs := xs) (ys := ys)
    by_cases h1 : x < y
    · rw [if_pos h1]
      constructor
      · intro h; omega
      · rintro ⟨rfl, -⟩; omega
    · rw [if_neg h1]
      by_cases h2 : y < x
      · rw [if_pos h2]
        constructor
        · intro h; omega
        · rintro ⟨rfl, -⟩; omega
      · rw [if_neg h2, ih]
        constructor
        · intro h; exact ⟨by omega, h⟩
        · rintro ⟨-, h⟩; exact h
theorem lexc_swap : ∀ xs ys : List Int, lexc ys xs = - lexc xs ys
  | [], [] => by simp [lexc]
  | [], _ :: _ => by simp [lexc]
  | _ :: _, [] => by simp [lexc]
  | x :: xs, y :: ys => by
    simp only [lexc]
    have ih := lexc_swap xs ys
    by_cases h1 : x < y
    · rw [if_pos h1, if_neg (by omega), if_pos h1]
      rfl
    · by_cases h2 : y < x
      · rw [if_pos h2, if_neg h1, if_pos h2]
      · rw [if_neg h2, if_neg h1, if_neg h1, if_neg h2, ih]
theorem lexc_trans : ∀ {xs ys zs : List Int}, lexc xs ys < 0 → lexc ys zs < 0 → lexc xs zs < 0
  | [], [], _, h, _ => by simp [lexc] at h
  | _ :: _, [], _, h, _ => by simp [lexc] at h
  | _, _ :: _, [], _, h => by simp [lexc] at h
  | [], _ :: _, _ :: _, _, _ => by simp [lexc]
  | x :: xs, y :: ys, z :: zs, h1, h2 => by
    simp only [lexc] at h1 h2 ⊢
    have ih := lexc_trans (xs := xs) (ys := ys) (zs := zs)
    by_cases a1 : x < y
    · by_cases b1 : y < z
      · rw [if_pos (by omega)]; omega
      · rw [if_neg b1] at h2
        by_cases b2 : z < y
        · rw [if_pos b2] at h2; omega
        · rw [if_pos (by omega)]; omega
    · rw [if_neg a1] at h1
      by_cases a2 : y < x
      · rw [if_pos a2] at h1; omega
      · rw [if_neg a2] at h1
        by_cases b1 : y < z
        · rw [if_pos (by omega)]; omega
        · rw [if_neg b1] at h2
          by_cases b2 : z < y
          · rw [if_pos b2] at h2; omega
          · rw [if_neg b2] at h2
            rw [if_neg (by omega), if_neg (by omega)]
            exact ih h1 h2

theorem drop_cons {xs : List Int} {i : Nat} (h : i < xs.length) : xs.drop i = xs[i]?.getD 0 :: xs.drop (i + 1) := by
  rw [List.drop_eq_getElem_cons h]
  simp [h]
theorem drop_nil {xs : List Int} : xs.drop xs.length = [] := by simp

set_option maxHeartbeats 1000000 in
set_option maxRecDepth 100000 in
theorem equal_any (u v : Value) (xs ys : List Int) (w : World) (hu : SlAt mI 0 0 w.heap.size w u xs) (hv : SlAt mI 0 0 w.heap.size w v ys) :
    Calls Try.prog 47 #[u, v] w fun e w' => RetB e (xs = ys) ∧ ∃ q, w' = w.drewN q := by
  obtain ⟨a, cap, rfl, hl, hc⟩ := hu
  obtain ⟨a2, cap2, rfl, hl2, hc2⟩ := hv
  unfold maxLen at hl hl2
  by_cases hn : xs.length = ys.length
  · have hn' : ((xs.length : Int) != (ys.length : Int)) = false := by simp [hn]
    have HN := hide hn
    have hle1 : xs.length ≤ ys.length := by omega
    have hle2 : ys.length ≤ xs.length := by omega
    clear hn
    go_enter Try.func47, Try.ntmps47
    go_wp2_with fail
    go_loopw [13] (fun i wr => (∃ k : Nat, k ≤ xs.length ∧ i = .int .i64 k ∧ ∀ j : Nat, j < k → xs[j]?.getD 0 = ys[j]?.getD 0) ∧ ∃ q, wr = w.drewN q) (fun i _ => xs.length - (intOf i).toNat)
    case atStart => exact ⟨⟨0, Nat.zero_le _, rfl, fun j hj => absurd hj (Nat.not_lt_zero _)⟩, 0, rfl⟩
    case round =>
      obtain ⟨⟨k, hk, rfl, he⟩, q, rfl⟩ := hrel
      have He := hide he
      clear he
      by_cases h1 : k < xs.length
      · have h1' : (k : Int) < (xs.length : Int) := by omega
        have h2' : (k : Int) < (ys.length : Int) := by omega
        obtain ⟨b, off, rfl, -, -, hcell⟩ := hc (by omega)
        obtain ⟨b2, off2, rfl, -, -, hcell2⟩ := hc2 (by omega)
        have hx : w.cell? ⟨b, off + k, none⟩ = some (.int .i64 (xs[k]?.getD 0)) := hcell k h1
        have hy : w.cell? ⟨b2, off2 + k, none⟩ = some (.int .i64 (ys[k]?.getD 0)) := hcell2 k (by omega)
        have Hst : Hid (xs[k]?.getD 0 = ys[k]?.getD 0 → ∀ j : Nat, j < k + 1 → xs[j]?.getD 0 = ys[j]?.getD 0) := fun h j hj => by
          by_cases e : j = k
          · subst e; exact h
          · exact unhide He j (by omega)
        have Hno : Hid (xs[k]?.getD 0 ≠ ys[k]?.getD 0 → xs ≠ ys) := fun h e => h (by rw [e])
        clear hcell hcell2 hc hc2 He
        generalize xs[k]?.getD 0 = x at *
        generalize ys[k]?.getD 0 = y at *
        by_cases g0 : x = y
        · subst g0
          have HQ := hide (unhide Hst rfl)
          clear Hst Hno
          go_wp2_with fail
          go_quiet (fail)
          go_wp2
          go_roundw
          case rel => exact ⟨⟨k + 1, by omega, by go_num, unhide HQ⟩, _, rfl⟩
          case measure => simp [intOf]; omega
        · have g0' : (x != y) = true := by simp [g0]
          have HQ := hide (unhide Hno g0)
          clear Hst Hno
          go_wp2_with fail
          go_quiet (fail)
          go_wp2
          go_ret
          exact ⟨RetB.no (unhide HQ), _, drew2 _ _ _⟩
      · obtain rfl : k = xs.length := by omega
        clear hc hc2
        have HQ : Hid (xs = ys) := by
          apply List.ext_getElem (unhide HN)
          intro i h1 h2
          have := unhide He i h1
          simpa [h1, h2] using this
        go_wp2
        go_ret
        exact ⟨RetB.yes (unhide HQ), _, rfl⟩
  · have hn' : ((xs.length : Int) != (ys.length : Int)) = true := by simp; omega
    clear hc hc2
    go_enter Try.func47, Try.ntmps47
    go_wp2
    go_ret
    exact ⟨RetB.no (fun h => hn (by rw [h])), 0, rfl⟩

end Go.Proofs.Ytkajdhliejjohaa

namespace Go.Proofs.Ytkajdhliejjohaa
open Go.RowKit

/-- A list of bytes as a string. -/
theorem str_of {N : Nat} {v : Value} {x : List Int} {w : World} (h : SlAt mB 0 0 N w v x) : Sem.run Try.prog (convert 22 9 v) w = .ok (.string (strOfNums x)) w := by
  obtain ⟨a, cap, rfl, hl, hc⟩ := h
  by_cases hp : 0 < x.length
  · obtain ⟨b, off, rfl, -, -, hcell⟩ := hc hp
    exact run_convert_bytes_arg (P := Try.prog) w 22 5 Try.underlying22 Try.underlying5 b off x.length cap x rfl (fun i hi => by rw [hcell i hi, List.getD_eq_getElem?_getD]; rfl) 9 Try.underlying9
  · have e : x = [] := List.eq_nil_of_length_eq_zero (by omega)
    subst e
    have h1 := run_convert_bytes_string (P := Try.prog) w 22 9 5 a 0 cap Try.underlying22 Try.underlying5 Try.underlying9
    rw [show (([] : List Int).length) = 0 from rfl, h1]
    cases a <;> simp [Conv.bytesToString, loadCells]
    all_goals rfl

set_option maxHeartbeats 1000000 in
set_option maxRecDepth 100000 in
theorem l4sameBytes_same (u v : Value) (x : List Int) (N : Nat) (w : World) (hu : SlAt mB 0 0 N w u x) (hv : SlAt mB 0 0 N w v x) :
    Calls Try.prog 21 #[u, v] w fun e w' => e = .returned (.bool true) ∧ ∃ q, w' = w.drewN q := by
  have c1 := str_of hu
  have c2 := str_of hv
  obtain ⟨a, cap, rfl, -, -⟩ := hu
  obtain ⟨a2, cap2, rfl, -, -⟩ := hv
  go_enter Try.func21, Try.ntmps21
  go_wp2
  go_ret
  exact ⟨rfl, 0, rfl⟩

/-- A segment as its fields. -/
theorem SegRd.parts {w : World} {v : Value} {base : Int} {xss pss : List (List Int)} {ks : List Int} (h : SegRd w v base xss ks pss) : ∃ a1 c1 a2 c2 a3 c3, v = .agg #[.int .i64 base, .slice a1 xss.length c1, .slice a2 ks.length c2, .slice a3 pss.length c3] ∧ SsAt mB 0 w.heap.size w (.slice a1 xss.length c1) xss ∧ SlAt mI 0 0 w.heap.size w (.slice a2 ks.length c2) ks ∧ SsAt mI 0 w.heap.size w (.slice a3 pss.length c3) pss := by
  obtain ⟨lv, kv, pv, rfl, h1, h2, h3⟩ := h
  obtain ⟨a1, c1, rfl, -⟩ := id h1
  obtain ⟨a2, c2, rfl, -⟩ := id h2
  obtain ⟨a3, c3, rfl, -⟩ := id h3
  exact ⟨a1, c1, a2, c2, a3, c3, rfl, h1, h2, h3⟩

end Go.Proofs.Ytkajdhliejjohaa
