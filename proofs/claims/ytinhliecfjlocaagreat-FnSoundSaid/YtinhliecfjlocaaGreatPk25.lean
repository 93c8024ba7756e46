import Derived.Test.YtinhliecfjlocaaGreatPk18
import Derived.Test.YtinhliecfjlocaaGreatPk15
import Derived.Test.YtinhliecfjlocaaGreatPk20
import Derived.Test.YtinhliecfjlocaaGreatPk8
import Derived.Test.YtinhliecfjlocaaGreatPk10
import Derived.Test.YtinhliecfjlocaaGreatPk14
import Derived.Test.YtinhliecfjlocaaGreatC5
import Derived.Test.YtinhliecfjlocaaGreatX4
import Derived.Deep.AppendLies
namespace Go.Proofs.YtinhliecfjlocaaGreat
open Go.RowKit
def SkQ (bs : List Int) (S : List (List Int)) (R : Rl) : Prop := ∀ i j, R i j → ∃ s, s ∈ S ∧ SkA bs s i j
theorem SkQ.cut {bs : List Int} {n : Nat} {L S : List (List Int)} {R : Rl} (h : SkQ bs L R) (hr : RB n R) (hc : CutR L S) : SkQ bs S R := by
  intro i j hij
  obtain ⟨s, hs, ha⟩ := h i j hij
  obtain ⟨D, -, hD, ⟨-, rfl⟩ | ⟨-, rfl⟩⟩ := hc
  · exact ⟨[256], List.mem_singleton.2 rfl, SkA.gap (hr i j hij).1⟩
  · exact ⟨s, (hD s).2 hs, ha⟩
theorem SkQ.e (bs : List Int) (n : Nat) : SkQ bs [[]] (rEps n) := fun _ _ h => ⟨[], List.mem_singleton.2 rfl, h.1⟩
theorem bytesOf_mem {set : List Int} {b : Nat} (h : inPs set b) : ∀ n : Nat, b < n → (b : Int) ∈ bytesOf set n
  | 0, hn => absurd hn (Nat.not_lt_zero _)
  | n + 1, hn => by
    by_cases e : b = n
    · subst e
      rw [bytes_in h]
      exact List.mem_append.2 (Or.inr (List.mem_singleton.2 rfl))
    · have h2 := bytesOf_mem h n (by omega)
      by_cases q : inPs set n
      · rw [bytes_in q]; exact List.mem_append.2 (Or.inl h2)
      · rw [bytes_out q]; exact h2
theorem SkQ.s {bs : List Int} (hb : ∀ x ∈ bs, 0 ≤ x ∧ x ≤ 255) (xs : List Int) : SkQ bs (leafS xs) (rOne bs.length (hsL bs xs)) := by
  rintro i j ⟨rfl, hi, hs⟩
  have h1 : bs[i]?.getD 0 ∈ bs := by
    rw [List.getElem?_eq_getElem hi, Option.getD_some]
    exact List.getElem_mem hi
  have h2 := hb _ h1
  unfold leafS
  split
  · exact ⟨[256], List.mem_singleton.2 rfl, SkA.gap (by omega)⟩
  · refine ⟨[bs[i]?.getD 0], List.mem_map.2 ⟨_, ?_, rfl⟩, SkA.one hi (by omega)⟩
    have h3 : inPs xs (bs[i]?.getD 0) := hs
    obtain ⟨b, hbe⟩ : ∃ b : Nat, bs[i]?.getD 0 = (b : Int) := ⟨(bs[i]?.getD 0).toNat, by omega⟩
    rw [hbe] at h3 h2 ⊢
    exact bytesOf_mem h3 256 (by omega)
theorem SkQ.cat {bs : List Int} {A B : List (List Int)} {R T : Rl} (h : SkQ bs A R) (k : SkQ bs B T) : SkQ bs (prd A B) (rCat R T) := by
  rintro i j ⟨m, h1, h2⟩
  obtain ⟨a, ha, sa⟩ := h i m h1
  obtain ⟨b, hb, sb⟩ := k m j h2
  exact ⟨_, mem_prd.2 ⟨a, ha, b, hb, rfl⟩, sa.join sb⟩
theorem SkQ.alt {bs : List Int} {A B : List (List Int)} {R T : Rl} (h : SkQ bs A R) (k : SkQ bs B T) : SkQ bs (A ++ B) (rAlt R T) := by
  intro i j hij
  rcases hij with q | q
  · obtain ⟨a, ha, sa⟩ := h i j q
    exact ⟨a, List.mem_append.2 (Or.inl ha), sa⟩
  · obtain ⟨b, hb, sb⟩ := k i j q
    exact ⟨b, List.mem_append.2 (Or.inr hb), sb⟩
theorem pow_ends {n : Nat} {R : Rl} (hr : RB n R) : ∀ (k : Nat) {i j : Nat}, rPow n R (k + 2) i j → ∃ p q, R i p ∧ p ≤ q ∧ R q j
  | 0, i, j, ⟨m, ⟨m', h0, h1⟩, h2⟩ => by
    obtain ⟨rfl, -⟩ := h0
    exact ⟨m, m, h1, Nat.le_refl _, h2⟩
  | k + 1, i, j, ⟨m, h1, h2⟩ => by
    obtain ⟨p, q, a1, a2, a3⟩ := pow_ends hr k h1
    have := hr _ _ a3
    exact ⟨p, m, a1, by omega, h2⟩
theorem SkQ.rep {bs : List Int} {n : Nat} {A : List (List Int)} {R : Rl} (h : SkQ bs A R) (hr : RB n R) (mn mx : Int) (h0 : mn = 0 ∨ mn = 1) (hrr : RB n (rRep n R mn mx)) : SkQ bs (repK A mn) (rRep n R mn mx) := by
  unfold repK
  rcases h0 with rfl | rfl
  · rw [if_pos rfl]
    intro i j hij
    exact ⟨[256], List.mem_singleton.2 rfl, SkA.gap (hrr i j hij).1⟩
  · rw [if_neg (by decide)]
    refine SkQ.cut (n := n) ?_ hrr (cutf_ok _)
    rintro i j ⟨k, hk, -, hp⟩
    match k, hk, hp with
    | 0, hk, _ => omega
    | 1, _, hp =>
      obtain ⟨m, h0, h1⟩ := hp
      obtain ⟨rfl, -⟩ := h0
      obtain ⟨a, ha, sa⟩ := h _ _ h1
      exact ⟨a, List.mem_append.2 (Or.inl ha), sa⟩
    | k + 2, _, hp =>
      obtain ⟨p, q, a1, a2, a3⟩ := pow_ends hr k hp
      obtain ⟨a, ha, sa⟩ := h _ _ a1
      obtain ⟨b, hb, sb⟩ := h _ _ a3
      exact ⟨_, List.mem_append.2 (Or.inr (mem_prd.2 ⟨jn2 a [256], List.mem_map.2 ⟨a, ha, rfl⟩, b, hb, rfl⟩)), (sa.join (SkA.gap a2)).join sb⟩
theorem asc_nodup {c : List Int} (h : Asc c) : c.Nodup := List.Pairwise.imp (fun {a b} (hab : a < b) => by omega) h
theorem min_below {cs : List (List Int)} (ha : ∀ c, c ∈ cs → Asc c) : ∀ (n : Nat) (c : List Int), c.length ≤ n → c ∈ cs → ∃ r, r ∈ cs ∧ mn cs r = true ∧ ∀ z, z ∈ r → z ∈ c := by
  intro n
  induction n with
  | zero =>
    intro c hn hc
    obtain rfl := List.eq_nil_of_length_eq_zero (Nat.le_zero.1 hn)
    refine ⟨[], hc, mn_iff.2 (fun d _ hne hall => hne ?_), fun z hz => hz⟩
    cases d with
    | nil => rfl
    | cons y ys => exact absurd (hall y (List.mem_cons_self ..)) (List.not_mem_nil)
  | succ n ih =>
    intro c hn hc
    by_cases h : mn cs c = true
    · exact ⟨c, hc, h, fun z hz => hz⟩
    · rw [mn_iff] at h
      obtain ⟨d, hd, hne, hs⟩ : ∃ d, d ∈ cs ∧ d ≠ c ∧ ∀ z, z ∈ d → z ∈ c := by
        apply Classical.byContradiction
        intro hno
        exact h (fun d hd hne hall => hno ⟨d, hd, hne, hall⟩)
      obtain ⟨z, hz, hzd⟩ : ∃ z, z ∈ c ∧ z ∉ d := by
        apply Classical.byContradiction
        intro hno
        refine hne (asc_uniq (ha d hd) (ha c hc) (fun z => ⟨hs z, fun hz => ?_⟩))
        apply Classical.byContradiction
        intro hzd
        exact hno ⟨z, hz, hzd⟩
      have h1 : d.length ≤ (c.erase z).length := (asc_nodup (ha d hd)).length_le_of_subset (fun y hy => (List.mem_erase_of_ne (fun (e : y = z) => hzd (by rw [← e]; exact hy))).2 (hs y hy))
      have h2 := List.length_erase_of_mem hz
      have h3 := List.length_pos_of_mem hz
      obtain ⟨r, r1, r2, r3⟩ := ih d (by omega) hd
      exact ⟨r, r1, r2, fun y hy => hs y (r3 y hy)⟩
theorem norm_true {xss rs : List (List Int)} {T : List Int} (h : NormV xss rs) {xs : List Int} (hx : xs ∈ xss) (ht : ∀ z, z ∈ xs → z ∈ T) : ∃ r, r ∈ rs ∧ ∀ z, z ∈ r → z ∈ T := by
  obtain ⟨cs, -, h2, rfl⟩ := h.ex
  obtain ⟨c, ho, -⟩ := ord_ex xs
  have hc : c ∈ cs := (h2 c).2 ⟨xs, hx, ho⟩
  obtain ⟨r, r1, r2, r3⟩ := min_below (fun c hc => by obtain ⟨_, _, o⟩ := (h2 c).1 hc; exact o.asc) c.length c (Nat.le_refl _) hc
  exact ⟨r, List.mem_filter.2 ⟨r1, r2⟩, fun z hz => ht z ((ho.mem z).1 (r3 z hz))⟩
theorem gtr_mem {s : List Int} : ∀ {m : Nat} {z : Int}, z ∈ gtr s m → ∃ k, k < m ∧ ¬ gap3 s k ∧ z = tri3 s k
  | 0, z, h => by cases h
  | m + 1, z, h => by
    by_cases g : gap3 s m
    · rw [gtr_no g] at h
      obtain ⟨k, h1, h2⟩ := gtr_mem h
      exact ⟨k, by omega, h2⟩
    · rw [gtr_yes g] at h
      rcases List.mem_append.1 h with h | h
      · obtain ⟨k, h1, h2⟩ := gtr_mem h
        exact ⟨k, by omega, h2⟩
      · exact ⟨m, by omega, g, List.mem_singleton.1 h⟩
theorem SkA.tris {bs s : List Int} {i j : Nat} (h : SkA bs s i j) : ∀ z, z ∈ gtr s (s.length - 2) → z ∈ tris bs (bs.length - 2) := by
  intro z hz
  obtain ⟨k, hk, hg, rfl⟩ := gtr_mem hz
  obtain ⟨p, hp, e0, e1, e2⟩ := h.window (k := k) (by omega) (fun q => hg (Or.inl q)) (fun q => hg (Or.inr (Or.inl q))) (fun q => hg (Or.inr (Or.inr q)))
  refine List.mem_map.2 ⟨p, List.mem_range.2 (by omega), ?_⟩
  unfold tri3
  rw [e0, e1, e2]
theorem Mv.cell {lo D : Nat} {w w' : World} {p : Addr} (h : Mv lo D w w') (h1 : p.block < lo) (h2 : p.block ≠ D) : w'.cell? p = w.cell? p := World.cell?_of_block (a := p) (h.block p.block h1 h2)
def Smp (N D M : Nat) (R : List Int × List Int) (w : World) (e : Ending) (w' : World) : Prop := ∃ v bs zs, e = .returned v ∧ w'.ownsRow w.heap.size 5 1 v bs.length (bs.map mB) ∧ Cod bs ∧ bs.length ≤ M ∧ CdAt N D w' zs ∧ Cod zs ∧ Mv w.heap.size D w w' ∧ R = (bs, zs)
theorem l2junk_any (N D : Nat) (xs : List Int) (w : World) (h : CdAt N D w xs) (hx : Cod xs) (hD : D < w.heap.size) :
    Calls Tryz.prog 37 #[.pointer (some ⟨D, 0, none⟩)] w (Smp N D 5 (dJunk xs) w) := by
  refine (l2junk_f N D xs w h hx hD).mono ?_
  rintro e w1 ⟨v, rfl, ho, hc, hm⟩
  have := dJunk_ok hx
  exact ⟨v, _, _, rfl, ho, this.2.1, this.1, hc, this.2.2, hm, rfl⟩
theorem Cod.take {xs : List Int} (h : Cod xs) (n : Nat) : Cod (xs.take n) := fun x hx => h x (List.mem_of_mem_take hx)
theorem own_take {base e n m : Nat} {w : World} {a : Option Addr} {c : Nat} {xs : List Value} (h : w.ownsRow base e 1 (.slice a n c) n xs) (hm : m ≤ n) (hp : 0 < n) : w.ownsRow base e 1 (.slice a m c) m (xs.take m) := by
  have hl := h.1
  rcases h.2 with ⟨e1, hz⟩ | ⟨g, cap, cur, e1, hbg, hg, hnc, hcm, hcs, htake⟩
  · omega
  · cases e1
    refine ⟨by rw [List.length_take]; omega, .inr ⟨g, c, cur, rfl, hbg, hg, by omega, hcm, hcs, ?_⟩⟩
    rw [← htake, List.take_take, Nat.mul_one, Nat.mul_one, Nat.min_eq_left hm]
def SmS (L : List El) (f : List Int → List Int × List Int) : Prop := ∀ (N D lo : Nat) (v : Value) (xs : List Int) (w : World), CdAt N D w xs → Cod xs → D < lo → lo ≤ w.heap.size → ElsAt lo w.heap.size w v L → L.length ≤ 1048576 →
    Calls Tryz.prog 39 #[v, .pointer (some ⟨D, 0, none⟩)] w (Smp N D 60 (f xs) w)
def eF (xs : List Int) : List Int × List Int := ([], xs)
def sF1 (s : List Int) (xs : List Int) (k : Nat) : List Int × List Int := ([s[2 * k]?.getD 0 + xs.headD 0 % (s[2 * k + 1]?.getD 0 - s[2 * k]?.getD 0 + 1)], xs.tail)
def sF (s : List Int) (xs : List Int) : List Int × List Int := if s.length = 0 then ([], xs) else sF1 s xs (xs.headD 0 % ((s.length / 2 : Nat) : Int)).toNat
set_option maxHeartbeats 4000000 in
set_option maxRecDepth 100000 in
theorem sm_e : SmS [⟨0, [], 0, 0⟩] eF := by
  intro N D lo v xs w h hx hD hlo hv hlen
  obtain ⟨a, cp, rfl, -, -⟩ := id hv
  obtain ⟨hlen2, hcap, b, off, rfl, hbn, hel⟩ := ElsAt.last (p := []) hv
  simp only [List.length_singleton, List.length_nil, Nat.zero_mul, Nat.add_zero] at hel hv ⊢
  obtain ⟨i1, i2, i3, sv, c0, c1, c2, c3, hints⟩ := hel
  obtain ⟨sa, sc, rfl, -, -, -⟩ := id hints
  simp only at c0 c2 c3
  have H := hide h
  have HX := hide hx
  have HB0 := hide (below1 w (.cells #[.int .i64 0, .slice sa 0 sc, .int .i64 0, .int .i64 0] 114))
  clear i1 i2 i3 hints hv h hx
  go_enter Tryz.func39, Tryz.ntmps39
  go_wp2
  go_ret
  exact ⟨_, [], xs, rfl, World.ownsRow_nil _ _ _ _, cod_nil, Nat.zero_le _, (unhide H).keep (unhide HB0) (by omega), unhide HX, Below.mv (unhide HB0) D, rfl⟩
set_option maxHeartbeats 8000000 in
set_option maxRecDepth 100000 in
theorem sm_s (s : List Int) (hc : Canon s) (hl : s.length ≤ 300) : SmS [⟨1, s, 0, 0⟩] (sF s) := by
  intro N D lo v xs w h hx hD hlo hv hlen
  obtain ⟨a, cp, rfl, -, -⟩ := id hv
  obtain ⟨hlen2, hcap, b, off, rfl, hbn, hel⟩ := ElsAt.last (p := []) hv
  simp only [List.length_singleton, List.length_nil, Nat.zero_mul, Nat.add_zero] at hel hv ⊢
  obtain ⟨i1, i2, i3, sv, c0, c1, c2, c3, hints⟩ := hel
  simp only at c0 c2 c3 hints
  obtain ⟨sa, sc, rfl, hsl, -, hcl⟩ := id hints
  have H := hide h
  have HX := hide hx
  have hh := hx.head
  have HB0 := hide (below1 w (.cells #[.int .i64 1, .slice sa s.length sc, .int .i64 0, .int .i64 0] 114))
  have hzW : (w.alloc (.cells #[.int .i64 1, .slice sa s.length sc, .int .i64 0, .int .i64 0] 114)).heap.size = w.heap.size + 1 := sz_alloc _ _
  obtain ⟨hc1, hc2, hc3⟩ := hc
  by_cases h0 : s.length = 0
  · have h0' : (s.length : Int) = 0 := by omega
    have HR : Hid (sF s xs = ([], xs)) := hide (by unfold sF; rw [if_pos h0])
    clear i1 i2 i3 hints hv h hx hcl hsl
    go_enter Tryz.func39, Tryz.ntmps39
    go_wp2
    go_ret
    exact ⟨_, [], xs, rfl, World.ownsRow_nil _ _ _ _, cod_nil, Nat.zero_le _, (unhide H).keep (below1 w _) (by omega), unhide HX, Below.mv (below1 w _) D, unhide HR⟩
  · have h0' : ¬ (s.length : Int) = 0 := by omega
    obtain ⟨sb, so, rfl, hsb1, hsb2, hcell⟩ := hcl (by omega)
    obtain ⟨y, hy⟩ : ∃ y, xs.headD 0 = y := ⟨_, rfl⟩
    rw [hy] at hh
    have HY := hide hy
    obtain ⟨q, hq⟩ : ∃ q : Nat, s.length = 2 * q := ⟨s.length / 2, by omega⟩
    obtain ⟨k, hk⟩ : ∃ k : Nat, y % (q : Int) = (k : Int) := ⟨(y % (q : Int)).toNat, by have := Int.emod_nonneg y (b := (q : Int)) (by omega); omega⟩
    have hkq : k < q := by have := Int.emod_lt_of_pos y (b := (q : Int)) (by omega); omega
    have HR : Hid (sF s xs = ([s[2 * k]?.getD 0 + y % (s[2 * k + 1]?.getD 0 - s[2 * k]?.getD 0 + 1)], xs.tail)) := hide (by
      unfold sF
      rw [if_neg h0, hy, show s.length / 2 = q by omega, hk, Int.toNat_natCast, ← hy]
      rfl)
    obtain ⟨R, hR9⟩ : ∃ R, sF s xs = R := ⟨_, rfl⟩
    rw [hR9] at HR ⊢
    clear hR9
    have p3 := hc3 k (by omega)
    have p0 := hc2 (2 * k) (by omega)
    have p1 := hc2 (2 * k + 1) (by omega)
    have HD1 := hide (hcell (2 * k) (by omega))
    have HD2 := hide (hcell (2 * k + 1) (by omega))
    obtain ⟨pl, -⟩ := id p3
    generalize s[2 * k]?.getD 0 = lw at *
    generalize s[2 * k + 1]?.getD 0 = hi at *
    have f0 : (w.alloc (.cells #[.int .i64 1, .slice (some ⟨sb, so, none⟩) s.length sc, .int .i64 0, .int .i64 0] 114)).cell? ⟨w.heap.size, 1, none⟩ = some (.slice (some ⟨sb, so, none⟩) s.length sc) := (pushd_alloc w _).news 1 _ rfl
    have HC0 := hide ((unhide H).keep (unhide HB0) (by omega))
    have HV0 := hide (Below.mv (unhide HB0) D)
    rw [hq] at h0' f0 HB0 HC0 HV0 hzW c1
    have h0' : ¬ ((2 * q : Nat) : Int) = 0 := by omega
    clear hcell hcl i1 i2 i3 hints hv h hx p3 hc3 hc2 hy
    go_enter Tryz.func39, Tryz.ntmps39
    go_wp2_with fail
    generalize w.alloc (.cells #[.int .i64 1, .slice (some ⟨sb, so, none⟩) (2 * q) sc, .int .i64 0, .int .i64 0] 114) = W0 at *
    refine (next_any N D xs W0 (unhide HC0) (unhide HX)).mono ?_
    rintro e w1 ⟨he, hc1, ho1⟩
    rw [unhide HY] at he
    subst he
    have hz1 : w1.heap.size = W0.heap.size := ho1.size
    have g1 := ((ho1.mv W0.heap.size).cell (p := ⟨w.heap.size, 1, none⟩) (by show w.heap.size < _; omega) (by show ¬ w.heap.size = D; omega)).trans f0
    have d1 := ((ho1.mv W0.heap.size).cell (p := ⟨sb, so + 2 * k, none⟩) (by show sb < _; omega) (by show ¬ sb = D; omega)).trans (((unhide HB0).cell (p := ⟨sb, so + 2 * k, none⟩) hsb2).trans (unhide HD1))
    have d2 := ((ho1.mv W0.heap.size).cell (p := ⟨sb, so + (2 * k + 1), none⟩) (by show sb < _; omega) (by show ¬ sb = D; omega)).trans (((unhide HB0).cell (p := ⟨sb, so + (2 * k + 1), none⟩) hsb2).trans (unhide HD2))
    have HC1 := hide hc1
    have HM1 := hide ((unhide HV0).trans (ho1.mv w.heap.size))
    clear hc1 ho1
    go_wp2_with fail
    have e9 : w.heap.size + 1 = w1.heap.size := by omega
    go_ret
    refine ⟨_, [_], xs.tail, rfl, by rw [e9]; exact World.ownsRow_lit w1 #[.int .u8 _] 1 (by omega) (by unfold maxLen; omega) rfl, cod_one (by omega) (by omega), by simp, (unhide HC1).keep (below1 w1 _) (by omega), (unhide HX).tail, (unhide HM1).trans (Below.mv ((below1 w1 _).mono (by omega)) D), (unhide HR).trans ?_⟩
    have y1 := Int.emod_nonneg y (b := hi - lw + 1) (by omega)
    have y2 := Int.emod_lt_of_pos y (b := hi - lw + 1) (by omega)
    generalize y % (hi - lw + 1) = z at *
    rw [show wrap64 (lw + z) % 256 = lw + z by unfold wrap64; omega]
theorem own_lo {base base' n e : Nat} {w : World} {v : Value} {xs : List Value} (h : w.ownsRow base e 1 v n xs) (hb : base' ≤ base) : w.ownsRow base' e 1 v n xs := by
  refine ⟨h.1, ?_⟩
  rcases h.2 with q | ⟨g, cap, cur, rfl, hbg, q⟩
  · exact .inl q
  · exact .inr ⟨g, cap, cur, rfl, Nat.le_trans hb hbg, q⟩
theorem own_capP {base n e c : Nat} {w : World} {a : Option Addr} {xs : List Value} (h : w.ownsRow base e 1 (.slice a n c) n xs) (hp : 0 < n) : n ≤ c ∧ c ≤ maxLen := by
  rcases h.2 with ⟨-, hz⟩ | ⟨g, cap, cur, e1, hbg, hg, hnc, hcm, hcs, htake⟩
  · omega
  · cases e1
    exact ⟨hnc, hcm⟩
def altF (f g : List Int → List Int × List Int) (xs : List Int) : List Int × List Int := if xs.headD 0 % 2 = 1 then f xs.tail else g xs.tail
def catF (f g : List Int → List Int × List Int) (xs : List Int) : List Int × List Int := (((f xs).1 ++ (g (f xs).2).1).take 60, (g (f xs).2).2)
theorem catF_is {f g : List Int → List Int × List Int} {xs bs zs cs us : List Int} (h : f xs = (bs, zs)) (h2 : g zs = (cs, us)) : catF f g xs = ((bs ++ cs).take 60, us) := by
  unfold catF
  rw [h]
  show ((bs ++ (g zs).1).take 60, (g zs).2) = _
  rw [h2]
set_option maxHeartbeats 8000000 in
set_option maxRecDepth 100000 in
theorem sm_alt (l r : List El) (cr : Int) (fl fr : List Int → List Int × List Int) (sr : SegM r cr) (hl : SmS l fl) (hr : SmS r fr) : SmS (l ++ r ++ [⟨3, [], 0, 0⟩]) (altF fl fr) := by
  intro N D lo v xs w h hx hD hlo hv hlen
  have hv0 := hv
  obtain ⟨a, cp, rfl, -, -⟩ := id hv
  obtain ⟨hlen2, hcap, b, off, rfl, hbn, hel⟩ := hv.last
  rw [hlen2] at hv hv0 hcap ⊢
  simp only [List.length_append, List.length_singleton] at hv hv0 hlen hlen2 hel hcap ⊢
  unfold maxLen at hcap
  obtain ⟨i1, i2, i3, sv, c0, c1, c2, c3, hints⟩ := hel
  obtain ⟨sa, sc, rfl, -, -, -⟩ := id hints
  simp only at c0 c2 c3
  clear hlen2 i1 i2 i3 hints
  have e1 : (((l.length + r.length + 1 : Nat) : Int) - 1) = ((l.length + r.length : Nat) : Int) := by omega
  have hvL : ElsAt lo w.heap.size w (.slice (some ⟨b, off, none⟩) l.length cp) (l) := by rw [List.append_assoc] at hv0; exact hv0.pre
  have hvR := hv0.mid (cap' := cp - l.length) (by unfold maxLen; omega)
  have f5 : l.length + r.length - l.length = r.length := by omega
  have Hv0 := hide (hv0.mono (Nat.zero_le lo) (Nat.le_refl _))
  have HHl := hide hl
  have HHr := hide hr
  have H := hide h
  have HX := hide hx
  have hh := hx.head
  have HB0 := hide (below1 w (.cells #[.int .i64 3, .slice sa 0 sc, .int .i64 0, .int .i64 0] 114))
  have hzW : (w.alloc (.cells #[.int .i64 3, .slice sa 0 sc, .int .i64 0, .int .i64 0] 114)).heap.size = w.heap.size + 1 := sz_alloc _ _
  have HC0 := hide ((unhide H).keep (unhide HB0) (by omega))
  have HV0 := hide (Below.mv (unhide HB0) D)
  have HL0 := hide (hvL.below (unhide HB0) (Nat.le_refl _))
  have HR0 := hide (hvR.below (unhide HB0) (Nat.le_refl _))
  obtain ⟨y, hy⟩ : ∃ y, xs.headD 0 = y := ⟨_, rfl⟩
  rw [hy] at hh
  have HY := hide hy
  have HR : Hid (altF fl fr xs = if y % 2 = 1 then fl xs.tail else fr xs.tail) := hide (by unfold altF; rw [hy])
  obtain ⟨R, hR9⟩ : ∃ R, altF fl fr xs = R := ⟨_, rfl⟩
  rw [hR9] at HR ⊢
  clear hR9
  clear hvL hvR hv hv0 hl hr h hx hy
  go_enter Tryz.func39, Tryz.ntmps39
  go_wp2_with fail
  refine (l1start_bin _ l r cr _ _ _ sr (by exact (unhide Hv0).below (unhide HB0) (Nat.le_refl _)) (by omega) rfl).mono ?_
  rintro e w1 ⟨rfl, rfl⟩
  go_wp2_with fail
  generalize w.alloc (.cells #[.int .i64 3, .slice sa 0 sc, .int .i64 0, .int .i64 0] 114) = W0 at *
  refine (next_any N D xs W0 (unhide HC0) (unhide HX)).mono ?_
  rintro e w1 ⟨he, hc1, ho1⟩
  rw [unhide HY] at he
  subst he
  have hz1 : w1.heap.size = W0.heap.size := ho1.size
  have HM1 := hide ((unhide HV0).trans (ho1.mv w.heap.size))
  have HL1 := hide ((unhide HL0).mv (ho1.mv W0.heap.size) (Nat.le_refl _) hD)
  have HR1 := hide ((unhide HR0).mv (ho1.mv W0.heap.size) (Nat.le_refl _) hD)
  have HC1 := hide hc1
  clear hc1 ho1
  by_cases hp : y % 2 = 1
  · go_wp2_with fail
    refine (unhide HHl N D lo _ xs.tail w1 (unhide HC1) (unhide HX).tail hD (by omega) (unhide HL1) (by omega)).mono ?_
    rintro e w2 ⟨v2, bs, zs, rfl, ho, hcb, hlb, hcd, hz, hm, hR2⟩
    obtain ⟨oa, oc, rfl⟩ := own_is ho
    have HF : Hid (Smp N D 60 R w (.returned (.slice oa bs.length oc)) w2) := ⟨_, bs, zs, rfl, own_lo ho (by omega), hcb, hlb, hcd, hz, (unhide HM1).trans (hm.mono (by omega)), by rw [unhide HR, if_pos hp]; exact hR2⟩
    clear ho hcb hcd hz hm hR2
    go_wp2
    go_ret
    exact unhide HF
  · go_wp2_with fail
    refine (unhide HHr N D lo _ xs.tail w1 (unhide HC1) (unhide HX).tail hD (by omega) (unhide HR1) (by omega)).mono ?_
    rintro e w2 ⟨v2, bs, zs, rfl, ho, hcb, hlb, hcd, hz, hm, hR2⟩
    obtain ⟨oa, oc, rfl⟩ := own_is ho
    have HF : Hid (Smp N D 60 R w (.returned (.slice oa bs.length oc)) w2) := ⟨_, bs, zs, rfl, own_lo ho (by omega), hcb, hlb, hcd, hz, (unhide HM1).trans (hm.mono (by omega)), by rw [unhide HR, if_neg hp]; exact hR2⟩
    clear ho hcb hcd hz hm hR2
    go_wp2
    go_ret
    exact unhide HF
set_option maxHeartbeats 8000000 in
set_option maxRecDepth 100000 in
theorem sm_cat (l r : List El) (cr : Int) (fl fr : List Int → List Int × List Int) (sr : SegM r cr) (hl : SmS l fl) (hr : SmS r fr) : SmS (l ++ r ++ [⟨2, [], 0, 0⟩]) (catF fl fr) := by
  intro N D lo v xs w h hx hD hlo hv hlen
  have hv0 := hv
  obtain ⟨a, cp, rfl, -, -⟩ := id hv
  obtain ⟨hlen2, hcap, b, off, rfl, hbn, hel⟩ := hv.last
  rw [hlen2] at hv hv0 hcap ⊢
  simp only [List.length_append, List.length_singleton] at hv hv0 hlen hlen2 hel hcap ⊢
  unfold maxLen at hcap
  obtain ⟨i1, i2, i3, sv, c0, c1, c2, c3, hints⟩ := hel
  obtain ⟨sa, sc, rfl, -, -, -⟩ := id hints
  simp only at c0 c2 c3
  clear hlen2 i1 i2 i3 hints
  have e1 : (((l.length + r.length + 1 : Nat) : Int) - 1) = ((l.length + r.length : Nat) : Int) := by omega
  have hvL : ElsAt lo w.heap.size w (.slice (some ⟨b, off, none⟩) l.length cp) (l) := by rw [List.append_assoc] at hv0; exact hv0.pre
  have hvR := hv0.mid (cap' := cp - l.length) (by unfold maxLen; omega)
  have f5 : l.length + r.length - l.length = r.length := by omega
  have Hv0 := hide (hv0.mono (Nat.zero_le lo) (Nat.le_refl _))
  have HHl := hide hl
  have HHr := hide hr
  have H := hide h
  have HX := hide hx
  have hh := hx.head
  have HB0 := hide (below1 w (.cells #[.int .i64 2, .slice sa 0 sc, .int .i64 0, .int .i64 0] 114))
  have hzW : (w.alloc (.cells #[.int .i64 2, .slice sa 0 sc, .int .i64 0, .int .i64 0] 114)).heap.size = w.heap.size + 1 := sz_alloc _ _
  have HC0 := hide ((unhide H).keep (unhide HB0) (by omega))
  have HV0 := hide (Below.mv (unhide HB0) D)
  have HL0 := hide (hvL.below (unhide HB0) (Nat.le_refl _))
  have HR0 := hide (hvR.below (unhide HB0) (Nat.le_refl _))
  obtain ⟨y, hy⟩ : ∃ y, xs.headD 0 = y := ⟨_, rfl⟩
  rw [hy] at hh
  have HY := hide hy
  clear hvL hvR hv hv0 hl hr h hx hy
  go_enter Tryz.func39, Tryz.ntmps39
  go_wp2_with fail
  refine (l1start_bin _ l r cr _ _ _ sr (by exact (unhide Hv0).below (unhide HB0) (Nat.le_refl _)) (by omega) rfl).mono ?_
  rintro e w1 ⟨rfl, rfl⟩
  go_wp2_with fail
  generalize w.alloc (.cells #[.int .i64 2, .slice sa 0 sc, .int .i64 0, .int .i64 0] 114) = W0 at *
  refine (unhide HHl N D lo _ xs W0 (unhide HC0) (unhide HX) hD (by omega) (unhide HL0) (by omega)).mono ?_
  rintro e w1 ⟨v1, bs1, zs1, rfl, ho1, hcb1, hlb1, hcd1, hz1, hm1, hR1⟩
  obtain ⟨oa, oc, rfl⟩ := own_is ho1
  have hs1 := hm1.size
  have HRR := hide ((unhide HR0).mv hm1 (Nat.le_refl _) hD)
  have HM1 := hide ((unhide HV0).trans (hm1.mono (by omega)))
  have HO1 := hide ho1
  have HB1 := hide hcb1
  have HC1 := hide hcd1
  have HZ1 := hide hz1
  have HR1 := hide hR1
  clear ho1 hcb1 hcd1 hz1 hm1 hR1
  go_wp2_with fail
  refine (unhide HHr N D lo _ zs1 w1 (unhide HC1) (unhide HZ1) hD (by omega) (unhide HRR) (by omega)).mono ?_
  rintro e w2 ⟨v2, bs2, zs2, rfl, ho2, hcb2, hlb2, hcd2, hz2, hm2, hR2⟩
  obtain ⟨ob, oc2, rfl⟩ := own_is ho2
  have hs2 := hm2.size
  have HM2 := hide ((unhide HM1).trans (hm2.mono (by omega)))
  have HO2 := hide (own_mv (unhide HO1) hm2 (Nat.le_refl _) (by omega))
  have HP2 := hide ho2
  have HB2 := hide hcb2
  have HC2 := hide hcd2
  have HZ2 := hide hz2
  have HR := hide (catF_is (unhide HR1) hR2)
  clear ho2 hcb2 hcd2 hz2 hm2 hR2 HR1
  go_wp2_with (at_builtin; refine app_moreB rfl _ _ rfl w.heap.size _ rfl bs1 (by exact own_lo (unhide HO2) (by omega)) (by omega) _ rfl bs2 (by exact own_rdB (unhide HP2) (by unfold maxLen; omega)) (by omega) ?_; intro v5 w5 hb5 ho5 hoc5)
  have hbl : (bs1 ++ bs2).length ≤ 120 := by rw [List.length_append]; omega
  have HBB := hide ((unhide HB1).app (unhide HB2))
  have HC5 := hide ((unhide HC2).keep hb5 (by omega))
  have HM5 := hide ((unhide HM2).trans (Below.mv hb5 D))
  clear hb5
  generalize bs1 ++ bs2 = bb at *
  have HO5 := hide ho5
  by_cases hg : 60 < bb.length
  · have hg' : (60 : Int) < (bb.length : Int) := by omega
    have hg3 : ¬ (bb.length : Int) ≤ 60 := by omega
    obtain ⟨a5, c5, rfl⟩ := own_is ho5
    have hcc := own_capP ho5 (by omega)
    have hcm := hcc.2
    unfold maxLen at hcm
    have HT := hide (own_take ho5 (m := 60) (by omega) (by omega))
    clear ho5
    go_wp2
    go_ret
    exact ⟨_, bb.take 60, zs2, rfl, by rw [List.length_take, Nat.min_eq_left (by omega), List.map_take]; exact unhide HT, (unhide HBB).take 60, by rw [List.length_take]; omega, unhide HC5, unhide HZ2, unhide HM5, unhide HR⟩
  · have hg' : ¬ (60 : Int) < (bb.length : Int) := by omega
    obtain ⟨a5, c5, rfl⟩ := own_is ho5
    clear ho5
    go_wp2
    go_ret
    exact ⟨_, bb, zs2, rfl, unhide HO5, unhide HBB, by omega, unhide HC5, unhide HZ2, unhide HM5, by rw [unhide HR, List.take_of_length_le (by omega)]⟩
def rpN (f : List Int → List Int × List Int) : Nat → List Int → List Int → List Int × List Int
  | 0, os, zs => (os, zs)
  | n + 1, os, zs => if os.length < 60 then rpN f n (os ++ (f zs).1) (f zs).2 else (os, zs)
theorem rpN_stop {f : List Int → List Int × List Int} {n : Nat} {os zs : List Int} (h : ¬ (0 < n ∧ os.length < 60)) : rpN f n os zs = (os, zs) := by
  cases n with
  | zero => rfl
  | succ n => rw [rpN, if_neg (by omega)]
theorem rpN_go {f : List Int → List Int × List Int} {n m : Nat} {os zs bs us : List Int} (h : n = m + 1) (h1 : os.length < 60) (h2 : f zs = (bs, us)) : rpN f n os zs = rpN f m (os ++ bs) us := by
  rw [h, rpN, if_pos h1, h2]
def rpM (mn mx y : Int) : Nat := (if mx = -1 ∨ mn + y % 3 < mx then mn + y % 3 else mx).toNat
def repF (f : List Int → List Int × List Int) (mn mx : Int) (xs : List Int) : List Int × List Int := ((rpN f (rpM mn mx (xs.headD 0)) [] xs.tail).1.take 60, (rpN f (rpM mn mx (xs.headD 0)) [] xs.tail).2)
set_option maxHeartbeats 16000000 in
set_option maxRecDepth 100000 in
theorem sm_rep_a (l : List El) (mn mx : Int) (f : List Int → List Int × List Int) (hl : SmS l f) (hne : 0 < l.length) (o2 : 0 ≤ mn) (o3 : mn ≤ 250) (N D lo : Nat) (v : Value) (xs : List Int) (w : World) (h : CdAt N D w xs) (hx : Cod xs) (hD : D < lo) (hlo : lo ≤ w.heap.size) (hv : ElsAt lo w.heap.size w v (l ++ [⟨4, [], mn, mx⟩])) (hlen : (l ++ [(⟨4, [], mn, mx⟩ : El)]).length ≤ 1048576) (hk : mx = -1) :
    Calls Tryz.prog 39 #[v, .pointer (some ⟨D, 0, none⟩)] w (Smp N D 60 (repF f mn mx xs) w) := by
  subst hk
  have hv0 := hv
  obtain ⟨a, cp, rfl, -, -⟩ := id hv
  obtain ⟨hlen2, hcap, b, off, rfl, hbn, hel⟩ := hv.last
  rw [hlen2] at hv hv0 hcap ⊢
  simp only [List.length_append, List.length_singleton] at hlen hlen2
  unfold maxLen at hcap
  obtain ⟨i1, i2, i3, sv, c0, c1, c2, c3, hints⟩ := hel
  obtain ⟨sa, sc, rfl, -, -, -⟩ := id hints
  simp only at c0 c2 c3
  clear hlen2 i1 i2 i3 hints
  have hvL : ElsAt lo w.heap.size w (.slice (some ⟨b, off, none⟩) l.length cp) l := hv0.pre
  have e1 : (((l.length + 1 : Nat) : Int) - 1) = ((l.length : Nat) : Int) := by omega
  have HH := hide hl
  have H := hide h
  have HX := hide hx
  have hh := hx.head
  have HB0 := hide (below1 w (.cells #[.int .i64 4, .slice sa 0 sc, .int .i64 mn, .int .i64 (-1)] 114))
  have hzW : (w.alloc (.cells #[.int .i64 4, .slice sa 0 sc, .int .i64 mn, .int .i64 (-1)] 114)).heap.size = w.heap.size + 1 := sz_alloc _ _
  have q3 : (w.alloc (.cells #[.int .i64 4, .slice sa 0 sc, .int .i64 mn, .int .i64 (-1)] 114)).cell? ⟨w.heap.size, 3, none⟩ = some (.int .i64 (-1)) := (pushd_alloc w _).news 3 _ rfl
  have HC0 := hide ((unhide H).keep (unhide HB0) (by omega))
  have HV0 := hide (Below.mv (unhide HB0) D)
  have HvL := hide hvL
  obtain ⟨y, hy⟩ : ∃ y, xs.headD 0 = y := ⟨_, rfl⟩
  rw [hy] at hh
  have HY := hide hy
  have HR : Hid (repF f mn (-1) xs = ((rpN f (rpM mn (-1) y) [] xs.tail).1.take 60, (rpN f (rpM mn (-1) y) [] xs.tail).2)) := hide (by unfold repF; rw [hy])
  obtain ⟨R, hR9⟩ : ∃ R, repF f mn (-1) xs = R := ⟨_, rfl⟩
  rw [hR9] at HR ⊢
  clear hR9
  clear hvL hv hv0 hl h hx hy
  go_enter Tryz.func39, Tryz.ntmps39
  go_wp2_with fail
  generalize w.alloc (.cells #[.int .i64 4, .slice sa 0 sc, .int .i64 mn, .int .i64 (-1)] 114) = W0 at *
  refine (next_any N D xs W0 (unhide HC0) (unhide HX)).mono ?_
  rintro e w1 ⟨he, hc1, ho1⟩
  rw [unhide HY] at he
  subst he
  have hz1 : w1.heap.size = W0.heap.size := ho1.size
  have q3' := ((ho1.mv W0.heap.size).cell (p := ⟨w.heap.size, 3, none⟩) (by show w.heap.size < _; omega) (by show ¬ w.heap.size = D; omega)).trans q3
  have HM1 := hide ((unhide HV0).trans (ho1.mv w.heap.size))
  have HC1 := hide hc1
  clear hc1 ho1 q3
  go_wp2_with fail
  obtain ⟨M, hM⟩ : ∃ M : Nat, mn + y % 3 = (M : Int) := ⟨(mn + y % 3).toNat, by omega⟩
  have hMM : rpM mn (-1) y = M := by unfold rpM; rw [if_pos (Or.inl rfl)]; omega
  rw [hMM] at HR
  obtain ⟨R0, hR0⟩ : ∃ R0, rpN f M [] xs.tail = R0 := ⟨_, rfl⟩
  rw [hR0] at HR
  have HR0 := hide hR0
  clear hMM hR0
  have hM9 : M ≤ 300 := by omega
  rw [hM]
  clear hM q3'
  go_loopw [13, 14] (fun ov iv wr => ∃ (k : Nat) (os zs : List Int), k ≤ M ∧ iv = .int .i64 k ∧ Cod zs ∧ Cod os ∧ os.length ≤ 120 ∧ wr.ownsRow w.heap.size 5 1 ov os.length (os.map mB) ∧ CdAt N D wr zs ∧ Mv w.heap.size D w wr ∧ rpN f (M - k) os zs = R0) (fun _ iv _ => M - (intOf iv).toNat)
  case atStart => exact ⟨0, [], xs.tail, Nat.zero_le _, rfl, (unhide HX).tail, cod_nil, Nat.zero_le _, World.ownsRow_nil _ _ _ _, unhide HC1, unhide HM1, unhide HR0⟩
  case round =>
    clear HC1 HM1
    obtain ⟨k, os, zs, hk, rfl, hzs, hoc, hol, hown, hcd, hmv, hrp⟩ := hrel
    have HRP := hide hrp
    clear hrp
    have HO := hide hown
    have HCD := hide hcd
    have HMV := hide hmv
    have HZ := hide hzs
    have HOC := hide hoc
    have hszr := hmv.size
    by_cases hgo : k < M ∧ os.length < 60
    · have h1 : (k : Int) < (M : Int) := by omega
      have h2 : (os.length : Int) < 60 := by omega
      obtain ⟨oa, oc, rfl⟩ := own_is hown
      have HL1 := hide ((unhide HvL).mv hmv (Nat.le_refl _) hD)
      clear hown hcd hmv hzs hoc
      go_wp2_with fail
      refine (unhide HH N D lo _ zs wr (unhide HCD) (unhide HZ) hD (by omega) (unhide HL1) (by omega)).mono ?_
      rintro e w2 ⟨v2, bs2, zs2, rfl, ho2, hcb2, hlb2, hcd2, hz2, hm2, hR2⟩
      obtain ⟨ob, oc2, rfl⟩ := own_is ho2
      have hs2 := hm2.size
      have HM2 := hide ((unhide HMV).trans (hm2.mono (by omega)))
      have HO2 := hide (own_mv (unhide HO) hm2 (Nat.le_refl _) (by omega))
      have HP2 := hide ho2
      have HB2 := hide ((unhide HOC).app hcb2)
      have HC2 := hide hcd2
      have HZ2 := hide hz2
      have HRG := hide ((rpN_go (n := M - k) (m := M - (k + 1)) (by omega) hgo.2 hR2).symm.trans (unhide HRP))
      clear ho2 hcb2 hcd2 hz2 hm2 hR2
      go_wp2_with (at_builtin; refine app_moreB rfl _ _ rfl w.heap.size _ rfl os (by exact unhide HO2) (by omega) _ rfl bs2 (by exact own_rdB (unhide HP2) (by unfold maxLen; omega)) (by omega) ?_; intro v5 w5 hb5 ho5 hoc5)
      have hbl : (os ++ bs2).length ≤ 120 := by rw [List.length_append]; omega
      have HC5 := hide ((unhide HC2).keep hb5 (by omega))
      have HM5 := hide ((unhide HM2).trans (Below.mv hb5 D))
      have HO5 := hide ho5
      clear hb5 ho5
      go_wp2
      exact ⟨⟨k + 1, os ++ bs2, zs2, by omega, by go_num, unhide HZ2, unhide HB2, hbl, unhide HO5, unhide HC5, unhide HM5, unhide HRG⟩, by simp [intOf]; omega⟩
    · have HRS := hide (unhide HRP)
      rw [rpN_stop (by omega)] at HRS
      by_cases hg : 60 < os.length
      · have hg' : (60 : Int) < (os.length : Int) := by omega
        have hg3 : ¬ (os.length : Int) ≤ 60 := by omega
        have hg2 : ¬ (os.length : Int) < 60 := by omega
        obtain ⟨a5, c5, rfl⟩ := own_is hown
        have hcc := own_capP hown (by omega)
        have hcm := hcc.2
        unfold maxLen at hcm
        have HT := hide (own_take hown (m := 60) (by omega) (by omega))
        clear hown hcd hmv hzs hoc
        by_cases hkM : (k : Int) < (M : Int)
        · go_wp2
          go_ret
          exact ⟨_, os.take 60, zs, rfl, by rw [List.length_take, Nat.min_eq_left (by omega), List.map_take]; exact unhide HT, (unhide HOC).take 60, by rw [List.length_take]; omega, unhide HCD, unhide HZ, unhide HMV, by rw [unhide HR, ← unhide HRS]⟩
        · go_wp2
          go_ret
          exact ⟨_, os.take 60, zs, rfl, by rw [List.length_take, Nat.min_eq_left (by omega), List.map_take]; exact unhide HT, (unhide HOC).take 60, by rw [List.length_take]; omega, unhide HCD, unhide HZ, unhide HMV, by rw [unhide HR, ← unhide HRS]⟩
      · have hg' : ¬ (60 : Int) < (os.length : Int) := by omega
        have hg3 : (os.length : Int) ≤ 60 := by omega
        obtain ⟨oa, oc, rfl⟩ := own_is hown
        clear hown hcd hmv hzs hoc
        by_cases hkM : (k : Int) < (M : Int)
        · have hg2 : ¬ (os.length : Int) < 60 := by omega
          go_wp2
          go_ret
          exact ⟨_, os, zs, rfl, unhide HO, unhide HOC, by omega, unhide HCD, unhide HZ, unhide HMV, by rw [unhide HR, ← unhide HRS]; show (os.take 60, zs) = _; rw [List.take_of_length_le (by omega)]⟩
        · go_wp2
          go_ret
          exact ⟨_, os, zs, rfl, unhide HO, unhide HOC, by omega, unhide HCD, unhide HZ, unhide HMV, by rw [unhide HR, ← unhide HRS]; show (os.take 60, zs) = _; rw [List.take_of_length_le (by omega)]⟩
set_option maxHeartbeats 16000000 in
set_option maxRecDepth 100000 in
theorem sm_rep_b (l : List El) (mn mx : Int) (f : List Int → List Int × List Int) (hl : SmS l f) (hne : 0 < l.length) (o2 : 0 ≤ mn) (o3 : mn ≤ 250) (N D lo : Nat) (v : Value) (xs : List Int) (w : World) (h : CdAt N D w xs) (hx : Cod xs) (hD : D < lo) (hlo : lo ≤ w.heap.size) (hv : ElsAt lo w.heap.size w v (l ++ [⟨4, [], mn, mx⟩])) (hlen : (l ++ [(⟨4, [], mn, mx⟩ : El)]).length ≤ 1048576) (hk : mx ≠ -1 ∧ mx ≤ 250 ∧ mn + xs.headD 0 % 3 < mx) :
    Calls Tryz.prog 39 #[v, .pointer (some ⟨D, 0, none⟩)] w (Smp N D 60 (repF f mn mx xs) w) := by
  have hv0 := hv
  obtain ⟨a, cp, rfl, -, -⟩ := id hv
  obtain ⟨hlen2, hcap, b, off, rfl, hbn, hel⟩ := hv.last
  rw [hlen2] at hv hv0 hcap ⊢
  simp only [List.length_append, List.length_singleton] at hlen hlen2
  unfold maxLen at hcap
  obtain ⟨i1, i2, i3, sv, c0, c1, c2, c3, hints⟩ := hel
  obtain ⟨sa, sc, rfl, -, -, -⟩ := id hints
  simp only at c0 c2 c3
  clear hlen2 i1 i2 i3 hints
  have hvL : ElsAt lo w.heap.size w (.slice (some ⟨b, off, none⟩) l.length cp) l := hv0.pre
  have e1 : (((l.length + 1 : Nat) : Int) - 1) = ((l.length : Nat) : Int) := by omega
  have HH := hide hl
  have H := hide h
  have HX := hide hx
  have hh := hx.head
  have HB0 := hide (below1 w (.cells #[.int .i64 4, .slice sa 0 sc, .int .i64 mn, .int .i64 mx] 114))
  have hzW : (w.alloc (.cells #[.int .i64 4, .slice sa 0 sc, .int .i64 mn, .int .i64 mx] 114)).heap.size = w.heap.size + 1 := sz_alloc _ _
  have q3 : (w.alloc (.cells #[.int .i64 4, .slice sa 0 sc, .int .i64 mn, .int .i64 mx] 114)).cell? ⟨w.heap.size, 3, none⟩ = some (.int .i64 mx) := (pushd_alloc w _).news 3 _ rfl
  have HC0 := hide ((unhide H).keep (unhide HB0) (by omega))
  have HV0 := hide (Below.mv (unhide HB0) D)
  have HvL := hide hvL
  obtain ⟨y, hy⟩ : ∃ y, xs.headD 0 = y := ⟨_, rfl⟩
  rw [hy] at hh hk
  have HY := hide hy
  have HR : Hid (repF f mn mx xs = ((rpN f (rpM mn mx y) [] xs.tail).1.take 60, (rpN f (rpM mn mx y) [] xs.tail).2)) := hide (by unfold repF; rw [hy])
  obtain ⟨R, hR9⟩ : ∃ R, repF f mn mx xs = R := ⟨_, rfl⟩
  rw [hR9] at HR ⊢
  clear hR9
  clear hvL hv hv0 hl h hx hy
  go_enter Tryz.func39, Tryz.ntmps39
  go_wp2_with fail
  generalize w.alloc (.cells #[.int .i64 4, .slice sa 0 sc, .int .i64 mn, .int .i64 mx] 114) = W0 at *
  refine (next_any N D xs W0 (unhide HC0) (unhide HX)).mono ?_
  rintro e w1 ⟨he, hc1, ho1⟩
  rw [unhide HY] at he
  subst he
  have hz1 : w1.heap.size = W0.heap.size := ho1.size
  have q3' := ((ho1.mv W0.heap.size).cell (p := ⟨w.heap.size, 3, none⟩) (by show w.heap.size < _; omega) (by show ¬ w.heap.size = D; omega)).trans q3
  have HM1 := hide ((unhide HV0).trans (ho1.mv w.heap.size))
  have HC1 := hide hc1
  clear hc1 ho1 q3
  obtain ⟨k1, k3, k2⟩ := hk
  have k4 : (mx == -1) = false := beq_eq_false_iff_ne.2 k1
  go_wp2_with fail
  obtain ⟨M, hM⟩ : ∃ M : Nat, mn + y % 3 = (M : Int) := ⟨(mn + y % 3).toNat, by omega⟩
  have hMM : rpM mn mx y = M := by unfold rpM; rw [if_pos (Or.inr k2)]; omega
  rw [hMM] at HR
  obtain ⟨R0, hR0⟩ : ∃ R0, rpN f M [] xs.tail = R0 := ⟨_, rfl⟩
  rw [hR0] at HR
  have HR0 := hide hR0
  clear hMM hR0
  have hM9 : M ≤ 300 := by omega
  rw [hM]
  clear hM q3'
  go_loopw [13, 14] (fun ov iv wr => ∃ (k : Nat) (os zs : List Int), k ≤ M ∧ iv = .int .i64 k ∧ Cod zs ∧ Cod os ∧ os.length ≤ 120 ∧ wr.ownsRow w.heap.size 5 1 ov os.length (os.map mB) ∧ CdAt N D wr zs ∧ Mv w.heap.size D w wr ∧ rpN f (M - k) os zs = R0) (fun _ iv _ => M - (intOf iv).toNat)
  case atStart => exact ⟨0, [], xs.tail, Nat.zero_le _, rfl, (unhide HX).tail, cod_nil, Nat.zero_le _, World.ownsRow_nil _ _ _ _, unhide HC1, unhide HM1, unhide HR0⟩
  case round =>
    clear HC1 HM1
    obtain ⟨k, os, zs, hk, rfl, hzs, hoc, hol, hown, hcd, hmv, hrp⟩ := hrel
    have HRP := hide hrp
    clear hrp
    have HO := hide hown
    have HCD := hide hcd
    have HMV := hide hmv
    have HZ := hide hzs
    have HOC := hide hoc
    have hszr := hmv.size
    by_cases hgo : k < M ∧ os.length < 60
    · have h1 : (k : Int) < (M : Int) := by omega
      have h2 : (os.length : Int) < 60 := by omega
      obtain ⟨oa, oc, rfl⟩ := own_is hown
      have HL1 := hide ((unhide HvL).mv hmv (Nat.le_refl _) hD)
      clear hown hcd hmv hzs hoc
      go_wp2_with fail
      refine (unhide HH N D lo _ zs wr (unhide HCD) (unhide HZ) hD (by omega) (unhide HL1) (by omega)).mono ?_
      rintro e w2 ⟨v2, bs2, zs2, rfl, ho2, hcb2, hlb2, hcd2, hz2, hm2, hR2⟩
      obtain ⟨ob, oc2, rfl⟩ := own_is ho2
      have hs2 := hm2.size
      have HM2 := hide ((unhide HMV).trans (hm2.mono (by omega)))
      have HO2 := hide (own_mv (unhide HO) hm2 (Nat.le_refl _) (by omega))
      have HP2 := hide ho2
      have HB2 := hide ((unhide HOC).app hcb2)
      have HC2 := hide hcd2
      have HZ2 := hide hz2
      have HRG := hide ((rpN_go (n := M - k) (m := M - (k + 1)) (by omega) hgo.2 hR2).symm.trans (unhide HRP))
      clear ho2 hcb2 hcd2 hz2 hm2 hR2
      go_wp2_with (at_builtin; refine app_moreB rfl _ _ rfl w.heap.size _ rfl os (by exact unhide HO2) (by omega) _ rfl bs2 (by exact own_rdB (unhide HP2) (by unfold maxLen; omega)) (by omega) ?_; intro v5 w5 hb5 ho5 hoc5)
      have hbl : (os ++ bs2).length ≤ 120 := by rw [List.length_append]; omega
      have HC5 := hide ((unhide HC2).keep hb5 (by omega))
      have HM5 := hide ((unhide HM2).trans (Below.mv hb5 D))
      have HO5 := hide ho5
      clear hb5 ho5
      go_wp2
      exact ⟨⟨k + 1, os ++ bs2, zs2, by omega, by go_num, unhide HZ2, unhide HB2, hbl, unhide HO5, unhide HC5, unhide HM5, unhide HRG⟩, by simp [intOf]; omega⟩
    · have HRS := hide (unhide HRP)
      rw [rpN_stop (by omega)] at HRS
      by_cases hg : 60 < os.length
      · have hg' : (60 : Int) < (os.length : Int) := by omega
        have hg3 : ¬ (os.length : Int) ≤ 60 := by omega
        have hg2 : ¬ (os.length : Int) < 60 := by omega
        obtain ⟨a5, c5, rfl⟩ := own_is hown
        have hcc := own_capP hown (by omega)
        have hcm := hcc.2
        unfold maxLen at hcm
        have HT := hide (own_take hown (m := 60) (by omega) (by omega))
        clear hown hcd hmv hzs hoc
        by_cases hkM : (k : Int) < (M : Int)
        · go_wp2
          go_ret
          exact ⟨_, os.take 60, zs, rfl, by rw [List.length_take, Nat.min_eq_left (by omega), List.map_take]; exact unhide HT, (unhide HOC).take 60, by rw [List.length_take]; omega, unhide HCD, unhide HZ, unhide HMV, by rw [unhide HR, ← unhide HRS]⟩
        · go_wp2
          go_ret
          exact ⟨_, os.take 60, zs, rfl, by rw [List.length_take, Nat.min_eq_left (by omega), List.map_take]; exact unhide HT, (unhide HOC).take 60, by rw [List.length_take]; omega, unhide HCD, unhide HZ, unhide HMV, by rw [unhide HR, ← unhide HRS]⟩
      · have hg' : ¬ (60 : Int) < (os.length : Int) := by omega
        have hg3 : (os.length : Int) ≤ 60 := by omega
        obtain ⟨oa, oc, rfl⟩ := own_is hown
        clear hown hcd hmv hzs hoc
        by_cases hkM : (k : Int) < (M : Int)
        · have hg2 : ¬ (os.length : Int) < 60 := by omega
          go_wp2
          go_ret
          exact ⟨_, os, zs, rfl, unhide HO, unhide HOC, by omega, unhide HCD, unhide HZ, unhide HMV, by rw [unhide HR, ← unhide HRS]; show (os.take 60, zs) = _; rw [List.take_of_length_le (by omega)]⟩
        · go_wp2
          go_ret
          exact ⟨_, os, zs, rfl, unhide HO, unhide HOC, by omega, unhide HCD, unhide HZ, unhide HMV, by rw [unhide HR, ← unhide HRS]; show (os.take 60, zs) = _; rw [List.take_of_length_le (by omega)]⟩
set_option maxHeartbeats 16000000 in
set_option maxRecDepth 100000 in
theorem sm_rep_c (l : List El) (mn mx : Int) (f : List Int → List Int × List Int) (hl : SmS l f) (hne : 0 < l.length) (o2 : 0 ≤ mn) (o3 : mn ≤ 250) (N D lo : Nat) (v : Value) (xs : List Int) (w : World) (h : CdAt N D w xs) (hx : Cod xs) (hD : D < lo) (hlo : lo ≤ w.heap.size) (hv : ElsAt lo w.heap.size w v (l ++ [⟨4, [], mn, mx⟩])) (hlen : (l ++ [(⟨4, [], mn, mx⟩ : El)]).length ≤ 1048576) (hk : mx ≠ -1 ∧ mn ≤ mx ∧ mx ≤ 250 ∧ ¬ mn + xs.headD 0 % 3 < mx) :
    Calls Tryz.prog 39 #[v, .pointer (some ⟨D, 0, none⟩)] w (Smp N D 60 (repF f mn mx xs) w) := by
  have hv0 := hv
  obtain ⟨a, cp, rfl, -, -⟩ := id hv
  obtain ⟨hlen2, hcap, b, off, rfl, hbn, hel⟩ := hv.last
  rw [hlen2] at hv hv0 hcap ⊢
  simp only [List.length_append, List.length_singleton] at hlen hlen2
  unfold maxLen at hcap
  obtain ⟨i1, i2, i3, sv, c0, c1, c2, c3, hints⟩ := hel
  obtain ⟨sa, sc, rfl, -, -, -⟩ := id hints
  simp only at c0 c2 c3
  clear hlen2 i1 i2 i3 hints
  have hvL : ElsAt lo w.heap.size w (.slice (some ⟨b, off, none⟩) l.length cp) l := hv0.pre
  have e1 : (((l.length + 1 : Nat) : Int) - 1) = ((l.length : Nat) : Int) := by omega
  have HH := hide hl
  have H := hide h
  have HX := hide hx
  have hh := hx.head
  have HB0 := hide (below1 w (.cells #[.int .i64 4, .slice sa 0 sc, .int .i64 mn, .int .i64 mx] 114))
  have hzW : (w.alloc (.cells #[.int .i64 4, .slice sa 0 sc, .int .i64 mn, .int .i64 mx] 114)).heap.size = w.heap.size + 1 := sz_alloc _ _
  have q3 : (w.alloc (.cells #[.int .i64 4, .slice sa 0 sc, .int .i64 mn, .int .i64 mx] 114)).cell? ⟨w.heap.size, 3, none⟩ = some (.int .i64 mx) := (pushd_alloc w _).news 3 _ rfl
  have HC0 := hide ((unhide H).keep (unhide HB0) (by omega))
  have HV0 := hide (Below.mv (unhide HB0) D)
  have HvL := hide hvL
  obtain ⟨y, hy⟩ : ∃ y, xs.headD 0 = y := ⟨_, rfl⟩
  rw [hy] at hh hk
  have HY := hide hy
  have HR : Hid (repF f mn mx xs = ((rpN f (rpM mn mx y) [] xs.tail).1.take 60, (rpN f (rpM mn mx y) [] xs.tail).2)) := hide (by unfold repF; rw [hy])
  obtain ⟨R, hR9⟩ : ∃ R, repF f mn mx xs = R := ⟨_, rfl⟩
  rw [hR9] at HR ⊢
  clear hR9
  clear hvL hv hv0 hl h hx hy
  go_enter Tryz.func39, Tryz.ntmps39
  go_wp2_with fail
  generalize w.alloc (.cells #[.int .i64 4, .slice sa 0 sc, .int .i64 mn, .int .i64 mx] 114) = W0 at *
  refine (next_any N D xs W0 (unhide HC0) (unhide HX)).mono ?_
  rintro e w1 ⟨he, hc1, ho1⟩
  rw [unhide HY] at he
  subst he
  have hz1 : w1.heap.size = W0.heap.size := ho1.size
  have q3' := ((ho1.mv W0.heap.size).cell (p := ⟨w.heap.size, 3, none⟩) (by show w.heap.size < _; omega) (by show ¬ w.heap.size = D; omega)).trans q3
  have HM1 := hide ((unhide HV0).trans (ho1.mv w.heap.size))
  have HC1 := hide hc1
  clear hc1 ho1 q3
  obtain ⟨k1, k5, k3, k2⟩ := hk
  have k4 : (mx == -1) = false := beq_eq_false_iff_ne.2 k1
  go_wp2_with fail
  obtain ⟨M, hM⟩ : ∃ M : Nat, mx = (M : Int) := ⟨(mx).toNat, by omega⟩
  have hMM : rpM mn mx y = M := by unfold rpM; rw [if_neg (by omega)]; omega
  rw [hMM] at HR
  obtain ⟨R0, hR0⟩ : ∃ R0, rpN f M [] xs.tail = R0 := ⟨_, rfl⟩
  rw [hR0] at HR
  have HR0 := hide hR0
  clear hMM hR0
  have hM9 : M ≤ 300 := by omega
  rw [hM]
  clear hM q3'
  go_loopw [13, 14] (fun ov iv wr => ∃ (k : Nat) (os zs : List Int), k ≤ M ∧ iv = .int .i64 k ∧ Cod zs ∧ Cod os ∧ os.length ≤ 120 ∧ wr.ownsRow w.heap.size 5 1 ov os.length (os.map mB) ∧ CdAt N D wr zs ∧ Mv w.heap.size D w wr ∧ rpN f (M - k) os zs = R0) (fun _ iv _ => M - (intOf iv).toNat)
  case atStart => exact ⟨0, [], xs.tail, Nat.zero_le _, rfl, (unhide HX).tail, cod_nil, Nat.zero_le _, World.ownsRow_nil _ _ _ _, unhide HC1, unhide HM1, unhide HR0⟩
  case round =>
    clear HC1 HM1
    obtain ⟨k, os, zs, hk, rfl, hzs, hoc, hol, hown, hcd, hmv, hrp⟩ := hrel
    have HRP := hide hrp
    clear hrp
    have HO := hide hown
    have HCD := hide hcd
    have HMV := hide hmv
    have HZ := hide hzs
    have HOC := hide hoc
    have hszr := hmv.size
    by_cases hgo : k < M ∧ os.length < 60
    · have h1 : (k : Int) < (M : Int) := by omega
      have h2 : (os.length : Int) < 60 := by omega
      obtain ⟨oa, oc, rfl⟩ := own_is hown
      have HL1 := hide ((unhide HvL).mv hmv (Nat.le_refl _) hD)
      clear hown hcd hmv hzs hoc
      go_wp2_with fail
      refine (unhide HH N D lo _ zs wr (unhide HCD) (unhide HZ) hD (by omega) (unhide HL1) (by omega)).mono ?_
      rintro e w2 ⟨v2, bs2, zs2, rfl, ho2, hcb2, hlb2, hcd2, hz2, hm2, hR2⟩
      obtain ⟨ob, oc2, rfl⟩ := own_is ho2
      have hs2 := hm2.size
      have HM2 := hide ((unhide HMV).trans (hm2.mono (by omega)))
      have HO2 := hide (own_mv (unhide HO) hm2 (Nat.le_refl _) (by omega))
      have HP2 := hide ho2
      have HB2 := hide ((unhide HOC).app hcb2)
      have HC2 := hide hcd2
      have HZ2 := hide hz2
      have HRG := hide ((rpN_go (n := M - k) (m := M - (k + 1)) (by omega) hgo.2 hR2).symm.trans (unhide HRP))
      clear ho2 hcb2 hcd2 hz2 hm2 hR2
      go_wp2_with (at_builtin; refine app_moreB rfl _ _ rfl w.heap.size _ rfl os (by exact unhide HO2) (by omega) _ rfl bs2 (by exact own_rdB (unhide HP2) (by unfold maxLen; omega)) (by omega) ?_; intro v5 w5 hb5 ho5 hoc5)
      have hbl : (os ++ bs2).length ≤ 120 := by rw [List.length_append]; omega
      have HC5 := hide ((unhide HC2).keep hb5 (by omega))
      have HM5 := hide ((unhide HM2).trans (Below.mv hb5 D))
      have HO5 := hide ho5
      clear hb5 ho5
      go_wp2
      exact ⟨⟨k + 1, os ++ bs2, zs2, by omega, by go_num, unhide HZ2, unhide HB2, hbl, unhide HO5, unhide HC5, unhide HM5, unhide HRG⟩, by simp [intOf]; omega⟩
    · have HRS := hide (unhide HRP)
      rw [rpN_stop (by omega)] at HRS
      by_cases hg : 60 < os.length
      · have hg' : (60 : Int) < (os.length : Int) := by omega
        have hg3 : ¬ (os.length : Int) ≤ 60 := by omega
        have hg2 : ¬ (os.length : Int) < 60 := by omega
        obtain ⟨a5, c5, rfl⟩ := own_is hown
        have hcc := own_capP hown (by omega)
        have hcm := hcc.2
        unfold maxLen at hcm
        have HT := hide (own_take hown (m := 60) (by omega) (by omega))
        clear hown hcd hmv hzs hoc
        by_cases hkM : (k : Int) < (M : Int)
        · go_wp2
          go_ret
          exact ⟨_, os.take 60, zs, rfl, by rw [List.length_take, Nat.min_eq_left (by omega), List.map_take]; exact unhide HT, (unhide HOC).take 60, by rw [List.length_take]; omega, unhide HCD, unhide HZ, unhide HMV, by rw [unhide HR, ← unhide HRS]⟩
        · go_wp2
          go_ret
          exact ⟨_, os.take 60, zs, rfl, by rw [List.length_take, Nat.min_eq_left (by omega), List.map_take]; exact unhide HT, (unhide HOC).take 60, by rw [List.length_take]; omega, unhide HCD, unhide HZ, unhide HMV, by rw [unhide HR, ← unhide HRS]⟩
      · have hg' : ¬ (60 : Int) < (os.length : Int) := by omega
        have hg3 : (os.length : Int) ≤ 60 := by omega
        obtain ⟨oa, oc, rfl⟩ := own_is hown
        clear hown hcd hmv hzs hoc
        by_cases hkM : (k : Int) < (M : Int)
        · have hg2 : ¬ (os.length : Int) < 60 := by omega
          go_wp2
          go_ret
          exact ⟨_, os, zs, rfl, unhide HO, unhide HOC, by omega, unhide HCD, unhide HZ, unhide HMV, by rw [unhide HR, ← unhide HRS]; show (os.take 60, zs) = _; rw [List.take_of_length_le (by omega)]⟩
        · go_wp2
          go_ret
          exact ⟨_, os, zs, rfl, unhide HO, unhide HOC, by omega, unhide HCD, unhide HZ, unhide HMV, by rw [unhide HR, ← unhide HRS]; show (os.take 60, zs) = _; rw [List.take_of_length_le (by omega)]⟩
def OwnSd (base : Nat) (w : World) (ps : List Pc) : Prop := ∀ p ∈ ps, w.ownsRow base 3 1 p.s p.x.set.length (p.x.set.map mI) ∧ ∀ k, p.s.ownBlock = some k → p.T k
def GrowO (base : Nat) (w : World) (v : Value) (xs : List El) : Prop := ∃ ps : List Pc, ps.map Pc.x = xs ∧ GrowP base w v ps ∧ OwnSd base w ps
theorem GrowO.nil (base : Nat) (w : World) : GrowO base w (.slice none 0 0) [] := ⟨[], rfl, ⟨World.ownsRow_nil _ _ _ _, by simp, by simp, List.Pairwise.nil⟩, fun p hp => by cases hp⟩
theorem GrowO.keep {base m : Nat} {w w' : World} {v : Value} {xs : List El} (h : GrowO base w v xs) (hb : Below m w w') (hm : w.heap.size ≤ m) : GrowO base w' v xs := by
  obtain ⟨ps, e, h1, h2⟩ := h
  exact ⟨ps, e, h1.keep hb hm, fun p hp => ⟨own_keep (h2 p hp).1 hb hm, (h2 p hp).2⟩⟩
theorem OwnSd.app1 {base : Nat} {wr w1 W w' : World} {v : Value} {ps : List Pc} {x : El} {s : Value} {o : Obj} (hS : OwnSd base wr ps) (h : GrowP base wr v ps) (hbase : base ≤ wr.heap.size) (hb : Below wr.heap.size wr w1) (hs : w1.ownsRow wr.heap.size 3 1 s x.set.length (x.set.map mI)) (hP : Pushd w1 W o) (hg : W.grownBy w' v.ownBlock) : OwnSd base w' (ps ++ [⟨x, s, Rng wr.heap.size w1.heap.size⟩]) := by
  have hB : Below wr.heap.size wr W := hb.trans (hP.below.mono hb.size)
  intro p hp
  rcases List.mem_append.1 hp with hp | hp
  · obtain ⟨h1, h2⟩ := hS p hp
    refine ⟨(own_keep h1 hB (Nat.le_refl _)).kept hg ?_, h2⟩
    cases hk : p.s.ownBlock with
    | none => exact .inl rfl
    | some k => exact .inr (fun e => (h.blk p hp k (h2 k hk)).2.2 e.symm)
  · obtain rfl := List.mem_singleton.1 hp
    refine ⟨(own_low (own_keep hs hP.below (Nat.le_refl _)) hbase).kept hg ?_, fun k hk => hs.lt k hk⟩
    cases hk : s.ownBlock with
    | none => exact .inl rfl
    | some k =>
      refine .inr (fun e => ?_)
      have h1 := (hs.lt k hk).1
      have h2 := (h.own.lt k e.symm).2
      omega
set_option maxHeartbeats 2000000 in
set_option maxRecDepth 100000 in
theorem l1copy_o (v : Value) (xs : List El) (w : World) (hv : ElsAt 0 w.heap.size w v xs) (hlen : xs.length ≤ 1048576) (hset : ∀ i : Nat, (xs[i]?.getD dE).set.length ≤ 1048576) :
    Calls Tryz.prog 69 #[v] w fun e w' => ∃ v', e = .returned v' ∧ GrowO w.heap.size w' v' xs ∧ Below w.heap.size w w' := by
  obtain ⟨a, cap, rfl, hl, hc⟩ := hv
  obtain ⟨i0, hi, hz0, hz1, hz2⟩ := info_parts Tryz.zinInt
  obtain ⟨j0, hj, hy0, hy1, hy2⟩ := info_parts Tryz.zinOp
  have Hset := hide hset
  clear hset
  go_enter Tryz.func69, Tryz.ntmps69
  go_wp2
  go_loopw [3, 4] (fun ov i wr => ∃ k : Nat, k ≤ xs.length ∧ i = .int .i64 k ∧ GrowO w.heap.size wr ov (xs.take k) ∧ Below w.heap.size w wr) (fun _ i _ => xs.length - (intOf i).toNat)
  case atStart => exact ⟨0, Nat.zero_le _, rfl, GrowO.nil _ _, Below.refl _ _⟩
  case round =>
    obtain ⟨k, hk, rfl, hgr, hb⟩ := hrel
    have hszr := hb.size
    by_cases hlt : k < xs.length
    · obtain ⟨b, off, rfl, -, hbn, hel⟩ := hc (by omega)
      obtain ⟨i1, i2, i3, sv, c0, c1, c2, c3, hints⟩ := (hel k hlt).same (Same.of_below hb (Nat.le_refl _)) (Nat.zero_le _) hbn
      have hsk := unhide Hset k
      have Htk := hide (take_next hlt)
      have Hsv := hide (ints_sl (hints.mono (Nat.le_refl _) hb.size))
      generalize xs[k]?.getD dE = x at *
      obtain ⟨sa, sc, rfl, -, -, -⟩ := id hints
      obtain ⟨ps, hps, hgp, hos⟩ := hgr
      have HOS := hide hos
      have Hps := hide hps
      have Hgp := hide hgp
      have hpl : ps.length = k := by
        have := congrArg List.length hps
        rw [List.length_map, List.length_take] at this
        omega
      subst hpl
      obtain ⟨oa, oc, rfl⟩ := own_is hgp.own
      have hlt' : (ps.length : Int) < (xs.length : Int) := by omega
      have hbw : b < wr.heap.size := by omega
      clear hel hc hints i1 i2 i3 hps hgp hos
      go_wp2_with (at_builtin; refine app_ints_own rfl _ _ rfl rfl _ rfl x.set (unhide Hsv) hsk ?_)
      intro sv' w1 hb1 hso h1c
      have hsl := own_slw hso (lo := wr.heap.size) (Nat.le_refl _) (by unfold maxLen; omega)
      have HSO := hide hso
      have d0 : w1.cell? ⟨b, off + ps.length * 4, none⟩ = some (.int .i64 x.kind) := by rw [hb1.cell (p := ⟨b, off + ps.length * 4, none⟩) hbw]; exact c0
      have d2 : w1.cell? ⟨b, off + ps.length * 4 + 2, none⟩ = some (.int .i64 x.mn) := by rw [hb1.cell (p := ⟨b, off + ps.length * 4 + 2, none⟩) hbw]; exact c2
      have d3 : w1.cell? ⟨b, off + ps.length * 4 + 3, none⟩ = some (.int .i64 x.mx) := by rw [hb1.cell (p := ⟨b, off + ps.length * 4 + 3, none⟩) hbw]; exact c3
      have Hsl := hide hsl
      obtain ⟨sa', sc', rfl⟩ : ∃ a c, sv' = .slice a x.set.length c := by obtain ⟨a, c, e, -⟩ := hsl; exact ⟨a, c, e⟩
      clear hsl hso c0 c1 c2 c3
      have Hown1 := hide (own_keep (unhide Hgp).own hb1 (Nat.le_refl _))
      have hsz1 := hb1.size
      have hst : Hid (∀ (W w' : World) (v' : Value) (o : Obj), Pushd w1 W o → w'.ownsRow w.heap.size 114 4 v' (ps.length + 1) (cellsP ps ++ cell4 x (.slice sa' x.set.length sc')) → W.grownBy w' (Value.slice oa ps.length oc).ownBlock → (v'.ownBlock = (Value.slice oa ps.length oc).ownBlock ∨ v'.ownBlock = some W.heap.size) → GrowO w.heap.size w' v' (xs.take (ps.length + 1)) ∧ Below w.heap.size wr w') := fun W w' v' o hP q1 q2 q3 => by
        obtain ⟨r1, r2⟩ := (unhide Hgp).app1 (T := Rng wr.heap.size w1.heap.size) hszr hb1 (unhide Hsl).foot (fun k hk => hk) hP q1 q2 q3
        exact ⟨⟨_, by rw [List.map_append, unhide Hps, unhide Htk]; rfl, r1, (unhide HOS).app1 (unhide Hgp) hszr hb1 (unhide HSO) hP q2⟩, r2⟩
      have hone : Hid (∀ u ∈ cell4 x (.slice sa' x.set.length sc'), u.oneCell' = true) := fun u hu => by
        simp only [cell4, List.mem_cons, List.not_mem_nil, or_false] at hu
        rcases hu with rfl | rfl | rfl | rfl <;> rfl
      go_wp2
      go_region_law (refine step_append_lies _ rfl (.tmp 19) (.tmp 37) 23 rfl w.heap.size 114 j0 (.agg #[.int .i64 0, .slice none 0 0, .int .i64 0, .int .i64 0]) 4 48 Tryz.underlying23 hj hy0 hy1 hy2 rfl (by decide) (.slice oa ps.length oc) ps.length (cellsP ps) (by simp [Act.eval]) (by refine Pushd.own (w := w1) (o := .cells #[.int .i64 x.kind, .slice sa' x.set.length sc', .int .i64 x.mn, .int .i64 x.mx] 114) ?_ (unhide Hown1); exact ⟨rfl, rfl, rfl, rfl⟩) ⟨w1.heap.size, 0, none⟩ 1 1 (cell4 x (.slice sa' x.set.length sc')) (by simp [Act.eval]) rfl (by refine Pushd.news (w := w1) (cs := #[.int .i64 x.kind, .slice sa' x.set.length sc', .int .i64 x.mn, .int .i64 x.mx]) (t := 114) ?_; exact ⟨rfl, rfl, rfl, rfl⟩) (unhide hone) (by decide) (by unfold maxLen; omega) (by omega) (by show w.heap.size ≤ (w1.alloc _).heap.size; rw [sz_alloc]; omega) (w1.heap.size + 1) (sz_alloc w1 _) (fun g cap' w' q1 q2 q3 q4 => ?_); have hs := hide (unhide hst _ w' (.slice (some ⟨g, 0, none⟩) (ps.length + 1) cap') (.cells #[.int .i64 x.kind, .slice sa' x.set.length sc', .int .i64 x.mn, .int .i64 x.mx] 114) (by exact ⟨rfl, rfl, rfl, rfl⟩) q1 q2 (q3.elim (fun e => Or.inl e.symm) (fun e => Or.inr (by subst e; simp [Value.ownBlock])))); clear q1 q2 q3 q4)
      all_goals
        go_wp2
        exact ⟨⟨ps.length + 1, by omega, by go_num, (unhide hs).1, hb.trans (unhide hs).2⟩, by simp [intOf]; omega⟩
    · obtain rfl : k = xs.length := by omega
      rw [List.take_length] at hgr
      have Hgr := hide hgr
      clear hc hgr
      go_wp2
      go_ret
      exact ⟨_, rfl, unhide Hgr, hb⟩
/-! One element of a tree of one's own is written anew. -/
theorem app_i3 {w : World} {ops : Array Oper} {rest : List Oper} {o : Oper} {a : Act} {Q : Exit → Act → World → Prop} (hgd : o.guard = none) (s x : Operand)
    (ho : o.op = .call { callee := .builtin .append, args := #[s, x], argTypes := #[34, 34] }) (base : Nat) (v : Value) (hs : a.eval s = v) (y : Int) (hx : a.eval x = .slice (some ⟨w.heap.size, 0, none⟩) 1 1) (n : Nat) (xs : List Int) (hn : n = xs.length)
    (h1 : w.ownsRow base 3 1 v n (xs.map mI)) (hb : base ≤ w.heap.size) (hl : n ≤ 2000000)
    (h : ∀ v' w', w'.ownsRow base 3 1 v' (n + 1) ((xs ++ [y]).map mI) → w.grownBy w' v.ownBlock → wpList Tryz.prog ops Q rest (a.put o.dst v') w') : wpList Tryz.prog ops Q (o :: rest) a (w.alloc (.cells #[.int .i64 y] 3)) := by
  subst hn
  obtain ⟨i0, hi, hz0, hz1, hz2⟩ := info_parts Tryz.zinInt
  refine wpList_append_own_at _ hgd s x 34 ho base 3 i0 (.int .i64 0) 1 8 Tryz.underlying34 hi hz0 hz1 hz2 rfl (by decide) v xs.length (xs.map mI) hs (h1.alloc _) ⟨w.heap.size, 0, none⟩ 1 1 [.int .i64 y] hx rfl (fun j y hj => by
    match j, hj with
    | 0, hj => exact (pushd_alloc w _).news 0 _ hj) (fun u hu => by rw [List.mem_singleton] at hu; subst hu; rfl) (by unfold maxLen; omega) (by omega) (by rw [sz_alloc]; omega) ?_
  intro v' w' r1 r2 _ r3
  refine h v' w' ?_ ?_
  · rw [List.map_append]
    exact r1
  · have hB := below1 w (.cells #[.int .i64 y] 3)
    have hz := sz_alloc w (.cells #[.int .i64 y] 3)
    exact ⟨r2.os.trans hB.os, r2.tape.trans hB.tape, r2.output.trans hB.output, Nat.le_trans hB.size r2.size, fun k hk hne => (r2.block k (by omega) hne).trans (hB.block k hk)⟩
theorem GrowO.mv {base lo D : Nat} {w w' : World} {v : Value} {xs : List El} (h : GrowO base w v xs) (hm : Mv lo D w w') (hl : w.heap.size ≤ lo) (hD : D < base) : GrowO base w' v xs := by
  obtain ⟨ps, e, h1, h2⟩ := h
  refine ⟨ps, e, ⟨own_mv h1.own hm hl hD, fun p hp => (h1.set p hp).same (fun k hk => ?_), fun p hp k hk => ?_, h1.dis⟩, fun p hp => ⟨own_mv (h2 p hp).1 hm hl hD, (h2 p hp).2⟩⟩
  · have := h1.blk p hp k hk
    exact hm.block k (by omega) (by omega)
  · have := h1.blk p hp k hk
    have := hm.size
    exact ⟨(h1.blk p hp k hk).1, by omega, (h1.blk p hp k hk).2.2⟩
theorem Nice.at {xs : List El} (h : Nice xs) (i : Nat) : In64 (xs[i]?.getD dE).kind ∧ In64 (xs[i]?.getD dE).mn ∧ In64 (xs[i]?.getD dE).mx ∧ ∀ j : Nat, In64 ((xs[i]?.getD dE).set[j]?.getD 0) := h.num i
theorem els_core {base g cap i : Nat} {w' : World} {v : Value} {t : List El} {x' : El} {s' : Value} {sv : Nat → Value} (hn : Nice t) (hv : v = .slice (some ⟨g, 0, none⟩) t.length cap) (hc : t.length ≤ cap ∧ cap ≤ maxLen) (hg : base ≤ g) (hg2 : g < w'.heap.size)
    (hoth : ∀ j : Nat, j < t.length → j ≠ i → El4 w' g (j * 4) (t[j]?.getD dE) (sv j) ∧ IntsAt base w'.heap.size w' (sv j) (t[j]?.getD dE).set) (h4 : El4 w' g (i * 4) x' s') (hx : In64 x'.kind ∧ In64 x'.mn ∧ In64 x'.mx) (hs : IntsAt base w'.heap.size w' s' x'.set) : ElsAt base w'.heap.size w' v (putE t i x') := by
  have hl : (putE t i x').length = t.length := by simp [putE]
  refine ⟨some ⟨g, 0, none⟩, cap, by rw [hl]; exact hv, by rw [hl]; exact hc, fun _ => ⟨g, 0, rfl, hg, hg2, fun j hj => ?_⟩⟩
  rw [hl] at hj
  rw [Nat.zero_add]
  by_cases e : j = i
  · subst e
    have ee : (putE t j x')[j]?.getD dE = x' := by unfold putE; rw [List.getElem?_set_self hj]; rfl
    rw [ee]
    obtain ⟨q0, q1, q2, q3⟩ := h4
    exact ⟨hx.1, hx.2.1, hx.2.2, s', q0, q1, q2, q3, hs⟩
  · have ee : (putE t i x')[j]?.getD dE = t[j]?.getD dE := by unfold putE; rw [List.getElem?_set_ne (fun q => e q.symm)]
    rw [ee]
    obtain ⟨⟨q0, q1, q2, q3⟩, hi2⟩ := hoth j hj e
    have := hn.at j
    exact ⟨this.1, this.2.1, this.2.2.1, sv j, q0, q1, q2, q3, hi2⟩
structure SpAt (base i : Nat) (w : World) (v : Value) (t : List El) (g cap : Nat) (s : Value) : Prop where
  val : v = .slice (some ⟨g, 0, none⟩) t.length cap
  cap : t.length ≤ cap ∧ cap ≤ maxLen
  lo : base ≤ g
  hi : g < w.heap.size
  free : Free w g
  typ : ∃ c t', w.heap[g]? = some (.cells c t' (0, 0)) ∧ t' ≠ 3
  el : El4 w g (i * 4) (t[i]?.getD dE) s
  own : w.ownsRow base 3 1 s (t[i]?.getD dE).set.length ((t[i]?.getD dE).set.map mI)
  ne : s.ownBlock ≠ some g
  put : ∀ (W : World) (x' : El) (s' u : Value) (c : Nat), c < 4 → w.grownBy W s.ownBlock → El4 (W.setCell ⟨g, i * 4 + c, none⟩ u) g (i * 4) x' s' → In64 x'.kind ∧ In64 x'.mn ∧ In64 x'.mx → IntsAt base W.heap.size (W.setCell ⟨g, i * 4 + c, none⟩ u) s' x'.set → ElsAt base (W.setCell ⟨g, i * 4 + c, none⟩ u).heap.size (W.setCell ⟨g, i * 4 + c, none⟩ u) v (putE t i x')
theorem GrowO.at {base i : Nat} {w : World} {v : Value} {t : List El} (h : GrowO base w v t) (hn : Nice t) (hi : i < t.length) : ∃ g cap s, SpAt base i w v t g cap s := by
  obtain ⟨ps, rfl, h1, h2⟩ := h
  rw [List.length_map] at hi
  have hlen : (ps.map Pc.x).length = ps.length := List.length_map ..
  rcases h1.own.2 with ⟨rfl, hz⟩ | ⟨g, cap, cur, rfl, hbg, hgc, hnc, hcm, hcs, htake⟩
  · omega
  have hlt := (h1.own.lt g rfl).2
  have hel : ∀ j (hj : j < ps.length), El4 w g (j * 4) ps[j].x ps[j].s := fun j hj => by
    have hp : ps[j]? = some ps[j] := List.getElem?_eq_getElem hj
    have hc : ∀ c, c < 4 → w.cell? ⟨g, j * 4 + c, none⟩ = (cell4 ps[j].x ps[j].s)[c]? := fun c hc => by
      rw [h1.own.cellAt (j * 4 + c) (by omega)]; exact cellsP_get ps j _ hp c hc
    exact ⟨hc 0 (by omega), hc 1 (by omega), hc 2 (by omega), hc 3 (by omega)⟩
  have hx : ∀ j (hj : j < ps.length), (ps.map Pc.x)[j]?.getD dE = ps[j].x := fun j hj => by rw [List.getElem?_map, List.getElem?_eq_getElem hj]; rfl
  have hm : ∀ j (hj : j < ps.length), ps[j] ∈ ps := fun j hj => List.getElem_mem hj
  have hneg : ∀ j (hj : j < ps.length), ps[j].s.ownBlock ≠ some g := fun j hj e => (h1.blk _ (hm j hj) g ((h2 _ (hm j hj)).2 g e)).2.2 rfl
  refine ⟨g, cap, ps[i].s, by rw [hlen], by rw [hlen]; exact ⟨hnc, hcm⟩, hbg, hlt, ⟨cur, _, hgc⟩, ⟨cur, _, hgc, by decide⟩, by rw [hx i hi]; exact hel i hi, by rw [hx i hi]; exact (h2 _ (hm i hi)).1, hneg i hi, ?_⟩
  intro W x' s' u c hc hg h4 h64 hs
  have hgW : W.heap[g]? = w.heap[g]? := hg.block g hlt (fun e => hneg i hi e.symm)
  have hz : (W.setCell ⟨g, i * 4 + c, none⟩ u).heap.size = W.heap.size := sz_put _ _ _
  have hzw := hg.size
  rw [hz]
  have key := els_core (base := base) (g := g) (cap := cap) (i := i) (w' := W.setCell ⟨g, i * 4 + c, none⟩ u) (v := .slice (some ⟨g, 0, none⟩) ps.length cap) (t := ps.map Pc.x) (x' := x') (s' := s') (sv := fun j => (ps[j]?.map Pc.s).getD undef) hn (by rw [hlen]) (by rw [hlen]; exact ⟨hnc, hcm⟩) hbg (by rw [hz]; omega) (fun j hj hne => ?_) h4 h64 (by rw [hz]; exact hs)
  · rw [hz] at key; exact key
  · rw [hlen] at hj
    have e1 : (ps[j]?.map Pc.s).getD undef = ps[j].s := by rw [List.getElem?_eq_getElem hj]; rfl
    simp only [e1]
    rw [hx j hj, hz]
    refine ⟨((hel j hj).same hgW).put (by omega), ?_⟩
    have ho : w.ownsRow base 3 1 ps[j].s ps[j].x.set.length (ps[j].x.set.map mI) := (h2 _ (hm j hj)).1
    have hap : ∀ k, ps[j].s.ownBlock = some k → ps[i].s.ownBlock ≠ some k := fun k e1 e2 => by
      have q1 := (h2 _ (hm j hj)).2 k e1
      have q2 := (h2 _ (hm i hi)).2 k e2
      rcases Nat.lt_or_gt_of_ne hne with hl | hl
      · exact List.pairwise_iff_getElem.1 h1.dis j i hj hi hl k q1 q2
      · exact List.pairwise_iff_getElem.1 h1.dis i j hi hj hl k q2 q1
    have ho2 : W.ownsRow base 3 1 ps[j].s ps[j].x.set.length (ps[j].x.set.map mI) := ho.kept hg (by
      cases hk : ps[j].s.ownBlock with
      | none => exact .inl rfl
      | some k => exact .inr (fun e => hap k hk e.symm))
    have ho3 : (W.setCell ⟨g, i * 4 + c, none⟩ u).ownsRow base 3 1 ps[j].s ps[j].x.set.length (ps[j].x.set.map mI) := ho2.kept (row := some g) ⟨rfl, rfl, rfl, Nat.le_of_eq (sz_put _ _ _).symm, fun k _ hk => Below.heap_setCell _ _ _ _ (by show k ≠ g; exact fun e => hk (by rw [e]))⟩ (by
      cases hk : ps[j].s.ownBlock with
      | none => exact .inl rfl
      | some k => exact .inr (by rw [← hk]; exact hneg j hj))
    have hl5 : ps[j].x.set.length ≤ 1048576 := by have := hn.len j; rw [hx j hj] at this; exact this
    have h5 := (own_slw ho3 (Nat.le_refl _) (by unfold maxLen; omega)).ints (fun q => by have := (hn.at j).2.2.2 q; rw [hx j hj] at this; exact this)
    rw [hz] at h5
    exact h5
theorem put_grown (w : World) (g o : Nat) (u : Value) : w.grownBy (w.setCell ⟨g, o, none⟩ u) (some g) := ⟨rfl, rfl, rfl, Nat.le_of_eq (sz_put _ _ _).symm, fun k _ hk => Below.heap_setCell _ _ _ _ (by show k ≠ g; exact fun e => hk (by rw [e]))⟩
theorem El4.putS {w : World} {b o : Nat} {x : El} {sv : Value} (h : El4 w b o x sv) (cs : List Int) (u : Value) : El4 (w.setCell ⟨b, o + 1, none⟩ u) b o ⟨x.kind, cs, x.mn, x.mx⟩ u := by
  obtain ⟨h0, h1, h2, h3⟩ := h
  exact ⟨by rw [put_other (Or.inr (by omega))]; exact h0, put_same h1, by rw [put_other (Or.inr (by omega))]; exact h2, by rw [put_other (Or.inr (by omega))]; exact h3⟩
theorem ints_4 (w : World) {a b c d : Int} (ha : In64 a) (hb : In64 b) (hc : In64 c) (hd : In64 d) : IntsAt w.heap.size (w.alloc (.cells #[.int .i64 a, .int .i64 b, .int .i64 c, .int .i64 d] 3)).heap.size (w.alloc (.cells #[.int .i64 a, .int .i64 b, .int .i64 c, .int .i64 d] 3)) (.slice (some ⟨w.heap.size, 0, none⟩) 4 4) [a, b, c, d] := by
  refine ⟨_, 4, rfl, by unfold maxLen; simp, fun i => ?_, fun _ => ⟨w.heap.size, 0, rfl, Nat.le_refl _, by rw [sz_alloc]; exact Nat.lt_succ_self _, fun i hi => ?_⟩⟩
  · match i with
    | 0 => exact ha
    | 1 => exact hb
    | 2 => exact hc
    | 3 => exact hd
    | i + 4 => simp [In64]
  · have hi' : i < 4 := hi
    match i, hi' with
    | 0, _ => exact (pushd_alloc w _).news 0 _ rfl
    | 1, _ => exact (pushd_alloc w _).news 1 _ rfl
    | 2, _ => exact (pushd_alloc w _).news 2 _ rfl
    | 3, _ => exact (pushd_alloc w _).news 3 _ rfl
theorem SpAt.keepS {base i g cap : Nat} {w : World} {v s : Value} {t : List El} (h : SpAt base i w v t g cap s) (hn : Nice t) (o : Nat) (u : Value) : IntsAt base w.heap.size (w.setCell ⟨g, o, none⟩ u) s (t[i]?.getD dE).set := by
  have ho3 : (w.setCell ⟨g, o, none⟩ u).ownsRow base 3 1 s (t[i]?.getD dE).set.length ((t[i]?.getD dE).set.map mI) := h.own.kept (row := some g) (put_grown _ _ _ _) (.inr h.ne)
  have hl5 := hn.len i
  have h5 := (own_slw ho3 (Nat.le_refl _) (by unfold maxLen; omega)).ints (hn.at i).2.2.2
  rw [sz_put] at h5
  exact h5
theorem SpAt.nofz {base i g cap : Nat} {w : World} {v s : Value} {t : List El} (h : SpAt base i w v t g cap s) (o : Nat) : w.frozen? ⟨g, o, none⟩ = false := by
  obtain ⟨c, ty, hc⟩ := h.free
  simp [World.frozen?, hc]
theorem grown_refl (w : World) (r : Option Nat) : w.grownBy w r := ⟨rfl, rfl, rfl, Nat.le_refl _, fun _ _ _ => rfl⟩
theorem GrowO.e {base : Nat} {w : World} {v : Value} {xs : List El} (h : GrowO base w v xs) : GrowE base w v xs := by
  obtain ⟨ps, e, h1, -⟩ := h
  exact ⟨ps, e, h1⟩
set_option maxHeartbeats 16000000 in
set_option maxRecDepth 100000 in
theorem l1spoil_0 (N D lo : Nat) (tv : Value) (t : List El) (xs : List Int) (w : World) (h : CdAt N D w xs) (hx : Cod xs) (hD : D < lo) (hlo : lo ≤ w.heap.size) (htv : ElsAt lo w.heap.size w tv t) (hn : NL 700 t) (ht : 0 < t.length) (hk : xs.headD 0 % 12 = 0) :
    Calls Tryz.prog 36 #[tv, .pointer (some ⟨D, 0, none⟩)] w (DrE N D w.heap.size w (dSpoil t xs)) := by
  have H := hide h
  have HX := hide hx
  have hh := hx.head
  have hh2 := hx.tail.head
  have hh3 := hx.tail.tail.head
  have hl := hn.len
  have HN := hide hn.nice
  have HTV := hide htv
  obtain ⟨ta, tc, rfl, -⟩ := htv
  obtain ⟨y, hy⟩ : ∃ y, xs.headD 0 = y := ⟨_, rfl⟩
  obtain ⟨y2, hy2⟩ : ∃ y, xs.tail.headD 0 = y := ⟨_, rfl⟩
  obtain ⟨y3, hy3⟩ : ∃ y, xs.tail.tail.headD 0 = y := ⟨_, rfl⟩
  rw [hy] at hh hk
  rw [hy2] at hh2
  rw [hy3] at hh3
  obtain ⟨i, hi⟩ : ∃ i : Nat, (y2 % (t.length : Int)).toNat = i := ⟨_, rfl⟩
  have hm0 := Int.emod_nonneg y2 (show (t.length : Int) ≠ 0 by omega)
  have hm1 := Int.emod_lt_of_pos y2 (show (0 : Int) < t.length by omega)
  have hi2 : y2 % (t.length : Int) = (i : Int) := by omega
  have hil : i < t.length := by omega
  obtain ⟨R, hR⟩ : ∃ R, R = dSpoil t xs := ⟨_, rfl⟩
  rw [← hR]
  have HRR : Hid (R = (putE t i ⟨5, (t[i]?.getD dE).set, (t[i]?.getD dE).mn, (t[i]?.getD dE).mx⟩, xs.tail.tail)) := by
    show R = _
    rw [hR]
    unfold dSpoil
    rw [hy, hy2, hy3, hi]
    refine Prod.ext ?_ ?_
    · show spT t (y % 12) y3 i = _
      unfold spT
      rw [if_pos (by omega)]
      unfold spE
      rw [if_pos hk]
    · show (if y % 12 = 2 then _ else _) = _
      rw [if_neg (by omega)]
  have HY := hide hy
  have HY2 := hide hy2
  have HY3 := hide hy3
  have hlz : ¬ (t.length : Int) = 0 := by omega
  clear hy hy2 hy3 h hx hR hi hn hm0 hm1
  go_enter Tryz.func36, Tryz.ntmps36
  go_wp2_with fail
  refine (l1copy_o _ t w ((unhide HTV).mono (Nat.zero_le _) (Nat.le_refl _)) (by omega) (unhide HN).len).mono ?_
  rintro e w1 ⟨v1, rfl, hg1, hb1⟩
  obtain ⟨g, cp, s1, hsp1⟩ := hg1.at (unhide HN) hil
  have e1 := hsp1.val
  subst e1
  have HG1 := hide hg1
  have hz1 := hb1.size
  have HC1 := hide ((unhide H).keep hb1 (by omega))
  have HM1 := hide (Below.mv hb1 D)
  clear hg1 hb1 hsp1
  go_wp2_with fail
  refine (next_any N D xs w1 (unhide HC1) (unhide HX)).mono ?_
  rintro e w2 ⟨he, hc2, ho2⟩
  rw [unhide HY] at he
  subst he
  go_wp2_with fail
  refine (next_any N D xs.tail w2 hc2 (unhide HX).tail).mono ?_
  rintro e w3 ⟨he, hc3, ho3⟩
  rw [unhide HY2] at he
  subst he
  have hz2 : w2.heap.size = w1.heap.size := ho2.size
  have hz3 : w3.heap.size = w2.heap.size := ho3.size
  have HC3 := hide hc3
  have hM3 := (ho2.mv w1.heap.size).trans (ho3.mv w1.heap.size)
  have HM3 := hide ((unhide HM1).trans (hM3.mono (by omega)))
  have HG3 := hide ((unhide HG1).mv hM3 (Nat.le_refl _) (by omega))
  have hz9 : w.heap.size ≤ w3.heap.size := by omega
  clear hc2 hc3 ho2 ho3 hM3 HG1 HC1 hz1 hz2 hz3
  obtain ⟨g2, cp2, s2, hsp⟩ := (unhide HG3).at (unhide HN) hil
  have e2 := hsp.val
  simp only [Value.slice.injEq, Option.some.injEq, Addr.mk.injEq, and_true, true_and] at e2
  obtain ⟨rfl, rfl⟩ := e2
  have HSP := hide hsp
  have hlo2 := hsp.lo
  have hhi2 := hsp.hi
  obtain ⟨q0, q1, q2, q3⟩ := hsp.el
  have hcap := hsp.cap
  unfold maxLen at hcap
  have z0 := hsp.nofz (i * 4)
  have z1 := hsp.nofz (i * 4 + 1)
  have z2 := hsp.nofz (i * 4 + 2)
  have z3 := hsp.nofz (i * 4 + 3)
  have h64 := (unhide HN).at i
  have HI := hide (Nice.at (unhide HN) i)
  clear hsp
  clear h64
  go_wp2
  go_ret
  have e9 := unhide HRR
  subst e9
  refine ⟨⟨_, rfl, ?_⟩, (unhide HC3).keep (bput (Below.refl w.heap.size w3) (by omega) _) (by omega), (unhide HM3).trans (Below.mv (bput (Below.refl w.heap.size w3) (by omega) _) D)⟩
  exact ((unhide HSP).put w3 _ s2 _ 0 (by omega) (grown_refl _ _) ((unhide HSP).el.putK 5) ⟨by simp [In64], (unhide HI).2.1, (unhide HI).2.2.1⟩ ((unhide HSP).keepS (unhide HN) _ _)).mono (Nat.le_refl _) (Nat.le_refl _)
set_option maxHeartbeats 16000000 in
set_option maxRecDepth 100000 in
theorem l1spoil_1 (N D lo : Nat) (tv : Value) (t : List El) (xs : List Int) (w : World) (h : CdAt N D w xs) (hx : Cod xs) (hD : D < lo) (hlo : lo ≤ w.heap.size) (htv : ElsAt lo w.heap.size w tv t) (hn : NL 700 t) (ht : 0 < t.length) (hk : xs.headD 0 % 12 = 1) :
    Calls Tryz.prog 36 #[tv, .pointer (some ⟨D, 0, none⟩)] w (DrE N D w.heap.size w (dSpoil t xs)) := by
  have H := hide h
  have HX := hide hx
  have hh := hx.head
  have hh2 := hx.tail.head
  have hh3 := hx.tail.tail.head
  have hl := hn.len
  have HN := hide hn.nice
  have HTV := hide htv
  obtain ⟨ta, tc, rfl, -⟩ := htv
  obtain ⟨y, hy⟩ : ∃ y, xs.headD 0 = y := ⟨_, rfl⟩
  obtain ⟨y2, hy2⟩ : ∃ y, xs.tail.headD 0 = y := ⟨_, rfl⟩
  obtain ⟨y3, hy3⟩ : ∃ y, xs.tail.tail.headD 0 = y := ⟨_, rfl⟩
  rw [hy] at hh hk
  rw [hy2] at hh2
  rw [hy3] at hh3
  obtain ⟨i, hi⟩ : ∃ i : Nat, (y2 % (t.length : Int)).toNat = i := ⟨_, rfl⟩
  have hm0 := Int.emod_nonneg y2 (show (t.length : Int) ≠ 0 by omega)
  have hm1 := Int.emod_lt_of_pos y2 (show (0 : Int) < t.length by omega)
  have hi2 : y2 % (t.length : Int) = (i : Int) := by omega
  have hil : i < t.length := by omega
  obtain ⟨R, hR⟩ : ∃ R, R = dSpoil t xs := ⟨_, rfl⟩
  rw [← hR]
  have HRR : Hid (R = (putE t i ⟨-1, (t[i]?.getD dE).set, (t[i]?.getD dE).mn, (t[i]?.getD dE).mx⟩, xs.tail.tail)) := by
    show R = _
    rw [hR]
    unfold dSpoil
    rw [hy, hy2, hy3, hi]
    refine Prod.ext ?_ ?_
    · show spT t (y % 12) y3 i = _
      unfold spT
      rw [if_pos (by omega)]
      unfold spE
      rw [if_neg (by omega), if_pos hk]
    · show (if y % 12 = 2 then _ else _) = _
      rw [if_neg (by omega)]
  have HY := hide hy
  have HY2 := hide hy2
  have HY3 := hide hy3
  have n0 : ¬ y % 12 = 0 := by omega
  have hlz : ¬ (t.length : Int) = 0 := by omega
  clear hy hy2 hy3 h hx hR hi hn hm0 hm1
  go_enter Tryz.func36, Tryz.ntmps36
  go_wp2_with fail
  refine (l1copy_o _ t w ((unhide HTV).mono (Nat.zero_le _) (Nat.le_refl _)) (by omega) (unhide HN).len).mono ?_
  rintro e w1 ⟨v1, rfl, hg1, hb1⟩
  obtain ⟨g, cp, s1, hsp1⟩ := hg1.at (unhide HN) hil
  have e1 := hsp1.val
  subst e1
  have HG1 := hide hg1
  have hz1 := hb1.size
  have HC1 := hide ((unhide H).keep hb1 (by omega))
  have HM1 := hide (Below.mv hb1 D)
  clear hg1 hb1 hsp1
  go_wp2_with fail
  refine (next_any N D xs w1 (unhide HC1) (unhide HX)).mono ?_
  rintro e w2 ⟨he, hc2, ho2⟩
  rw [unhide HY] at he
  subst he
  go_wp2_with fail
  refine (next_any N D xs.tail w2 hc2 (unhide HX).tail).mono ?_
  rintro e w3 ⟨he, hc3, ho3⟩
  rw [unhide HY2] at he
  subst he
  have hz2 : w2.heap.size = w1.heap.size := ho2.size
  have hz3 : w3.heap.size = w2.heap.size := ho3.size
  have HC3 := hide hc3
  have hM3 := (ho2.mv w1.heap.size).trans (ho3.mv w1.heap.size)
  have HM3 := hide ((unhide HM1).trans (hM3.mono (by omega)))
  have HG3 := hide ((unhide HG1).mv hM3 (Nat.le_refl _) (by omega))
  have hz9 : w.heap.size ≤ w3.heap.size := by omega
  clear hc2 hc3 ho2 ho3 hM3 HG1 HC1 hz1 hz2 hz3
  obtain ⟨g2, cp2, s2, hsp⟩ := (unhide HG3).at (unhide HN) hil
  have e2 := hsp.val
  simp only [Value.slice.injEq, Option.some.injEq, Addr.mk.injEq, and_true, true_and] at e2
  obtain ⟨rfl, rfl⟩ := e2
  have HSP := hide hsp
  have hlo2 := hsp.lo
  have hhi2 := hsp.hi
  obtain ⟨q0, q1, q2, q3⟩ := hsp.el
  have hcap := hsp.cap
  unfold maxLen at hcap
  have z0 := hsp.nofz (i * 4)
  have z1 := hsp.nofz (i * 4 + 1)
  have z2 := hsp.nofz (i * 4 + 2)
  have z3 := hsp.nofz (i * 4 + 3)
  have h64 := (unhide HN).at i
  have HI := hide (Nice.at (unhide HN) i)
  clear hsp
  clear h64
  go_wp2
  go_ret
  have e9 := unhide HRR
  subst e9
  refine ⟨⟨_, rfl, ?_⟩, (unhide HC3).keep (bput (Below.refl w.heap.size w3) (by omega) _) (by omega), (unhide HM3).trans (Below.mv (bput (Below.refl w.heap.size w3) (by omega) _) D)⟩
  exact ((unhide HSP).put w3 _ s2 _ 0 (by omega) (grown_refl _ _) ((unhide HSP).el.putK (-1)) ⟨by simp [In64], (unhide HI).2.1, (unhide HI).2.2.1⟩ ((unhide HSP).keepS (unhide HN) _ _)).mono (Nat.le_refl _) (Nat.le_refl _)
set_option maxHeartbeats 16000000 in
set_option maxRecDepth 100000 in
theorem l1spoil_2 (N D lo : Nat) (tv : Value) (t : List El) (xs : List Int) (w : World) (h : CdAt N D w xs) (hx : Cod xs) (hD : D < lo) (hlo : lo ≤ w.heap.size) (htv : ElsAt lo w.heap.size w tv t) (hn : NL 700 t) (ht : 0 < t.length) (hk : xs.headD 0 % 12 = 2) :
    Calls Tryz.prog 36 #[tv, .pointer (some ⟨D, 0, none⟩)] w (DrE N D w.heap.size w (dSpoil t xs)) := by
  have H := hide h
  have HX := hide hx
  have hh := hx.head
  have hh2 := hx.tail.head
  have hh3 := hx.tail.tail.head
  have hl := hn.len
  have HN := hide hn.nice
  have HTV := hide htv
  obtain ⟨ta, tc, rfl, -⟩ := htv
  obtain ⟨y, hy⟩ : ∃ y, xs.headD 0 = y := ⟨_, rfl⟩
  obtain ⟨y2, hy2⟩ : ∃ y, xs.tail.headD 0 = y := ⟨_, rfl⟩
  obtain ⟨y3, hy3⟩ : ∃ y, xs.tail.tail.headD 0 = y := ⟨_, rfl⟩
  rw [hy] at hh hk
  rw [hy2] at hh2
  rw [hy3] at hh3
  obtain ⟨i, hi⟩ : ∃ i : Nat, (y2 % (t.length : Int)).toNat = i := ⟨_, rfl⟩
  have hm0 := Int.emod_nonneg y2 (show (t.length : Int) ≠ 0 by omega)
  have hm1 := Int.emod_lt_of_pos y2 (show (0 : Int) < t.length by omega)
  have hi2 : y2 % (t.length : Int) = (i : Int) := by omega
  have hil : i < t.length := by omega
  obtain ⟨R, hR⟩ : ∃ R, R = dSpoil t xs := ⟨_, rfl⟩
  rw [← hR]
  have HRR : Hid (R = (putE t i ⟨y3 % 5, (t[i]?.getD dE).set, (t[i]?.getD dE).mn, (t[i]?.getD dE).mx⟩, xs.tail.tail.tail)) := by
    show R = _
    rw [hR]
    unfold dSpoil
    rw [hy, hy2, hy3, hi]
    refine Prod.ext ?_ ?_
    · show spT t (y % 12) y3 i = _
      unfold spT
      rw [if_pos (by omega)]
      unfold spE
      rw [if_neg (by omega), if_neg (by omega), if_pos hk]
    · show (if y % 12 = 2 then _ else _) = _
      rw [if_pos hk]
  have HY := hide hy
  have HY2 := hide hy2
  have HY3 := hide hy3
  have n0 : ¬ y % 12 = 0 := by omega
  have n1 : ¬ y % 12 = 1 := by omega
  have hlz : ¬ (t.length : Int) = 0 := by omega
  clear hy hy2 hy3 h hx hR hi hn hm0 hm1
  go_enter Tryz.func36, Tryz.ntmps36
  go_wp2_with fail
  refine (l1copy_o _ t w ((unhide HTV).mono (Nat.zero_le _) (Nat.le_refl _)) (by omega) (unhide HN).len).mono ?_
  rintro e w1 ⟨v1, rfl, hg1, hb1⟩
  obtain ⟨g, cp, s1, hsp1⟩ := hg1.at (unhide HN) hil
  have e1 := hsp1.val
  subst e1
  have HG1 := hide hg1
  have hz1 := hb1.size
  have HC1 := hide ((unhide H).keep hb1 (by omega))
  have HM1 := hide (Below.mv hb1 D)
  clear hg1 hb1 hsp1
  go_wp2_with fail
  refine (next_any N D xs w1 (unhide HC1) (unhide HX)).mono ?_
  rintro e w2 ⟨he, hc2, ho2⟩
  rw [unhide HY] at he
  subst he
  go_wp2_with fail
  refine (next_any N D xs.tail w2 hc2 (unhide HX).tail).mono ?_
  rintro e w3 ⟨he, hc3, ho3⟩
  rw [unhide HY2] at he
  subst he
  have hz2 : w2.heap.size = w1.heap.size := ho2.size
  have hz3 : w3.heap.size = w2.heap.size := ho3.size
  have HC3 := hide hc3
  have hM3 := (ho2.mv w1.heap.size).trans (ho3.mv w1.heap.size)
  have HM3 := hide ((unhide HM1).trans (hM3.mono (by omega)))
  have HG3 := hide ((unhide HG1).mv hM3 (Nat.le_refl _) (by omega))
  have hz9 : w.heap.size ≤ w3.heap.size := by omega
  clear hc2 hc3 ho2 ho3 hM3 HG1 HC1 hz1 hz2 hz3
  obtain ⟨g2, cp2, s2, hsp⟩ := (unhide HG3).at (unhide HN) hil
  have e2 := hsp.val
  simp only [Value.slice.injEq, Option.some.injEq, Addr.mk.injEq, and_true, true_and] at e2
  obtain ⟨rfl, rfl⟩ := e2
  have HSP := hide hsp
  have hlo2 := hsp.lo
  have hhi2 := hsp.hi
  obtain ⟨q0, q1, q2, q3⟩ := hsp.el
  have hcap := hsp.cap
  unfold maxLen at hcap
  have z0 := hsp.nofz (i * 4)
  have z1 := hsp.nofz (i * 4 + 1)
  have z2 := hsp.nofz (i * 4 + 2)
  have z3 := hsp.nofz (i * 4 + 3)
  have h64 := (unhide HN).at i
  have HI := hide (Nice.at (unhide HN) i)
  clear hsp
  clear h64 q0 q1 q2 q3 z0 z1 z2 z3
  go_wp2_with fail
  refine (next_any N D xs.tail.tail w3 (unhide HC3) (unhide HX).tail.tail).mono ?_
  rintro e w4 ⟨he, hc4, ho4⟩
  rw [unhide HY3] at he
  subst he
  have hz4 : w4.heap.size = w3.heap.size := ho4.size
  have HC4 := hide hc4
  have HM4 := hide ((unhide HM3).trans (ho4.mv _))
  have HG4 := hide ((unhide HG3).mv (ho4.mv w3.heap.size) (Nat.le_refl _) (by omega))
  clear hc4 ho4 HSP
  obtain ⟨g3, cp3, s3, hsp⟩ := (unhide HG4).at (unhide HN) hil
  have e3 := hsp.val
  simp only [Value.slice.injEq, Option.some.injEq, Addr.mk.injEq, and_true, true_and] at e3
  obtain ⟨rfl, rfl⟩ := e3
  have HSP := hide hsp
  have hlo3 := hsp.lo
  obtain ⟨q0, q1, q2, q3⟩ := hsp.el
  have z0 := hsp.nofz (i * 4)
  have hy5 : In64 (y3 % 5) := by unfold In64; omega
  clear hsp
  go_wp2
  go_ret
  have e9 := unhide HRR
  subst e9
  refine ⟨⟨_, rfl, ?_⟩, (unhide HC4).keep (bput (Below.refl w.heap.size w4) (by omega) _) (by omega), (unhide HM4).trans (Below.mv (bput (Below.refl w.heap.size w4) (by omega) _) D)⟩
  exact ((unhide HSP).put w4 _ s3 _ 0 (by omega) (grown_refl _ _) ((unhide HSP).el.putK _) ⟨hy5, (unhide HI).2.1, (unhide HI).2.2.1⟩ ((unhide HSP).keepS (unhide HN) _ _)).mono (Nat.le_refl _) (Nat.le_refl _)
set_option maxHeartbeats 16000000 in
set_option maxRecDepth 100000 in
theorem l1spoil_3 (N D lo : Nat) (tv : Value) (t : List El) (xs : List Int) (w : World) (h : CdAt N D w xs) (hx : Cod xs) (hD : D < lo) (hlo : lo ≤ w.heap.size) (htv : ElsAt lo w.heap.size w tv t) (hn : NL 700 t) (ht : 0 < t.length) (hk : xs.headD 0 % 12 = 3) :
    Calls Tryz.prog 36 #[tv, .pointer (some ⟨D, 0, none⟩)] w (DrE N D w.heap.size w (dSpoil t xs)) := by
  have H := hide h
  have HX := hide hx
  have hh := hx.head
  have hh2 := hx.tail.head
  have hh3 := hx.tail.tail.head
  have hl := hn.len
  have HN := hide hn.nice
  have HTV := hide htv
  obtain ⟨ta, tc, rfl, -⟩ := htv
  obtain ⟨y, hy⟩ : ∃ y, xs.headD 0 = y := ⟨_, rfl⟩
  obtain ⟨y2, hy2⟩ : ∃ y, xs.tail.headD 0 = y := ⟨_, rfl⟩
  obtain ⟨y3, hy3⟩ : ∃ y, xs.tail.tail.headD 0 = y := ⟨_, rfl⟩
  rw [hy] at hh hk
  rw [hy2] at hh2
  rw [hy3] at hh3
  obtain ⟨i, hi⟩ : ∃ i : Nat, (y2 % (t.length : Int)).toNat = i := ⟨_, rfl⟩
  have hm0 := Int.emod_nonneg y2 (show (t.length : Int) ≠ 0 by omega)
  have hm1 := Int.emod_lt_of_pos y2 (show (0 : Int) < t.length by omega)
  have hi2 : y2 % (t.length : Int) = (i : Int) := by omega
  have hil : i < t.length := by omega
  obtain ⟨R, hR⟩ : ∃ R, R = dSpoil t xs := ⟨_, rfl⟩
  rw [← hR]
  have HRR : Hid (R = (putE t i ⟨(t[i]?.getD dE).kind, (t[i]?.getD dE).set, wrap64 ((t[i]?.getD dE).mn + 1), (t[i]?.getD dE).mx⟩, xs.tail.tail)) := by
    show R = _
    rw [hR]
    unfold dSpoil
    rw [hy, hy2, hy3, hi]
    refine Prod.ext ?_ ?_
    · show spT t (y % 12) y3 i = _
      unfold spT
      rw [if_pos (by omega)]
      unfold spE
      rw [if_neg (by omega), if_neg (by omega), if_neg (by omega), if_pos hk]
    · show (if y % 12 = 2 then _ else _) = _
      rw [if_neg (by omega)]
  have HY := hide hy
  have HY2 := hide hy2
  have HY3 := hide hy3
  have n0 : ¬ y % 12 = 0 := by omega
  have n1 : ¬ y % 12 = 1 := by omega
  have n2 : ¬ y % 12 = 2 := by omega
  have hlz : ¬ (t.length : Int) = 0 := by omega
  clear hy hy2 hy3 h hx hR hi hn hm0 hm1
  go_enter Tryz.func36, Tryz.ntmps36
  go_wp2_with fail
  refine (l1copy_o _ t w ((unhide HTV).mono (Nat.zero_le _) (Nat.le_refl _)) (by omega) (unhide HN).len).mono ?_
  rintro e w1 ⟨v1, rfl, hg1, hb1⟩
  obtain ⟨g, cp, s1, hsp1⟩ := hg1.at (unhide HN) hil
  have e1 := hsp1.val
  subst e1
  have HG1 := hide hg1
  have hz1 := hb1.size
  have HC1 := hide ((unhide H).keep hb1 (by omega))
  have HM1 := hide (Below.mv hb1 D)
  clear hg1 hb1 hsp1
  go_wp2_with fail
  refine (next_any N D xs w1 (unhide HC1) (unhide HX)).mono ?_
  rintro e w2 ⟨he, hc2, ho2⟩
  rw [unhide HY] at he
  subst he
  go_wp2_with fail
  refine (next_any N D xs.tail w2 hc2 (unhide HX).tail).mono ?_
  rintro e w3 ⟨he, hc3, ho3⟩
  rw [unhide HY2] at he
  subst he
  have hz2 : w2.heap.size = w1.heap.size := ho2.size
  have hz3 : w3.heap.size = w2.heap.size := ho3.size
  have HC3 := hide hc3
  have hM3 := (ho2.mv w1.heap.size).trans (ho3.mv w1.heap.size)
  have HM3 := hide ((unhide HM1).trans (hM3.mono (by omega)))
  have HG3 := hide ((unhide HG1).mv hM3 (Nat.le_refl _) (by omega))
  have hz9 : w.heap.size ≤ w3.heap.size := by omega
  clear hc2 hc3 ho2 ho3 hM3 HG1 HC1 hz1 hz2 hz3
  obtain ⟨g2, cp2, s2, hsp⟩ := (unhide HG3).at (unhide HN) hil
  have e2 := hsp.val
  simp only [Value.slice.injEq, Option.some.injEq, Addr.mk.injEq, and_true, true_and] at e2
  obtain ⟨rfl, rfl⟩ := e2
  have HSP := hide hsp
  have hlo2 := hsp.lo
  have hhi2 := hsp.hi
  obtain ⟨q0, q1, q2, q3⟩ := hsp.el
  have hcap := hsp.cap
  unfold maxLen at hcap
  have z0 := hsp.nofz (i * 4)
  have z1 := hsp.nofz (i * 4 + 1)
  have z2 := hsp.nofz (i * 4 + 2)
  have z3 := hsp.nofz (i * 4 + 3)
  have h64 := (unhide HN).at i
  have HI := hide (Nice.at (unhide HN) i)
  clear hsp
  obtain ⟨mq, hmq⟩ : ∃ m, (t[i]?.getD dE).mn = m := ⟨_, rfl⟩
  have HMQ := hide hmq
  rw [hmq] at q2
  clear h64 hmq
  go_wp2
  go_ret
  have e9 := unhide HRR
  rw [unhide HMQ] at e9
  subst e9
  refine ⟨⟨_, rfl, ?_⟩, (unhide HC3).keep (bput (Below.refl w.heap.size w3) (by omega) _) (by omega), (unhide HM3).trans (Below.mv (bput (Below.refl w.heap.size w3) (by omega) _) D)⟩
  exact ((unhide HSP).put w3 ⟨(t[i]?.getD dE).kind, (t[i]?.getD dE).set, wrap64 (mq + 1), (t[i]?.getD dE).mx⟩ s2 (.int .i64 (wrap64 (mq + 1))) 2 (by omega) (grown_refl _ _) ((unhide HSP).el.putM _) ⟨(unhide HI).1, wrap_in _, (unhide HI).2.2.1⟩ ((unhide HSP).keepS (unhide HN) _ _)).mono (Nat.le_refl _) (Nat.le_refl _)
set_option maxHeartbeats 16000000 in
set_option maxRecDepth 100000 in
theorem l1spoil_4 (N D lo : Nat) (tv : Value) (t : List El) (xs : List Int) (w : World) (h : CdAt N D w xs) (hx : Cod xs) (hD : D < lo) (hlo : lo ≤ w.heap.size) (htv : ElsAt lo w.heap.size w tv t) (hn : NL 700 t) (ht : 0 < t.length) (hk : xs.headD 0 % 12 = 4) :
    Calls Tryz.prog 36 #[tv, .pointer (some ⟨D, 0, none⟩)] w (DrE N D w.heap.size w (dSpoil t xs)) := by
  have H := hide h
  have HX := hide hx
  have hh := hx.head
  have hh2 := hx.tail.head
  have hh3 := hx.tail.tail.head
  have hl := hn.len
  have HN := hide hn.nice
  have HTV := hide htv
  obtain ⟨ta, tc, rfl, -⟩ := htv
  obtain ⟨y, hy⟩ : ∃ y, xs.headD 0 = y := ⟨_, rfl⟩
  obtain ⟨y2, hy2⟩ : ∃ y, xs.tail.headD 0 = y := ⟨_, rfl⟩
  obtain ⟨y3, hy3⟩ : ∃ y, xs.tail.tail.headD 0 = y := ⟨_, rfl⟩
  rw [hy] at hh hk
  rw [hy2] at hh2
  rw [hy3] at hh3
  obtain ⟨i, hi⟩ : ∃ i : Nat, (y2 % (t.length : Int)).toNat = i := ⟨_, rfl⟩
  have hm0 := Int.emod_nonneg y2 (show (t.length : Int) ≠ 0 by omega)
  have hm1 := Int.emod_lt_of_pos y2 (show (0 : Int) < t.length by omega)
  have hi2 : y2 % (t.length : Int) = (i : Int) := by omega
  have hil : i < t.length := by omega
  obtain ⟨R, hR⟩ : ∃ R, R = dSpoil t xs := ⟨_, rfl⟩
  rw [← hR]
  have HRR : Hid (R = (putE t i ⟨(t[i]?.getD dE).kind, (t[i]?.getD dE).set, (t[i]?.getD dE).mn, wrap64 ((t[i]?.getD dE).mx - 1)⟩, xs.tail.tail)) := by
    show R = _
    rw [hR]
    unfold dSpoil
    rw [hy, hy2, hy3, hi]
    refine Prod.ext ?_ ?_
    · show spT t (y % 12) y3 i = _
      unfold spT
      rw [if_pos (by omega)]
      unfold spE
      rw [if_neg (by omega), if_neg (by omega), if_neg (by omega), if_neg (by omega), if_pos hk]
    · show (if y % 12 = 2 then _ else _) = _
      rw [if_neg (by omega)]
  have HY := hide hy
  have HY2 := hide hy2
  have HY3 := hide hy3
  have n0 : ¬ y % 12 = 0 := by omega
  have n1 : ¬ y % 12 = 1 := by omega
  have n2 : ¬ y % 12 = 2 := by omega
  have n3 : ¬ y % 12 = 3 := by omega
  have hlz : ¬ (t.length : Int) = 0 := by omega
  clear hy hy2 hy3 h hx hR hi hn hm0 hm1
  go_enter Tryz.func36, Tryz.ntmps36
  go_wp2_with fail
  refine (l1copy_o _ t w ((unhide HTV).mono (Nat.zero_le _) (Nat.le_refl _)) (by omega) (unhide HN).len).mono ?_
  rintro e w1 ⟨v1, rfl, hg1, hb1⟩
  obtain ⟨g, cp, s1, hsp1⟩ := hg1.at (unhide HN) hil
  have e1 := hsp1.val
  subst e1
  have HG1 := hide hg1
  have hz1 := hb1.size
  have HC1 := hide ((unhide H).keep hb1 (by omega))
  have HM1 := hide (Below.mv hb1 D)
  clear hg1 hb1 hsp1
  go_wp2_with fail
  refine (next_any N D xs w1 (unhide HC1) (unhide HX)).mono ?_
  rintro e w2 ⟨he, hc2, ho2⟩
  rw [unhide HY] at he
  subst he
  go_wp2_with fail
  refine (next_any N D xs.tail w2 hc2 (unhide HX).tail).mono ?_
  rintro e w3 ⟨he, hc3, ho3⟩
  rw [unhide HY2] at he
  subst he
  have hz2 : w2.heap.size = w1.heap.size := ho2.size
  have hz3 : w3.heap.size = w2.heap.size := ho3.size
  have HC3 := hide hc3
  have hM3 := (ho2.mv w1.heap.size).trans (ho3.mv w1.heap.size)
  have HM3 := hide ((unhide HM1).trans (hM3.mono (by omega)))
  have HG3 := hide ((unhide HG1).mv hM3 (Nat.le_refl _) (by omega))
  have hz9 : w.heap.size ≤ w3.heap.size := by omega
  clear hc2 hc3 ho2 ho3 hM3 HG1 HC1 hz1 hz2 hz3
  obtain ⟨g2, cp2, s2, hsp⟩ := (unhide HG3).at (unhide HN) hil
  have e2 := hsp.val
  simp only [Value.slice.injEq, Option.some.injEq, Addr.mk.injEq, and_true, true_and] at e2
  obtain ⟨rfl, rfl⟩ := e2
  have HSP := hide hsp
  have hlo2 := hsp.lo
  have hhi2 := hsp.hi
  obtain ⟨q0, q1, q2, q3⟩ := hsp.el
  have hcap := hsp.cap
  unfold maxLen at hcap
  have z0 := hsp.nofz (i * 4)
  have z1 := hsp.nofz (i * 4 + 1)
  have z2 := hsp.nofz (i * 4 + 2)
  have z3 := hsp.nofz (i * 4 + 3)
  have h64 := (unhide HN).at i
  have HI := hide (Nice.at (unhide HN) i)
  clear hsp
  obtain ⟨mq, hmq⟩ : ∃ m, (t[i]?.getD dE).mx = m := ⟨_, rfl⟩
  have HMQ := hide hmq
  rw [hmq] at q3
  clear h64 hmq
  go_wp2
  go_ret
  have e9 := unhide HRR
  rw [unhide HMQ] at e9
  subst e9
  refine ⟨⟨_, rfl, ?_⟩, (unhide HC3).keep (bput (Below.refl w.heap.size w3) (by omega) _) (by omega), (unhide HM3).trans (Below.mv (bput (Below.refl w.heap.size w3) (by omega) _) D)⟩
  exact ((unhide HSP).put w3 ⟨(t[i]?.getD dE).kind, (t[i]?.getD dE).set, (t[i]?.getD dE).mn, wrap64 (mq - 1)⟩ s2 (.int .i64 (wrap64 (mq - 1))) 3 (by omega) (grown_refl _ _) ((unhide HSP).el.putX _) ⟨(unhide HI).1, (unhide HI).2.1, wrap_in _⟩ ((unhide HSP).keepS (unhide HN) _ _)).mono (Nat.le_refl _) (Nat.le_refl _)
set_option maxHeartbeats 16000000 in
set_option maxRecDepth 100000 in
theorem l1spoil_5 (N D lo : Nat) (tv : Value) (t : List El) (xs : List Int) (w : World) (h : CdAt N D w xs) (hx : Cod xs) (hD : D < lo) (hlo : lo ≤ w.heap.size) (htv : ElsAt lo w.heap.size w tv t) (hn : NL 700 t) (ht : 0 < t.length) (hk : xs.headD 0 % 12 = 5) :
    Calls Tryz.prog 36 #[tv, .pointer (some ⟨D, 0, none⟩)] w (DrE N D w.heap.size w (dSpoil t xs)) := by
  have H := hide h
  have HX := hide hx
  have hh := hx.head
  have hh2 := hx.tail.head
  have hh3 := hx.tail.tail.head
  have hl := hn.len
  have HN := hide hn.nice
  have HTV := hide htv
  obtain ⟨ta, tc, rfl, -⟩ := htv
  obtain ⟨y, hy⟩ : ∃ y, xs.headD 0 = y := ⟨_, rfl⟩
  obtain ⟨y2, hy2⟩ : ∃ y, xs.tail.headD 0 = y := ⟨_, rfl⟩
  obtain ⟨y3, hy3⟩ : ∃ y, xs.tail.tail.headD 0 = y := ⟨_, rfl⟩
  rw [hy] at hh hk
  rw [hy2] at hh2
  rw [hy3] at hh3
  obtain ⟨i, hi⟩ : ∃ i : Nat, (y2 % (t.length : Int)).toNat = i := ⟨_, rfl⟩
  have hm0 := Int.emod_nonneg y2 (show (t.length : Int) ≠ 0 by omega)
  have hm1 := Int.emod_lt_of_pos y2 (show (0 : Int) < t.length by omega)
  have hi2 : y2 % (t.length : Int) = (i : Int) := by omega
  have hil : i < t.length := by omega
  obtain ⟨R, hR⟩ : ∃ R, R = dSpoil t xs := ⟨_, rfl⟩
  rw [← hR]
  have HRR : Hid (R = (putE t i ⟨(t[i]?.getD dE).kind, (t[i]?.getD dE).set ++ [7], (t[i]?.getD dE).mn, (t[i]?.getD dE).mx⟩, xs.tail.tail)) := by
    show R = _
    rw [hR]
    unfold dSpoil
    rw [hy, hy2, hy3, hi]
    refine Prod.ext ?_ ?_
    · show spT t (y % 12) y3 i = _
      unfold spT
      rw [if_pos (by omega)]
      unfold spE
      rw [if_neg (by omega), if_neg (by omega), if_neg (by omega), if_neg (by omega), if_neg (by omega), if_pos hk]
    · show (if y % 12 = 2 then _ else _) = _
      rw [if_neg (by omega)]
  have HY := hide hy
  have HY2 := hide hy2
  have HY3 := hide hy3
  have n0 : ¬ y % 12 = 0 := by omega
  have n1 : ¬ y % 12 = 1 := by omega
  have n2 : ¬ y % 12 = 2 := by omega
  have n3 : ¬ y % 12 = 3 := by omega
  have n4 : ¬ y % 12 = 4 := by omega
  have hlz : ¬ (t.length : Int) = 0 := by omega
  clear hy hy2 hy3 h hx hR hi hn hm0 hm1
  go_enter Tryz.func36, Tryz.ntmps36
  go_wp2_with fail
  refine (l1copy_o _ t w ((unhide HTV).mono (Nat.zero_le _) (Nat.le_refl _)) (by omega) (unhide HN).len).mono ?_
  rintro e w1 ⟨v1, rfl, hg1, hb1⟩
  obtain ⟨g, cp, s1, hsp1⟩ := hg1.at (unhide HN) hil
  have e1 := hsp1.val
  subst e1
  have HG1 := hide hg1
  have hz1 := hb1.size
  have HC1 := hide ((unhide H).keep hb1 (by omega))
  have HM1 := hide (Below.mv hb1 D)
  clear hg1 hb1 hsp1
  go_wp2_with fail
  refine (next_any N D xs w1 (unhide HC1) (unhide HX)).mono ?_
  rintro e w2 ⟨he, hc2, ho2⟩
  rw [unhide HY] at he
  subst he
  go_wp2_with fail
  refine (next_any N D xs.tail w2 hc2 (unhide HX).tail).mono ?_
  rintro e w3 ⟨he, hc3, ho3⟩
  rw [unhide HY2] at he
  subst he
  have hz2 : w2.heap.size = w1.heap.size := ho2.size
  have hz3 : w3.heap.size = w2.heap.size := ho3.size
  have HC3 := hide hc3
  have hM3 := (ho2.mv w1.heap.size).trans (ho3.mv w1.heap.size)
  have HM3 := hide ((unhide HM1).trans (hM3.mono (by omega)))
  have HG3 := hide ((unhide HG1).mv hM3 (Nat.le_refl _) (by omega))
  have hz9 : w.heap.size ≤ w3.heap.size := by omega
  clear hc2 hc3 ho2 ho3 hM3 HG1 HC1 hz1 hz2 hz3
  obtain ⟨g2, cp2, s2, hsp⟩ := (unhide HG3).at (unhide HN) hil
  have e2 := hsp.val
  simp only [Value.slice.injEq, Option.some.injEq, Addr.mk.injEq, and_true, true_and] at e2
  obtain ⟨rfl, rfl⟩ := e2
  have HSP := hide hsp
  have hlo2 := hsp.lo
  have hhi2 := hsp.hi
  obtain ⟨q0, q1, q2, q3⟩ := hsp.el
  have hcap := hsp.cap
  unfold maxLen at hcap
  have z0 := hsp.nofz (i * 4)
  have z1 := hsp.nofz (i * 4 + 1)
  have z2 := hsp.nofz (i * 4 + 2)
  have z3 := hsp.nofz (i * 4 + 3)
  have h64 := (unhide HN).at i
  have HI := hide (Nice.at (unhide HN) i)
  clear hsp
  have hl6 := (unhide HN).len i
  obtain ⟨cs, hcs⟩ : ∃ cs, (t[i]?.getD dE).set = cs := ⟨_, rfl⟩
  have HCS := hide hcs
  have ho4 := (unhide HSP).own
  rw [hcs] at ho4 hl6
  have HO := hide ho4
  obtain ⟨sa, sc, e6⟩ := own_is ho4
  subst e6
  clear hcs ho4
  clear h64
  go_wp2_with (at_builtin; refine app_i3 rfl _ _ rfl w.heap.size (.slice sa cs.length sc) rfl 7 rfl cs.length cs rfl (unhide HO) (by omega) (by omega) ?_)
  intro v5 w5 ho50 hgr5
  have ho5 : w5.ownsRow w.heap.size 3 1 v5 (cs.length + 1) ((cs ++ [7]).map mI) := by rw [List.map_append]; exact ho50
  clear ho50
  have hz5 := hgr5.size
  have hg5 : w5.heap[g]? = w3.heap[g]? := hgr5.block g hhi2 (fun e => (unhide HSP).ne e.symm)
  have HE5 : Hid (El4 w5 g (i * 4) (t[i]?.getD dE) (.slice sa cs.length sc)) := (unhide HSP).el.same hg5
  obtain ⟨r0, r1, r2, r3⟩ := unhide HE5
  have y1 : w5.frozen? ⟨g, i * 4 + 1, none⟩ = false := (World.frozen?_of_block (a := ⟨g, i * 4 + 1, none⟩) hg5).trans z1
  have HG5 := hide hgr5
  have hB5 : Below w.heap.size w3 w5 := (Below.refl w.heap.size w3).grown hgr5 (by omega) (fun k hk => ((unhide HO).lt k hk).1)
  have HC5 := hide ((unhide HC3).keep hB5 (by omega))
  have HM5 := hide ((unhide HM3).trans (Below.mv hB5 D))
  have hl7 : cs.length + 1 ≤ 9000000000000000 := by omega
  have hne5 : v5.ownBlock = none ∨ v5.ownBlock ≠ some g := by
    cases hk5 : v5.ownBlock with
    | none => exact .inl rfl
    | some k =>
      refine .inr (fun e => ?_)
      have e5 : k = g := Option.some.inj e
      subst e5
      obtain ⟨c8, t8, h8, ht8⟩ := (unhide HSP).typ
      rcases ho5.2 with ⟨rfl, _⟩ | ⟨g9, cap9, cur9, rfl, hb9, hgg9, _⟩
      · simp [Value.ownBlock] at hk5
      · have e6 : g9 = k := by simpa [Value.ownBlock] using hk5
        subst e6
        rw [hg5, h8] at hgg9
        simp only [Option.some.injEq, Obj.cells.injEq] at hgg9
        exact ht8 hgg9.2.1
  have HI5 : Hid (∀ u, IntsAt w.heap.size w5.heap.size (w5.setCell ⟨g, i * 4 + 1, none⟩ u) v5 (cs ++ [7])) := fun u => by
    have ho6 : (w5.setCell ⟨g, i * 4 + 1, none⟩ u).ownsRow w.heap.size 3 1 v5 (cs.length + 1) ((cs ++ [7]).map mI) := ho5.kept (w' := w5.setCell ⟨g, i * 4 + 1, none⟩ u) (row := some g) (put_grown _ _ _ _) hne5
    have h6 := (own_slw ho6 (Nat.le_refl _) (by unfold maxLen; omega)).ints (fun q => by
      by_cases hq : q < cs.length
      · rw [List.getElem?_append_left hq, ← unhide HCS]; exact (unhide HI).2.2.2 q
      · rw [List.getElem?_append_right (by omega)]
        cases hq2 : q - cs.length with
        | zero => simp [In64]
        | succ m => simp [In64])
    rw [sz_put] at h6
    exact h6
  obtain ⟨va5, vc5, e7⟩ := own_is ho5
  subst e7
  clear ho5 hgr5 hB5
  go_wp2
  go_ret
  have e9 := unhide HRR
  rw [unhide HCS] at e9
  subst e9
  refine ⟨⟨_, rfl, ?_⟩, (unhide HC5).keep (bput (Below.refl w.heap.size w5) (by omega) _) (by omega), (unhide HM5).trans (Below.mv (bput (Below.refl w.heap.size w5) (by omega) _) D)⟩
  exact ((unhide HSP).put w5 ⟨(t[i]?.getD dE).kind, cs ++ [7], (t[i]?.getD dE).mn, (t[i]?.getD dE).mx⟩ _ _ 1 (by omega) (unhide HG5) ((unhide HE5).putS _ _) ⟨(unhide HI).1, (unhide HI).2.1, (unhide HI).2.2.1⟩ (unhide HI5 _)).mono (Nat.le_refl _) (Nat.le_refl _)
set_option maxHeartbeats 16000000 in
set_option maxRecDepth 100000 in
theorem l1spoil_6 (N D lo : Nat) (tv : Value) (t : List El) (xs : List Int) (w : World) (h : CdAt N D w xs) (hx : Cod xs) (hD : D < lo) (hlo : lo ≤ w.heap.size) (htv : ElsAt lo w.heap.size w tv t) (hn : NL 700 t) (ht : 0 < t.length) (hk : xs.headD 0 % 12 = 6) :
    Calls Tryz.prog 36 #[tv, .pointer (some ⟨D, 0, none⟩)] w (DrE N D w.heap.size w (dSpoil t xs)) := by
  have H := hide h
  have HX := hide hx
  have hh := hx.head
  have hh2 := hx.tail.head
  have hh3 := hx.tail.tail.head
  have hl := hn.len
  have HN := hide hn.nice
  have HTV := hide htv
  obtain ⟨ta, tc, rfl, -⟩ := htv
  obtain ⟨y, hy⟩ : ∃ y, xs.headD 0 = y := ⟨_, rfl⟩
  obtain ⟨y2, hy2⟩ : ∃ y, xs.tail.headD 0 = y := ⟨_, rfl⟩
  obtain ⟨y3, hy3⟩ : ∃ y, xs.tail.tail.headD 0 = y := ⟨_, rfl⟩
  rw [hy] at hh hk
  rw [hy2] at hh2
  rw [hy3] at hh3
  obtain ⟨i, hi⟩ : ∃ i : Nat, (y2 % (t.length : Int)).toNat = i := ⟨_, rfl⟩
  have hm0 := Int.emod_nonneg y2 (show (t.length : Int) ≠ 0 by omega)
  have hm1 := Int.emod_lt_of_pos y2 (show (0 : Int) < t.length by omega)
  have hi2 : y2 % (t.length : Int) = (i : Int) := by omega
  have hil : i < t.length := by omega
  obtain ⟨R, hR⟩ : ∃ R, R = dSpoil t xs := ⟨_, rfl⟩
  rw [← hR]
  have HRR : Hid (R = (putE t i ⟨(t[i]?.getD dE).kind, [5, 4], (t[i]?.getD dE).mn, (t[i]?.getD dE).mx⟩, xs.tail.tail)) := by
    show R = _
    rw [hR]
    unfold dSpoil
    rw [hy, hy2, hy3, hi]
    refine Prod.ext ?_ ?_
    · show spT t (y % 12) y3 i = _
      unfold spT
      rw [if_pos (by omega)]
      unfold spE
      rw [if_neg (by omega), if_neg (by omega), if_neg (by omega), if_neg (by omega), if_neg (by omega), if_neg (by omega), if_pos hk]
    · show (if y % 12 = 2 then _ else _) = _
      rw [if_neg (by omega)]
  have HY := hide hy
  have HY2 := hide hy2
  have HY3 := hide hy3
  have n0 : ¬ y % 12 = 0 := by omega
  have n1 : ¬ y % 12 = 1 := by omega
  have n2 : ¬ y % 12 = 2 := by omega
  have n3 : ¬ y % 12 = 3 := by omega
  have n4 : ¬ y % 12 = 4 := by omega
  have n5 : ¬ y % 12 = 5 := by omega
  have hlz : ¬ (t.length : Int) = 0 := by omega
  clear hy hy2 hy3 h hx hR hi hn hm0 hm1
  go_enter Tryz.func36, Tryz.ntmps36
  go_wp2_with fail
  refine (l1copy_o _ t w ((unhide HTV).mono (Nat.zero_le _) (Nat.le_refl _)) (by omega) (unhide HN).len).mono ?_
  rintro e w1 ⟨v1, rfl, hg1, hb1⟩
  obtain ⟨g, cp, s1, hsp1⟩ := hg1.at (unhide HN) hil
  have e1 := hsp1.val
  subst e1
  have HG1 := hide hg1
  have hz1 := hb1.size
  have HC1 := hide ((unhide H).keep hb1 (by omega))
  have HM1 := hide (Below.mv hb1 D)
  clear hg1 hb1 hsp1
  go_wp2_with fail
  refine (next_any N D xs w1 (unhide HC1) (unhide HX)).mono ?_
  rintro e w2 ⟨he, hc2, ho2⟩
  rw [unhide HY] at he
  subst he
  go_wp2_with fail
  refine (next_any N D xs.tail w2 hc2 (unhide HX).tail).mono ?_
  rintro e w3 ⟨he, hc3, ho3⟩
  rw [unhide HY2] at he
  subst he
  have hz2 : w2.heap.size = w1.heap.size := ho2.size
  have hz3 : w3.heap.size = w2.heap.size := ho3.size
  have HC3 := hide hc3
  have hM3 := (ho2.mv w1.heap.size).trans (ho3.mv w1.heap.size)
  have HM3 := hide ((unhide HM1).trans (hM3.mono (by omega)))
  have HG3 := hide ((unhide HG1).mv hM3 (Nat.le_refl _) (by omega))
  have hz9 : w.heap.size ≤ w3.heap.size := by omega
  clear hc2 hc3 ho2 ho3 hM3 HG1 HC1 hz1 hz2 hz3
  obtain ⟨g2, cp2, s2, hsp⟩ := (unhide HG3).at (unhide HN) hil
  have e2 := hsp.val
  simp only [Value.slice.injEq, Option.some.injEq, Addr.mk.injEq, and_true, true_and] at e2
  obtain ⟨rfl, rfl⟩ := e2
  have HSP := hide hsp
  have hlo2 := hsp.lo
  have hhi2 := hsp.hi
  obtain ⟨q0, q1, q2, q3⟩ := hsp.el
  have hcap := hsp.cap
  unfold maxLen at hcap
  have z0 := hsp.nofz (i * 4)
  have z1 := hsp.nofz (i * 4 + 1)
  have z2 := hsp.nofz (i * 4 + 2)
  have z3 := hsp.nofz (i * 4 + 3)
  have h64 := (unhide HN).at i
  have HI := hide (Nice.at (unhide HN) i)
  clear hsp
  have HW : Hid (∀ u, IntsAt w.heap.size (w3.alloc (.cells #[.int .i64 5, .int .i64 4] 3)).heap.size ((w3.alloc (.cells #[.int .i64 5, .int .i64 4] 3)).setCell ⟨g, i * 4 + 1, none⟩ u) (.slice (some ⟨w3.heap.size, 0, none⟩) 2 2) [5, 4]) := fun u => ((ints_2 w3 (by simp [In64]) (by simp [In64])).same ((Same.refl _ _ _).setCell (Or.inl hhi2) u)).mono (by omega) (Nat.le_refl _)
  have HB5 := hide (below1 w3 (.cells #[.int .i64 5, .int .i64 4] 3))
  have HE5 : Hid (El4 (w3.alloc (.cells #[.int .i64 5, .int .i64 4] 3)) g (i * 4) (t[i]?.getD dE) s2) := (unhide HSP).el.same ((unhide HB5).block g hhi2)
  have HG5 : Hid (w3.grownBy (w3.alloc (.cells #[.int .i64 5, .int .i64 4] 3)) s2.ownBlock) := ⟨(unhide HB5).os, (unhide HB5).tape, (unhide HB5).output, (unhide HB5).size, fun k hk _ => (unhide HB5).block k hk⟩
  have HC5 := hide ((unhide HC3).keep (unhide HB5) (by omega))
  have HM5 := hide ((unhide HM3).trans (bmv (unhide HB5) D (by omega)))
  clear h64
  go_wp2
  go_ret
  rw [← World.setCell_alloc_past _ _ _ _ hhi2]
  have e9 := unhide HRR
  subst e9
  refine ⟨⟨_, rfl, ?_⟩, (unhide HC5).keep (bput (Below.refl w.heap.size _) (by omega) _) (by omega), (unhide HM5).trans (Below.mv (bput (Below.refl w.heap.size _) (by omega) _) D)⟩
  exact ((unhide HSP).put _ ⟨(t[i]?.getD dE).kind, [5, 4], (t[i]?.getD dE).mn, (t[i]?.getD dE).mx⟩ (.slice (some ⟨w3.heap.size, 0, none⟩) 2 2) _ 1 (by omega) (unhide HG5) ((unhide HE5).putS _ _) ⟨(unhide HI).1, (unhide HI).2.1, (unhide HI).2.2.1⟩ (unhide HW _)).mono (Nat.le_refl _) (Nat.le_refl _)
set_option maxHeartbeats 16000000 in
set_option maxRecDepth 100000 in
theorem l1spoil_7 (N D lo : Nat) (tv : Value) (t : List El) (xs : List Int) (w : World) (h : CdAt N D w xs) (hx : Cod xs) (hD : D < lo) (hlo : lo ≤ w.heap.size) (htv : ElsAt lo w.heap.size w tv t) (hn : NL 700 t) (ht : 0 < t.length) (hk : xs.headD 0 % 12 = 7) :
    Calls Tryz.prog 36 #[tv, .pointer (some ⟨D, 0, none⟩)] w (DrE N D w.heap.size w (dSpoil t xs)) := by
  have H := hide h
  have HX := hide hx
  have hh := hx.head
  have hh2 := hx.tail.head
  have hh3 := hx.tail.tail.head
  have hl := hn.len
  have HN := hide hn.nice
  have HTV := hide htv
  obtain ⟨ta, tc, rfl, -⟩ := htv
  obtain ⟨y, hy⟩ : ∃ y, xs.headD 0 = y := ⟨_, rfl⟩
  obtain ⟨y2, hy2⟩ : ∃ y, xs.tail.headD 0 = y := ⟨_, rfl⟩
  obtain ⟨y3, hy3⟩ : ∃ y, xs.tail.tail.headD 0 = y := ⟨_, rfl⟩
  rw [hy] at hh hk
  rw [hy2] at hh2
  rw [hy3] at hh3
  obtain ⟨i, hi⟩ : ∃ i : Nat, (y2 % (t.length : Int)).toNat = i := ⟨_, rfl⟩
  have hm0 := Int.emod_nonneg y2 (show (t.length : Int) ≠ 0 by omega)
  have hm1 := Int.emod_lt_of_pos y2 (show (0 : Int) < t.length by omega)
  have hi2 : y2 % (t.length : Int) = (i : Int) := by omega
  have hil : i < t.length := by omega
  obtain ⟨R, hR⟩ : ∃ R, R = dSpoil t xs := ⟨_, rfl⟩
  rw [← hR]
  have HRR : Hid (R = (putE t i ⟨(t[i]?.getD dE).kind, [5, 6, 7, 9], (t[i]?.getD dE).mn, (t[i]?.getD dE).mx⟩, xs.tail.tail)) := by
    show R = _
    rw [hR]
    unfold dSpoil
    rw [hy, hy2, hy3, hi]
    refine Prod.ext ?_ ?_
    · show spT t (y % 12) y3 i = _
      unfold spT
      rw [if_pos (by omega)]
      unfold spE
      rw [if_neg (by omega), if_neg (by omega), if_neg (by omega), if_neg (by omega), if_neg (by omega), if_neg (by omega), if_neg (by omega), if_pos hk]
    · show (if y % 12 = 2 then _ else _) = _
      rw [if_neg (by omega)]
  have HY := hide hy
  have HY2 := hide hy2
  have HY3 := hide hy3
  have n0 : ¬ y % 12 = 0 := by omega
  have n1 : ¬ y % 12 = 1 := by omega
  have n2 : ¬ y % 12 = 2 := by omega
  have n3 : ¬ y % 12 = 3 := by omega
  have n4 : ¬ y % 12 = 4 := by omega
  have n5 : ¬ y % 12 = 5 := by omega
  have n6 : ¬ y % 12 = 6 := by omega
  have hlz : ¬ (t.length : Int) = 0 := by omega
  clear hy hy2 hy3 h hx hR hi hn hm0 hm1
  go_enter Tryz.func36, Tryz.ntmps36
  go_wp2_with fail
  refine (l1copy_o _ t w ((unhide HTV).mono (Nat.zero_le _) (Nat.le_refl _)) (by omega) (unhide HN).len).mono ?_
  rintro e w1 ⟨v1, rfl, hg1, hb1⟩
  obtain ⟨g, cp, s1, hsp1⟩ := hg1.at (unhide HN) hil
  have e1 := hsp1.val
  subst e1
  have HG1 := hide hg1
  have hz1 := hb1.size
  have HC1 := hide ((unhide H).keep hb1 (by omega))
  have HM1 := hide (Below.mv hb1 D)
  clear hg1 hb1 hsp1
  go_wp2_with fail
  refine (next_any N D xs w1 (unhide HC1) (unhide HX)).mono ?_
  rintro e w2 ⟨he, hc2, ho2⟩
  rw [unhide HY] at he
  subst he
  go_wp2_with fail
  refine (next_any N D xs.tail w2 hc2 (unhide HX).tail).mono ?_
  rintro e w3 ⟨he, hc3, ho3⟩
  rw [unhide HY2] at he
  subst he
  have hz2 : w2.heap.size = w1.heap.size := ho2.size
  have hz3 : w3.heap.size = w2.heap.size := ho3.size
  have HC3 := hide hc3
  have hM3 := (ho2.mv w1.heap.size).trans (ho3.mv w1.heap.size)
  have HM3 := hide ((unhide HM1).trans (hM3.mono (by omega)))
  have HG3 := hide ((unhide HG1).mv hM3 (Nat.le_refl _) (by omega))
  have hz9 : w.heap.size ≤ w3.heap.size := by omega
  clear hc2 hc3 ho2 ho3 hM3 HG1 HC1 hz1 hz2 hz3
  obtain ⟨g2, cp2, s2, hsp⟩ := (unhide HG3).at (unhide HN) hil
  have e2 := hsp.val
  simp only [Value.slice.injEq, Option.some.injEq, Addr.mk.injEq, and_true, true_and] at e2
  obtain ⟨rfl, rfl⟩ := e2
  have HSP := hide hsp
  have hlo2 := hsp.lo
  have hhi2 := hsp.hi
  obtain ⟨q0, q1, q2, q3⟩ := hsp.el
  have hcap := hsp.cap
  unfold maxLen at hcap
  have z0 := hsp.nofz (i * 4)
  have z1 := hsp.nofz (i * 4 + 1)
  have z2 := hsp.nofz (i * 4 + 2)
  have z3 := hsp.nofz (i * 4 + 3)
  have h64 := (unhide HN).at i
  have HI := hide (Nice.at (unhide HN) i)
  clear hsp
  have HW : Hid (∀ u, IntsAt w.heap.size (w3.alloc (.cells #[.int .i64 5, .int .i64 6, .int .i64 7, .int .i64 9] 3)).heap.size ((w3.alloc (.cells #[.int .i64 5, .int .i64 6, .int .i64 7, .int .i64 9] 3)).setCell ⟨g, i * 4 + 1, none⟩ u) (.slice (some ⟨w3.heap.size, 0, none⟩) 4 4) [5, 6, 7, 9]) := fun u => ((ints_4 w3 (by simp [In64]) (by simp [In64]) (by simp [In64]) (by simp [In64])).same ((Same.refl _ _ _).setCell (Or.inl hhi2) u)).mono (by omega) (Nat.le_refl _)
  have HB5 := hide (below1 w3 (.cells #[.int .i64 5, .int .i64 6, .int .i64 7, .int .i64 9] 3))
  have HE5 : Hid (El4 (w3.alloc (.cells #[.int .i64 5, .int .i64 6, .int .i64 7, .int .i64 9] 3)) g (i * 4) (t[i]?.getD dE) s2) := (unhide HSP).el.same ((unhide HB5).block g hhi2)
  have HG5 : Hid (w3.grownBy (w3.alloc (.cells #[.int .i64 5, .int .i64 6, .int .i64 7, .int .i64 9] 3)) s2.ownBlock) := ⟨(unhide HB5).os, (unhide HB5).tape, (unhide HB5).output, (unhide HB5).size, fun k hk _ => (unhide HB5).block k hk⟩
  have HC5 := hide ((unhide HC3).keep (unhide HB5) (by omega))
  have HM5 := hide ((unhide HM3).trans (bmv (unhide HB5) D (by omega)))
  clear h64
  go_wp2
  go_ret
  rw [← World.setCell_alloc_past _ _ _ _ hhi2]
  have e9 := unhide HRR
  subst e9
  refine ⟨⟨_, rfl, ?_⟩, (unhide HC5).keep (bput (Below.refl w.heap.size _) (by omega) _) (by omega), (unhide HM5).trans (Below.mv (bput (Below.refl w.heap.size _) (by omega) _) D)⟩
  exact ((unhide HSP).put _ ⟨(t[i]?.getD dE).kind, [5, 6, 7, 9], (t[i]?.getD dE).mn, (t[i]?.getD dE).mx⟩ (.slice (some ⟨w3.heap.size, 0, none⟩) 4 4) _ 1 (by omega) (unhide HG5) ((unhide HE5).putS _ _) ⟨(unhide HI).1, (unhide HI).2.1, (unhide HI).2.2.1⟩ (unhide HW _)).mono (Nat.le_refl _) (Nat.le_refl _)
set_option maxHeartbeats 16000000 in
set_option maxRecDepth 100000 in
theorem l1spoil_8 (N D lo : Nat) (tv : Value) (t : List El) (xs : List Int) (w : World) (h : CdAt N D w xs) (hx : Cod xs) (hD : D < lo) (hlo : lo ≤ w.heap.size) (htv : ElsAt lo w.heap.size w tv t) (hn : NL 700 t) (ht : 0 < t.length) (hk : xs.headD 0 % 12 = 8) :
    Calls Tryz.prog 36 #[tv, .pointer (some ⟨D, 0, none⟩)] w (DrE N D w.heap.size w (dSpoil t xs)) := by
  have H := hide h
  have HX := hide hx
  have hh := hx.head
  have hh2 := hx.tail.head
  have hh3 := hx.tail.tail.head
  have hl := hn.len
  have HN := hide hn.nice
  have HTV := hide htv
  obtain ⟨ta, tc, rfl, -⟩ := htv
  obtain ⟨y, hy⟩ : ∃ y, xs.headD 0 = y := ⟨_, rfl⟩
  obtain ⟨y2, hy2⟩ : ∃ y, xs.tail.headD 0 = y := ⟨_, rfl⟩
  obtain ⟨y3, hy3⟩ : ∃ y, xs.tail.tail.headD 0 = y := ⟨_, rfl⟩
  rw [hy] at hh hk
  rw [hy2] at hh2
  rw [hy3] at hh3
  obtain ⟨i, hi⟩ : ∃ i : Nat, (y2 % (t.length : Int)).toNat = i := ⟨_, rfl⟩
  have hm0 := Int.emod_nonneg y2 (show (t.length : Int) ≠ 0 by omega)
  have hm1 := Int.emod_lt_of_pos y2 (show (0 : Int) < t.length by omega)
  have hi2 : y2 % (t.length : Int) = (i : Int) := by omega
  have hil : i < t.length := by omega
  obtain ⟨R, hR⟩ : ∃ R, R = dSpoil t xs := ⟨_, rfl⟩
  rw [← hR]
  have HRR : Hid (R = (putE t i ⟨(t[i]?.getD dE).kind, [0, 256], (t[i]?.getD dE).mn, (t[i]?.getD dE).mx⟩, xs.tail.tail)) := by
    show R = _
    rw [hR]
    unfold dSpoil
    rw [hy, hy2, hy3, hi]
    refine Prod.ext ?_ ?_
    · show spT t (y % 12) y3 i = _
      unfold spT
      rw [if_pos (by omega)]
      unfold spE
      rw [if_neg (by omega), if_neg (by omega), if_neg (by omega), if_neg (by omega), if_neg (by omega), if_neg (by omega), if_neg (by omega), if_neg (by omega)]
    · show (if y % 12 = 2 then _ else _) = _
      rw [if_neg (by omega)]
  have HY := hide hy
  have HY2 := hide hy2
  have HY3 := hide hy3
  have n0 : ¬ y % 12 = 0 := by omega
  have n1 : ¬ y % 12 = 1 := by omega
  have n2 : ¬ y % 12 = 2 := by omega
  have n3 : ¬ y % 12 = 3 := by omega
  have n4 : ¬ y % 12 = 4 := by omega
  have n5 : ¬ y % 12 = 5 := by omega
  have n6 : ¬ y % 12 = 6 := by omega
  have n7 : ¬ y % 12 = 7 := by omega
  have hlz : ¬ (t.length : Int) = 0 := by omega
  clear hy hy2 hy3 h hx hR hi hn hm0 hm1
  go_enter Tryz.func36, Tryz.ntmps36
  go_wp2_with fail
  refine (l1copy_o _ t w ((unhide HTV).mono (Nat.zero_le _) (Nat.le_refl _)) (by omega) (unhide HN).len).mono ?_
  rintro e w1 ⟨v1, rfl, hg1, hb1⟩
  obtain ⟨g, cp, s1, hsp1⟩ := hg1.at (unhide HN) hil
  have e1 := hsp1.val
  subst e1
  have HG1 := hide hg1
  have hz1 := hb1.size
  have HC1 := hide ((unhide H).keep hb1 (by omega))
  have HM1 := hide (Below.mv hb1 D)
  clear hg1 hb1 hsp1
  go_wp2_with fail
  refine (next_any N D xs w1 (unhide HC1) (unhide HX)).mono ?_
  rintro e w2 ⟨he, hc2, ho2⟩
  rw [unhide HY] at he
  subst he
  go_wp2_with fail
  refine (next_any N D xs.tail w2 hc2 (unhide HX).tail).mono ?_
  rintro e w3 ⟨he, hc3, ho3⟩
  rw [unhide HY2] at he
  subst he
  have hz2 : w2.heap.size = w1.heap.size := ho2.size
  have hz3 : w3.heap.size = w2.heap.size := ho3.size
  have HC3 := hide hc3
  have hM3 := (ho2.mv w1.heap.size).trans (ho3.mv w1.heap.size)
  have HM3 := hide ((unhide HM1).trans (hM3.mono (by omega)))
  have HG3 := hide ((unhide HG1).mv hM3 (Nat.le_refl _) (by omega))
  have hz9 : w.heap.size ≤ w3.heap.size := by omega
  clear hc2 hc3 ho2 ho3 hM3 HG1 HC1 hz1 hz2 hz3
  obtain ⟨g2, cp2, s2, hsp⟩ := (unhide HG3).at (unhide HN) hil
  have e2 := hsp.val
  simp only [Value.slice.injEq, Option.some.injEq, Addr.mk.injEq, and_true, true_and] at e2
  obtain ⟨rfl, rfl⟩ := e2
  have HSP := hide hsp
  have hlo2 := hsp.lo
  have hhi2 := hsp.hi
  obtain ⟨q0, q1, q2, q3⟩ := hsp.el
  have hcap := hsp.cap
  unfold maxLen at hcap
  have z0 := hsp.nofz (i * 4)
  have z1 := hsp.nofz (i * 4 + 1)
  have z2 := hsp.nofz (i * 4 + 2)
  have z3 := hsp.nofz (i * 4 + 3)
  have h64 := (unhide HN).at i
  have HI := hide (Nice.at (unhide HN) i)
  clear hsp
  have HW : Hid (∀ u, IntsAt w.heap.size (w3.alloc (.cells #[.int .i64 0, .int .i64 256] 3)).heap.size ((w3.alloc (.cells #[.int .i64 0, .int .i64 256] 3)).setCell ⟨g, i * 4 + 1, none⟩ u) (.slice (some ⟨w3.heap.size, 0, none⟩) 2 2) [0, 256]) := fun u => ((ints_2 w3 (by simp [In64]) (by simp [In64])).same ((Same.refl _ _ _).setCell (Or.inl hhi2) u)).mono (by omega) (Nat.le_refl _)
  have HB5 := hide (below1 w3 (.cells #[.int .i64 0, .int .i64 256] 3))
  have HE5 : Hid (El4 (w3.alloc (.cells #[.int .i64 0, .int .i64 256] 3)) g (i * 4) (t[i]?.getD dE) s2) := (unhide HSP).el.same ((unhide HB5).block g hhi2)
  have HG5 : Hid (w3.grownBy (w3.alloc (.cells #[.int .i64 0, .int .i64 256] 3)) s2.ownBlock) := ⟨(unhide HB5).os, (unhide HB5).tape, (unhide HB5).output, (unhide HB5).size, fun k hk _ => (unhide HB5).block k hk⟩
  have HC5 := hide ((unhide HC3).keep (unhide HB5) (by omega))
  have HM5 := hide ((unhide HM3).trans (bmv (unhide HB5) D (by omega)))
  clear h64
  go_wp2
  go_ret
  rw [← World.setCell_alloc_past _ _ _ _ hhi2]
  have e9 := unhide HRR
  subst e9
  refine ⟨⟨_, rfl, ?_⟩, (unhide HC5).keep (bput (Below.refl w.heap.size _) (by omega) _) (by omega), (unhide HM5).trans (Below.mv (bput (Below.refl w.heap.size _) (by omega) _) D)⟩
  exact ((unhide HSP).put _ ⟨(t[i]?.getD dE).kind, [0, 256], (t[i]?.getD dE).mn, (t[i]?.getD dE).mx⟩ (.slice (some ⟨w3.heap.size, 0, none⟩) 2 2) _ 1 (by omega) (unhide HG5) ((unhide HE5).putS _ _) ⟨(unhide HI).1, (unhide HI).2.1, (unhide HI).2.2.1⟩ (unhide HW _)).mono (Nat.le_refl _) (Nat.le_refl _)
set_option maxHeartbeats 16000000 in
set_option maxRecDepth 100000 in
theorem l1spoil_9 (N D lo : Nat) (tv : Value) (t : List El) (xs : List Int) (w : World) (h : CdAt N D w xs) (hx : Cod xs) (hD : D < lo) (hlo : lo ≤ w.heap.size) (htv : ElsAt lo w.heap.size w tv t) (hn : NL 700 t) (ht : 0 < t.length) (hk : xs.headD 0 % 12 = 9) :
    Calls Tryz.prog 36 #[tv, .pointer (some ⟨D, 0, none⟩)] w (DrE N D w.heap.size w (dSpoil t xs)) := by
  have H := hide h
  have HX := hide hx
  have hh := hx.head
  have hh2 := hx.tail.head
  have hh3 := hx.tail.tail.head
  have hl := hn.len
  have HN := hide hn.nice
  have HTV := hide htv
  obtain ⟨ta, tc, rfl, -⟩ := htv
  obtain ⟨y, hy⟩ : ∃ y, xs.headD 0 = y := ⟨_, rfl⟩
  obtain ⟨y2, hy2⟩ : ∃ y, xs.tail.headD 0 = y := ⟨_, rfl⟩
  obtain ⟨y3, hy3⟩ : ∃ y, xs.tail.tail.headD 0 = y := ⟨_, rfl⟩
  rw [hy] at hh hk
  rw [hy2] at hh2
  rw [hy3] at hh3
  obtain ⟨i, hi⟩ : ∃ i : Nat, (y2 % (t.length : Int)).toNat = i := ⟨_, rfl⟩
  have hm0 := Int.emod_nonneg y2 (show (t.length : Int) ≠ 0 by omega)
  have hm1 := Int.emod_lt_of_pos y2 (show (0 : Int) < t.length by omega)
  have hi2 : y2 % (t.length : Int) = (i : Int) := by omega
  have hil : i < t.length := by omega
  obtain ⟨R, hR⟩ : ∃ R, R = dSpoil t xs := ⟨_, rfl⟩
  rw [← hR]
  have HRR : Hid (R = (t.take (t.length - 1), xs.tail.tail)) := by
    show R = _
    rw [hR]
    unfold dSpoil
    rw [hy, hy2, hy3, hi]
    refine Prod.ext ?_ ?_
    · show spT t (y % 12) y3 i = _
      unfold spT
      rw [if_neg (by omega), if_pos hk]
    · show (if y % 12 = 2 then _ else _) = _
      rw [if_neg (by omega)]
  have HY := hide hy
  have HY2 := hide hy2
  have HY3 := hide hy3
  have n0 : ¬ y % 12 = 0 := by omega
  have n1 : ¬ y % 12 = 1 := by omega
  have n2 : ¬ y % 12 = 2 := by omega
  have n3 : ¬ y % 12 = 3 := by omega
  have n4 : ¬ y % 12 = 4 := by omega
  have n5 : ¬ y % 12 = 5 := by omega
  have n6 : ¬ y % 12 = 6 := by omega
  have n7 : ¬ y % 12 = 7 := by omega
  have n8 : ¬ y % 12 = 8 := by omega
  have hlz : ¬ (t.length : Int) = 0 := by omega
  clear hy hy2 hy3 h hx hR hi hn hm0 hm1
  go_enter Tryz.func36, Tryz.ntmps36
  go_wp2_with fail
  refine (l1copy_o _ t w ((unhide HTV).mono (Nat.zero_le _) (Nat.le_refl _)) (by omega) (unhide HN).len).mono ?_
  rintro e w1 ⟨v1, rfl, hg1, hb1⟩
  obtain ⟨g, cp, s1, hsp1⟩ := hg1.at (unhide HN) hil
  have e1 := hsp1.val
  subst e1
  have HG1 := hide hg1
  have hz1 := hb1.size
  have HC1 := hide ((unhide H).keep hb1 (by omega))
  have HM1 := hide (Below.mv hb1 D)
  clear hg1 hb1 hsp1
  go_wp2_with fail
  refine (next_any N D xs w1 (unhide HC1) (unhide HX)).mono ?_
  rintro e w2 ⟨he, hc2, ho2⟩
  rw [unhide HY] at he
  subst he
  go_wp2_with fail
  refine (next_any N D xs.tail w2 hc2 (unhide HX).tail).mono ?_
  rintro e w3 ⟨he, hc3, ho3⟩
  rw [unhide HY2] at he
  subst he
  have hz2 : w2.heap.size = w1.heap.size := ho2.size
  have hz3 : w3.heap.size = w2.heap.size := ho3.size
  have HC3 := hide hc3
  have hM3 := (ho2.mv w1.heap.size).trans (ho3.mv w1.heap.size)
  have HM3 := hide ((unhide HM1).trans (hM3.mono (by omega)))
  have HG3 := hide ((unhide HG1).mv hM3 (Nat.le_refl _) (by omega))
  have hz9 : w.heap.size ≤ w3.heap.size := by omega
  clear hc2 hc3 ho2 ho3 hM3 HG1 HC1 hz1 hz2 hz3
  have HEL := hide ((unhide HG3).e.els2 (unhide HN))
  obtain ⟨g2, cp2, s2, hsp⟩ := (unhide HG3).at (unhide HN) hil
  have e2 := hsp.val
  simp only [Value.slice.injEq, Option.some.injEq, Addr.mk.injEq, and_true, true_and] at e2
  obtain ⟨rfl, rfl⟩ := e2
  have hcp := hsp.cap
  unfold maxLen at hcp
  have hlen1 : (t.take (t.length - 1)).length = t.length - 1 := by rw [List.length_take]; omega
  have HF : Hid (ElsAt w.heap.size w3.heap.size w3 (.slice (some ⟨g, 0, none⟩) (t.length - 1) cp) (t.take (t.length - 1))) := by
    have h1 : ElsAt w.heap.size w3.heap.size w3 (.slice (some ⟨g, 0, none⟩) t.length cp) (t.take (t.length - 1) ++ t.drop (t.length - 1)) := by rw [List.take_append_drop]; exact unhide HEL
    have h2 := h1.pre
    rw [hlen1] at h2
    exact h2
  have hs1 : (0 : Int) ≤ (t.length : Int) - 1 := by omega
  have hs2 : (t.length : Int) - 1 ≤ (cp : Int) := by omega
  have hs3 : ((t.length : Int) - 1).toNat = t.length - 1 := by omega
  clear hsp
  go_wp2
  go_ret
  have e9 := unhide HRR
  subst e9
  refine ⟨⟨_, rfl, ?_⟩, unhide HC3, unhide HM3⟩
  exact (unhide HF).mono (Nat.le_refl _) (Nat.le_refl _)
set_option maxHeartbeats 16000000 in
set_option maxRecDepth 100000 in
theorem l1spoil_10 (N D lo : Nat) (tv : Value) (t : List El) (xs : List Int) (w : World) (h : CdAt N D w xs) (hx : Cod xs) (hD : D < lo) (hlo : lo ≤ w.heap.size) (htv : ElsAt lo w.heap.size w tv t) (hn : NL 700 t) (ht : 0 < t.length) (hk : xs.headD 0 % 12 = 10) :
    Calls Tryz.prog 36 #[tv, .pointer (some ⟨D, 0, none⟩)] w (DrE N D w.heap.size w (dSpoil t xs)) := by
  have H := hide h
  have HX := hide hx
  have hh := hx.head
  have hh2 := hx.tail.head
  have hh3 := hx.tail.tail.head
  have hl := hn.len
  have HN := hide hn.nice
  have HTV := hide htv
  obtain ⟨ta, tc, rfl, -⟩ := htv
  obtain ⟨y, hy⟩ : ∃ y, xs.headD 0 = y := ⟨_, rfl⟩
  obtain ⟨y2, hy2⟩ : ∃ y, xs.tail.headD 0 = y := ⟨_, rfl⟩
  obtain ⟨y3, hy3⟩ : ∃ y, xs.tail.tail.headD 0 = y := ⟨_, rfl⟩
  rw [hy] at hh hk
  rw [hy2] at hh2
  rw [hy3] at hh3
  obtain ⟨i, hi⟩ : ∃ i : Nat, (y2 % (t.length : Int)).toNat = i := ⟨_, rfl⟩
  have hm0 := Int.emod_nonneg y2 (show (t.length : Int) ≠ 0 by omega)
  have hm1 := Int.emod_lt_of_pos y2 (show (0 : Int) < t.length by omega)
  have hi2 : y2 % (t.length : Int) = (i : Int) := by omega
  have hil : i < t.length := by omega
  obtain ⟨R, hR⟩ : ∃ R, R = dSpoil t xs := ⟨_, rfl⟩
  rw [← hR]
  have HRR : Hid (R = (t ++ [⟨2, [], 0, 0⟩], xs.tail.tail)) := by
    show R = _
    rw [hR]
    unfold dSpoil
    rw [hy, hy2, hy3, hi]
    refine Prod.ext ?_ ?_
    · show spT t (y % 12) y3 i = _
      unfold spT
      rw [if_neg (by omega), if_neg (by omega), if_pos hk]
    · show (if y % 12 = 2 then _ else _) = _
      rw [if_neg (by omega)]
  have HY := hide hy
  have HY2 := hide hy2
  have HY3 := hide hy3
  have n0 : ¬ y % 12 = 0 := by omega
  have n1 : ¬ y % 12 = 1 := by omega
  have n2 : ¬ y % 12 = 2 := by omega
  have n3 : ¬ y % 12 = 3 := by omega
  have n4 : ¬ y % 12 = 4 := by omega
  have n5 : ¬ y % 12 = 5 := by omega
  have n6 : ¬ y % 12 = 6 := by omega
  have n7 : ¬ y % 12 = 7 := by omega
  have n8 : ¬ y % 12 = 8 := by omega
  have n9 : ¬ y % 12 = 9 := by omega
  have hlz : ¬ (t.length : Int) = 0 := by omega
  clear hy hy2 hy3 h hx hR hi hn hm0 hm1
  go_enter Tryz.func36, Tryz.ntmps36
  go_wp2_with fail
  refine (l1copy_o _ t w ((unhide HTV).mono (Nat.zero_le _) (Nat.le_refl _)) (by omega) (unhide HN).len).mono ?_
  rintro e w1 ⟨v1, rfl, hg1, hb1⟩
  obtain ⟨g, cp, s1, hsp1⟩ := hg1.at (unhide HN) hil
  have e1 := hsp1.val
  subst e1
  have HG1 := hide hg1
  have hz1 := hb1.size
  have HC1 := hide ((unhide H).keep hb1 (by omega))
  have HM1 := hide (Below.mv hb1 D)
  clear hg1 hb1 hsp1
  go_wp2_with fail
  refine (next_any N D xs w1 (unhide HC1) (unhide HX)).mono ?_
  rintro e w2 ⟨he, hc2, ho2⟩
  rw [unhide HY] at he
  subst he
  go_wp2_with fail
  refine (next_any N D xs.tail w2 hc2 (unhide HX).tail).mono ?_
  rintro e w3 ⟨he, hc3, ho3⟩
  rw [unhide HY2] at he
  subst he
  have hz2 : w2.heap.size = w1.heap.size := ho2.size
  have hz3 : w3.heap.size = w2.heap.size := ho3.size
  have HC3 := hide hc3
  have hM3 := (ho2.mv w1.heap.size).trans (ho3.mv w1.heap.size)
  have HM3 := hide ((unhide HM1).trans (hM3.mono (by omega)))
  have HG3 := hide ((unhide HG1).mv hM3 (Nat.le_refl _) (by omega))
  have hz9 : w.heap.size ≤ w3.heap.size := by omega
  clear hc2 hc3 ho2 ho3 hM3 HG1 HC1 hz1 hz2 hz3
  obtain ⟨ps, hps, hgp, -⟩ := unhide HG3
  have Hgp := hide hgp
  have Hps := hide hps
  have hpl : ps.length = t.length := by rw [← hps, List.length_map]
  clear hgp hps
  go_wp2_with (at_builtin; refine app_op ⟨2, [], 0, 0⟩ (.slice none 0 0) (fun _ => False) rfl _ _ rfl rfl rfl (unhide Hgp) (by omega) (Below.refl _ _) (SlF.none _) (fun k hk => hk.elim) rfl ⟨rfl, rfl, rfl, rfl⟩ (by omega) ?_)
  intro v4 w4 hg4 hb4
  have HF : Hid (GrowE w.heap.size w4 v4 (t ++ [⟨2, [], 0, 0⟩])) := ⟨_, by simp [unhide Hps], hg4⟩
  have HE : Hid (ElsAt w.heap.size w4.heap.size w4 v4 (t ++ [⟨2, [], 0, 0⟩])) := (unhide HF).els2 ((unhide HN).app (Nice.op _ _ _ (by simp [In64]) (by simp [In64]) (by simp [In64])))
  clear hg4
  go_wp2
  go_ret
  have e9 := unhide HRR
  subst e9
  refine ⟨⟨_, rfl, ?_⟩, (unhide HC3).keep hb4 (by omega), (unhide HM3).trans (Below.mv hb4 D)⟩
  exact (unhide HE).mono (Nat.le_refl _) (Nat.le_refl _)
set_option maxHeartbeats 16000000 in
set_option maxRecDepth 100000 in
theorem l1spoil_11 (N D lo : Nat) (tv : Value) (t : List El) (xs : List Int) (w : World) (h : CdAt N D w xs) (hx : Cod xs) (hD : D < lo) (hlo : lo ≤ w.heap.size) (htv : ElsAt lo w.heap.size w tv t) (hn : NL 700 t) (ht : 0 < t.length) (hk : 11 ≤ xs.headD 0 % 12) :
    Calls Tryz.prog 36 #[tv, .pointer (some ⟨D, 0, none⟩)] w (DrE N D w.heap.size w (dSpoil t xs)) := by
  have H := hide h
  have HX := hide hx
  have hh := hx.head
  have hh2 := hx.tail.head
  have hh3 := hx.tail.tail.head
  have hl := hn.len
  have HN := hide hn.nice
  have HTV := hide htv
  obtain ⟨ta, tc, rfl, -⟩ := htv
  obtain ⟨y, hy⟩ : ∃ y, xs.headD 0 = y := ⟨_, rfl⟩
  obtain ⟨y2, hy2⟩ : ∃ y, xs.tail.headD 0 = y := ⟨_, rfl⟩
  obtain ⟨y3, hy3⟩ : ∃ y, xs.tail.tail.headD 0 = y := ⟨_, rfl⟩
  rw [hy] at hh hk
  rw [hy2] at hh2
  rw [hy3] at hh3
  obtain ⟨i, hi⟩ : ∃ i : Nat, (y2 % (t.length : Int)).toNat = i := ⟨_, rfl⟩
  have hm0 := Int.emod_nonneg y2 (show (t.length : Int) ≠ 0 by omega)
  have hm1 := Int.emod_lt_of_pos y2 (show (0 : Int) < t.length by omega)
  have hi2 : y2 % (t.length : Int) = (i : Int) := by omega
  have hil : i < t.length := by omega
  obtain ⟨R, hR⟩ : ∃ R, R = dSpoil t xs := ⟨_, rfl⟩
  rw [← hR]
  have HRR : Hid (R = (t ++ [⟨0, [], 0, 0⟩], xs.tail.tail)) := by
    show R = _
    rw [hR]
    unfold dSpoil
    rw [hy, hy2, hy3, hi]
    refine Prod.ext ?_ ?_
    · show spT t (y % 12) y3 i = _
      unfold spT
      rw [if_neg (by omega), if_neg (by omega), if_neg (by omega)]
    · show (if y % 12 = 2 then _ else _) = _
      rw [if_neg (by omega)]
  have HY := hide hy
  have HY2 := hide hy2
  have HY3 := hide hy3
  have n0 : ¬ y % 12 = 0 := by omega
  have n1 : ¬ y % 12 = 1 := by omega
  have n2 : ¬ y % 12 = 2 := by omega
  have n3 : ¬ y % 12 = 3 := by omega
  have n4 : ¬ y % 12 = 4 := by omega
  have n5 : ¬ y % 12 = 5 := by omega
  have n6 : ¬ y % 12 = 6 := by omega
  have n7 : ¬ y % 12 = 7 := by omega
  have n8 : ¬ y % 12 = 8 := by omega
  have n9 : ¬ y % 12 = 9 := by omega
  have n10 : ¬ y % 12 = 10 := by omega
  have hlz : ¬ (t.length : Int) = 0 := by omega
  clear hy hy2 hy3 h hx hR hi hn hm0 hm1
  go_enter Tryz.func36, Tryz.ntmps36
  go_wp2_with fail
  refine (l1copy_o _ t w ((unhide HTV).mono (Nat.zero_le _) (Nat.le_refl _)) (by omega) (unhide HN).len).mono ?_
  rintro e w1 ⟨v1, rfl, hg1, hb1⟩
  obtain ⟨g, cp, s1, hsp1⟩ := hg1.at (unhide HN) hil
  have e1 := hsp1.val
  subst e1
  have HG1 := hide hg1
  have hz1 := hb1.size
  have HC1 := hide ((unhide H).keep hb1 (by omega))
  have HM1 := hide (Below.mv hb1 D)
  clear hg1 hb1 hsp1
  go_wp2_with fail
  refine (next_any N D xs w1 (unhide HC1) (unhide HX)).mono ?_
  rintro e w2 ⟨he, hc2, ho2⟩
  rw [unhide HY] at he
  subst he
  go_wp2_with fail
  refine (next_any N D xs.tail w2 hc2 (unhide HX).tail).mono ?_
  rintro e w3 ⟨he, hc3, ho3⟩
  rw [unhide HY2] at he
  subst he
  have hz2 : w2.heap.size = w1.heap.size := ho2.size
  have hz3 : w3.heap.size = w2.heap.size := ho3.size
  have HC3 := hide hc3
  have hM3 := (ho2.mv w1.heap.size).trans (ho3.mv w1.heap.size)
  have HM3 := hide ((unhide HM1).trans (hM3.mono (by omega)))
  have HG3 := hide ((unhide HG1).mv hM3 (Nat.le_refl _) (by omega))
  have hz9 : w.heap.size ≤ w3.heap.size := by omega
  clear hc2 hc3 ho2 ho3 hM3 HG1 HC1 hz1 hz2 hz3
  obtain ⟨ps, hps, hgp, -⟩ := unhide HG3
  have Hgp := hide hgp
  have Hps := hide hps
  have hpl : ps.length = t.length := by rw [← hps, List.length_map]
  clear hgp hps
  go_wp2_with (at_builtin; refine app_op ⟨0, [], 0, 0⟩ (.slice none 0 0) (fun _ => False) rfl _ _ rfl rfl rfl (unhide Hgp) (by omega) (Below.refl _ _) (SlF.none _) (fun k hk => hk.elim) rfl ⟨rfl, rfl, rfl, rfl⟩ (by omega) ?_)
  intro v4 w4 hg4 hb4
  have HF : Hid (GrowE w.heap.size w4 v4 (t ++ [⟨0, [], 0, 0⟩])) := ⟨_, by simp [unhide Hps], hg4⟩
  have HE : Hid (ElsAt w.heap.size w4.heap.size w4 v4 (t ++ [⟨0, [], 0, 0⟩])) := (unhide HF).els2 ((unhide HN).app (Nice.op _ _ _ (by simp [In64]) (by simp [In64]) (by simp [In64])))
  clear hg4
  go_wp2
  go_ret
  have e9 := unhide HRR
  subst e9
  refine ⟨⟨_, rfl, ?_⟩, (unhide HC3).keep hb4 (by omega), (unhide HM3).trans (Below.mv hb4 D)⟩
  exact (unhide HE).mono (Nat.le_refl _) (Nat.le_refl _)
theorem l1spoil_any (N D lo : Nat) (tv : Value) (t : List El) (xs : List Int) (w : World) (h : CdAt N D w xs) (hx : Cod xs) (hD : D < lo) (hlo : lo ≤ w.heap.size) (htv : ElsAt lo w.heap.size w tv t) (hn : NL 700 t) (ht : 0 < t.length) : Calls Tryz.prog 36 #[tv, .pointer (some ⟨D, 0, none⟩)] w (DrE N D w.heap.size w (dSpoil t xs)) := by
  have hh := hx.head
  by_cases h0 : xs.headD 0 % 12 = 0
  · exact l1spoil_0 N D lo tv t xs w h hx hD hlo htv hn ht h0
  by_cases h1 : xs.headD 0 % 12 = 1
  · exact l1spoil_1 N D lo tv t xs w h hx hD hlo htv hn ht h1
  by_cases h2 : xs.headD 0 % 12 = 2
  · exact l1spoil_2 N D lo tv t xs w h hx hD hlo htv hn ht h2
  by_cases h3 : xs.headD 0 % 12 = 3
  · exact l1spoil_3 N D lo tv t xs w h hx hD hlo htv hn ht h3
  by_cases h4 : xs.headD 0 % 12 = 4
  · exact l1spoil_4 N D lo tv t xs w h hx hD hlo htv hn ht h4
  by_cases h5 : xs.headD 0 % 12 = 5
  · exact l1spoil_5 N D lo tv t xs w h hx hD hlo htv hn ht h5
  by_cases h6 : xs.headD 0 % 12 = 6
  · exact l1spoil_6 N D lo tv t xs w h hx hD hlo htv hn ht h6
  by_cases h7 : xs.headD 0 % 12 = 7
  · exact l1spoil_7 N D lo tv t xs w h hx hD hlo htv hn ht h7
  by_cases h8 : xs.headD 0 % 12 = 8
  · exact l1spoil_8 N D lo tv t xs w h hx hD hlo htv hn ht h8
  by_cases h9 : xs.headD 0 % 12 = 9
  · exact l1spoil_9 N D lo tv t xs w h hx hD hlo htv hn ht h9
  by_cases h10 : xs.headD 0 % 12 = 10
  · exact l1spoil_10 N D lo tv t xs w h hx hD hlo htv hn ht h10
  exact l1spoil_11 N D lo tv t xs w h hx hD hlo htv hn ht (by omega)
set_option maxHeartbeats 16000000 in
set_option maxRecDepth 100000 in
theorem l1drawLimit_0 (N D lo : Nat) (xs : List Int) (w : World) (h : CdAt N D w xs) (hx : Cod xs) (hD : D < lo) (hlo : lo ≤ w.heap.size) (hk : xs.headD 0 % 6 = 0) :
    Calls Tryz.prog 34 #[.pointer (some ⟨D, 0, none⟩)] w (DrE N D lo w (dLim xs)) := by
  have H := hide h
  have HX := hide hx
  have hh := hx.head
  have hh2 := hx.tail.head
  obtain ⟨y, hy⟩ : ∃ y, xs.headD 0 = y := ⟨_, rfl⟩
  obtain ⟨y2, hy2⟩ : ∃ y, xs.tail.headD 0 = y := ⟨_, rfl⟩
  unfold dLim
  rw [hy, hy2]
  rw [hy] at hh hk
  rw [hy2] at hh2
  rw [hk]
  obtain ⟨L, hL⟩ : ∃ L, L = limT 0 (y2 % 3 - 1) := ⟨_, rfl⟩
  rw [← hL]
  have HL := hide hL
  have HY := hide hy
  have HY2 := hide hy2
  have hd0 : -1 ≤ y2 % 3 - 1 ∧ y2 % 3 - 1 ≤ 1 := by omega
  clear hy hy2 h hx hL
  have HE : Hid (L = repTr (catT (oneE 97) (oneE 98)) (250 + (y2 % 3 - 1)) (250 + (y2 % 3 - 1))) := by show L = _; rw [unhide HL]; unfold limT; rw [if_pos rfl]
  go_enter Tryz.func34, Tryz.ntmps34
  go_wp2_with fail
  refine (next_any N D xs w (unhide H) (unhide HX)).mono ?_
  rintro e w0 ⟨he, hc0, ho0⟩
  rw [unhide HY] at he
  subst he
  go_wp2_with fail
  refine (next_any N D xs.tail w0 hc0 (unhide HX).tail).mono ?_
  rintro e w1 ⟨he, hc1, ho1⟩
  rw [unhide HY2] at he
  subst he
  have hz0 : w0.heap.size = w.heap.size := ho0.size
  have hz1 : w1.heap.size = w0.heap.size := ho1.size
  have HC1 := hide hc1
  have HM1 := hide ((ho0.mv w.heap.size).trans (ho1.mv w.heap.size))
  clear hc0 ho0 hc1 ho1
  go_wp2_with fail
  refine (l1one_any 97 w1 (by unfold In64; omega)).mono ?_
  rintro e w2 ⟨v2, rfl, hv2, hb2⟩
  have HI2 := hide (hv2.mono (lo' := lo) (by omega) (Nat.le_refl _))
  obtain ⟨a2, c2, rfl, -⟩ := hv2
  have hz2 := hb2.size
  have HC2 := hide ((unhide HC1).keep hb2 (by omega))
  have HM2 := hide ((unhide HM1).trans (bmv hb2 D (by omega)))
  clear hb2
  go_wp2_with fail
  refine (l1set_any lo _ _ w2 (unhide HI2) (by omega) (by simp)).mono ?_
  rintro e w3 ⟨v3, rfl, hv3, hb3⟩
  have HTa3 := hide hv3
  obtain ⟨a3, c3, rfl, -⟩ := hv3
  have hz3 := hb3.size
  have HC3 := hide ((unhide HC2).keep hb3 (by omega))
  have HM3 := hide ((unhide HM2).trans (bmv hb3 D (by omega)))
  clear hb3
  go_wp2_with fail
  refine (l1one_any 98 w3 (by unfold In64; omega)).mono ?_
  rintro e w4 ⟨v4, rfl, hv4, hb4⟩
  have HI4 := hide (hv4.mono (lo' := lo) (by omega) (Nat.le_refl _))
  obtain ⟨a4, c4, rfl, -⟩ := hv4
  have hz4 := hb4.size
  have HC4 := hide ((unhide HC3).keep hb4 (by omega))
  have HM4 := hide ((unhide HM3).trans (bmv hb4 D (by omega)))
  have HTa4 := hide ((unhide HTa3).below hb4 (Nat.le_refl _))
  clear hb4
  go_wp2_with fail
  refine (l1set_any lo _ _ w4 (unhide HI4) (by omega) (by simp)).mono ?_
  rintro e w5 ⟨v5, rfl, hv5, hb5⟩
  have HTb5 := hide hv5
  obtain ⟨a5, c5, rfl, -⟩ := hv5
  have hz5 := hb5.size
  have HC5 := hide ((unhide HC4).keep hb5 (by omega))
  have HM5 := hide ((unhide HM4).trans (bmv hb5 D (by omega)))
  have HTa5 := hide ((unhide HTa4).below hb5 (Nat.le_refl _))
  clear hb5
  go_wp2_with fail
  refine (cat_dt (unhide HTa5) (unhide HTb5) (NL.one (x := 97) (by omega) (by omega)) (NL.one (x := 98) (by omega) (by omega)) (by omega) (by omega) (by omega)).mono ?_
  rintro e w6 ⟨v6, rfl, hv6, hb6⟩
  have HTab6 := hide hv6
  obtain ⟨a6, c6, rfl, -⟩ := hv6
  have hz6 := hb6.size
  have HC6 := hide ((unhide HC5).keep hb6 (by omega))
  have HM6 := hide ((unhide HM5).trans (bmv hb6 D (by omega)))
  have HTa6 := hide ((unhide HTa5).below hb6 (Nat.le_refl _))
  have HTb6 := hide ((unhide HTb5).below hb6 (Nat.le_refl _))
  clear hb6
  go_wp2_with fail
  refine (rep_dt (unhide HTab6) ((NL.one (x := 97) (by omega) (by omega)).cat (NL.one (x := 98) (by omega) (by omega))) (by omega) (by omega) (p := (250 + (y2 % 3 - 1))) (q := (250 + (y2 % 3 - 1))) (by unfold In64; omega) (by unfold In64; omega)).mono ?_
  rintro e w7 ⟨v7, rfl, hv7, hb7⟩
  have HTt7 := hide hv7
  obtain ⟨a7, c7, rfl, -⟩ := hv7
  have hz7 := hb7.size
  have HC7 := hide ((unhide HC6).keep hb7 (by omega))
  have HM7 := hide ((unhide HM6).trans (bmv hb7 D (by omega)))
  have HTab7 := hide ((unhide HTab6).below hb7 (Nat.le_refl _))
  clear hb7
  go_wp2
  go_ret
  refine ⟨⟨_, rfl, ?_⟩, unhide HC7, unhide HM7⟩
  show ElsAt lo _ _ _ L
  rw [unhide HE]
  exact unhide HTt7
set_option maxHeartbeats 16000000 in
set_option maxRecDepth 100000 in
theorem l1drawLimit_1 (N D lo : Nat) (xs : List Int) (w : World) (h : CdAt N D w xs) (hx : Cod xs) (hD : D < lo) (hlo : lo ≤ w.heap.size) (hk : xs.headD 0 % 6 = 1) :
    Calls Tryz.prog 34 #[.pointer (some ⟨D, 0, none⟩)] w (DrE N D lo w (dLim xs)) := by
  have H := hide h
  have HX := hide hx
  have hh := hx.head
  have hh2 := hx.tail.head
  obtain ⟨y, hy⟩ : ∃ y, xs.headD 0 = y := ⟨_, rfl⟩
  obtain ⟨y2, hy2⟩ : ∃ y, xs.tail.headD 0 = y := ⟨_, rfl⟩
  unfold dLim
  rw [hy, hy2]
  rw [hy] at hh hk
  rw [hy2] at hh2
  rw [hk]
  obtain ⟨L, hL⟩ : ∃ L, L = limT 1 (y2 % 3 - 1) := ⟨_, rfl⟩
  rw [← hL]
  have HL := hide hL
  have HY := hide hy
  have HY2 := hide hy2
  have n0 : ¬ y % 6 = 0 := by omega
  have hd0 : -1 ≤ y2 % 3 - 1 ∧ y2 % 3 - 1 ≤ 1 := by omega
  clear hy hy2 h hx hL
  have HE : Hid (L = repTr (oneE 97) 0 (250 + (y2 % 3 - 1))) := by show L = _; rw [unhide HL]; unfold limT; rw [if_neg (by decide), if_pos rfl]
  go_enter Tryz.func34, Tryz.ntmps34
  go_wp2_with fail
  refine (next_any N D xs w (unhide H) (unhide HX)).mono ?_
  rintro e w0 ⟨he, hc0, ho0⟩
  rw [unhide HY] at he
  subst he
  go_wp2_with fail
  refine (next_any N D xs.tail w0 hc0 (unhide HX).tail).mono ?_
  rintro e w1 ⟨he, hc1, ho1⟩
  rw [unhide HY2] at he
  subst he
  have hz0 : w0.heap.size = w.heap.size := ho0.size
  have hz1 : w1.heap.size = w0.heap.size := ho1.size
  have HC1 := hide hc1
  have HM1 := hide ((ho0.mv w.heap.size).trans (ho1.mv w.heap.size))
  clear hc0 ho0 hc1 ho1
  go_wp2_with fail
  refine (l1one_any 97 w1 (by unfold In64; omega)).mono ?_
  rintro e w2 ⟨v2, rfl, hv2, hb2⟩
  have HI2 := hide (hv2.mono (lo' := lo) (by omega) (Nat.le_refl _))
  obtain ⟨a2, c2, rfl, -⟩ := hv2
  have hz2 := hb2.size
  have HC2 := hide ((unhide HC1).keep hb2 (by omega))
  have HM2 := hide ((unhide HM1).trans (bmv hb2 D (by omega)))
  clear hb2
  go_wp2_with fail
  refine (l1set_any lo _ _ w2 (unhide HI2) (by omega) (by simp)).mono ?_
  rintro e w3 ⟨v3, rfl, hv3, hb3⟩
  have HTa3 := hide hv3
  obtain ⟨a3, c3, rfl, -⟩ := hv3
  have hz3 := hb3.size
  have HC3 := hide ((unhide HC2).keep hb3 (by omega))
  have HM3 := hide ((unhide HM2).trans (bmv hb3 D (by omega)))
  clear hb3
  go_wp2_with fail
  refine (l1one_any 98 w3 (by unfold In64; omega)).mono ?_
  rintro e w4 ⟨v4, rfl, hv4, hb4⟩
  have HI4 := hide (hv4.mono (lo' := lo) (by omega) (Nat.le_refl _))
  obtain ⟨a4, c4, rfl, -⟩ := hv4
  have hz4 := hb4.size
  have HC4 := hide ((unhide HC3).keep hb4 (by omega))
  have HM4 := hide ((unhide HM3).trans (bmv hb4 D (by omega)))
  have HTa4 := hide ((unhide HTa3).below hb4 (Nat.le_refl _))
  clear hb4
  go_wp2_with fail
  refine (l1set_any lo _ _ w4 (unhide HI4) (by omega) (by simp)).mono ?_
  rintro e w5 ⟨v5, rfl, hv5, hb5⟩
  have HTb5 := hide hv5
  obtain ⟨a5, c5, rfl, -⟩ := hv5
  have hz5 := hb5.size
  have HC5 := hide ((unhide HC4).keep hb5 (by omega))
  have HM5 := hide ((unhide HM4).trans (bmv hb5 D (by omega)))
  have HTa5 := hide ((unhide HTa4).below hb5 (Nat.le_refl _))
  clear hb5
  go_wp2_with fail
  refine (cat_dt (unhide HTa5) (unhide HTb5) (NL.one (x := 97) (by omega) (by omega)) (NL.one (x := 98) (by omega) (by omega)) (by omega) (by omega) (by omega)).mono ?_
  rintro e w6 ⟨v6, rfl, hv6, hb6⟩
  have HTab6 := hide hv6
  obtain ⟨a6, c6, rfl, -⟩ := hv6
  have hz6 := hb6.size
  have HC6 := hide ((unhide HC5).keep hb6 (by omega))
  have HM6 := hide ((unhide HM5).trans (bmv hb6 D (by omega)))
  have HTa6 := hide ((unhide HTa5).below hb6 (Nat.le_refl _))
  have HTb6 := hide ((unhide HTb5).below hb6 (Nat.le_refl _))
  clear hb6
  go_wp2_with fail
  refine (rep_dt (unhide HTa6) (NL.one (x := 97) (by omega) (by omega)) (by omega) (by omega) (p := 0) (q := (250 + (y2 % 3 - 1))) (by unfold In64; omega) (by unfold In64; omega)).mono ?_
  rintro e w7 ⟨v7, rfl, hv7, hb7⟩
  have HTt7 := hide hv7
  obtain ⟨a7, c7, rfl, -⟩ := hv7
  have hz7 := hb7.size
  have HC7 := hide ((unhide HC6).keep hb7 (by omega))
  have HM7 := hide ((unhide HM6).trans (bmv hb7 D (by omega)))
  have HTa7 := hide ((unhide HTa6).below hb7 (Nat.le_refl _))
  clear hb7
  go_wp2
  go_ret
  refine ⟨⟨_, rfl, ?_⟩, unhide HC7, unhide HM7⟩
  show ElsAt lo _ _ _ L
  rw [unhide HE]
  exact unhide HTt7
set_option maxHeartbeats 16000000 in
set_option maxRecDepth 100000 in
theorem l1drawLimit_2 (N D lo : Nat) (xs : List Int) (w : World) (h : CdAt N D w xs) (hx : Cod xs) (hD : D < lo) (hlo : lo ≤ w.heap.size) (hk : xs.headD 0 % 6 = 2) :
    Calls Tryz.prog 34 #[.pointer (some ⟨D, 0, none⟩)] w (DrE N D lo w (dLim xs)) := by
  have H := hide h
  have HX := hide hx
  have hh := hx.head
  have hh2 := hx.tail.head
  obtain ⟨y, hy⟩ : ∃ y, xs.headD 0 = y := ⟨_, rfl⟩
  obtain ⟨y2, hy2⟩ : ∃ y, xs.tail.headD 0 = y := ⟨_, rfl⟩
  unfold dLim
  rw [hy, hy2]
  rw [hy] at hh hk
  rw [hy2] at hh2
  rw [hk]
  obtain ⟨L, hL⟩ : ∃ L, L = limT 2 (y2 % 3 - 1) := ⟨_, rfl⟩
  rw [← hL]
  have HL := hide hL
  have HY := hide hy
  have HY2 := hide hy2
  have n0 : ¬ y % 6 = 0 := by omega
  have n1 : ¬ y % 6 = 1 := by omega
  have hd0 : -1 ≤ y2 % 3 - 1 ∧ y2 % 3 - 1 ≤ 1 := by omega
  clear hy hy2 h hx hL
  go_enter Tryz.func34, Tryz.ntmps34
  go_wp2_with fail
  refine (next_any N D xs w (unhide H) (unhide HX)).mono ?_
  rintro e w0 ⟨he, hc0, ho0⟩
  rw [unhide HY] at he
  subst he
  go_wp2_with fail
  refine (next_any N D xs.tail w0 hc0 (unhide HX).tail).mono ?_
  rintro e w1 ⟨he, hc1, ho1⟩
  rw [unhide HY2] at he
  subst he
  have hz0 : w0.heap.size = w.heap.size := ho0.size
  have hz1 : w1.heap.size = w0.heap.size := ho1.size
  have HC1 := hide hc1
  have HM1 := hide ((ho0.mv w.heap.size).trans (ho1.mv w.heap.size))
  clear hc0 ho0 hc1 ho1
  go_wp2_with fail
  refine (l1one_any 97 w1 (by unfold In64; omega)).mono ?_
  rintro e w2 ⟨v2, rfl, hv2, hb2⟩
  have HI2 := hide (hv2.mono (lo' := lo) (by omega) (Nat.le_refl _))
  obtain ⟨a2, c2, rfl, -⟩ := hv2
  have hz2 := hb2.size
  have HC2 := hide ((unhide HC1).keep hb2 (by omega))
  have HM2 := hide ((unhide HM1).trans (bmv hb2 D (by omega)))
  clear hb2
  go_wp2_with fail
  refine (l1set_any lo _ _ w2 (unhide HI2) (by omega) (by simp)).mono ?_
  rintro e w3 ⟨v3, rfl, hv3, hb3⟩
  have HTa3 := hide hv3
  obtain ⟨a3, c3, rfl, -⟩ := hv3
  have hz3 := hb3.size
  have HC3 := hide ((unhide HC2).keep hb3 (by omega))
  have HM3 := hide ((unhide HM2).trans (bmv hb3 D (by omega)))
  clear hb3
  go_wp2_with fail
  refine (l1one_any 98 w3 (by unfold In64; omega)).mono ?_
  rintro e w4 ⟨v4, rfl, hv4, hb4⟩
  have HI4 := hide (hv4.mono (lo' := lo) (by omega) (Nat.le_refl _))
  obtain ⟨a4, c4, rfl, -⟩ := hv4
  have hz4 := hb4.size
  have HC4 := hide ((unhide HC3).keep hb4 (by omega))
  have HM4 := hide ((unhide HM3).trans (bmv hb4 D (by omega)))
  have HTa4 := hide ((unhide HTa3).below hb4 (Nat.le_refl _))
  clear hb4
  go_wp2_with fail
  refine (l1set_any lo _ _ w4 (unhide HI4) (by omega) (by simp)).mono ?_
  rintro e w5 ⟨v5, rfl, hv5, hb5⟩
  have HTb5 := hide hv5
  obtain ⟨a5, c5, rfl, -⟩ := hv5
  have hz5 := hb5.size
  have HC5 := hide ((unhide HC4).keep hb5 (by omega))
  have HM5 := hide ((unhide HM4).trans (bmv hb5 D (by omega)))
  have HTa5 := hide ((unhide HTa4).below hb5 (Nat.le_refl _))
  clear hb5
  go_wp2_with fail
  refine (cat_dt (unhide HTa5) (unhide HTb5) (NL.one (x := 97) (by omega) (by omega)) (NL.one (x := 98) (by omega) (by omega)) (by omega) (by omega) (by omega)).mono ?_
  rintro e w6 ⟨v6, rfl, hv6, hb6⟩
  have HTab6 := hide hv6
  obtain ⟨a6, c6, rfl, -⟩ := hv6
  have hz6 := hb6.size
  have HC6 := hide ((unhide HC5).keep hb6 (by omega))
  have HM6 := hide ((unhide HM5).trans (bmv hb6 D (by omega)))
  have HTa6 := hide ((unhide HTa5).below hb6 (Nat.le_refl _))
  have HTb6 := hide ((unhide HTb5).below hb6 (Nat.le_refl _))
  clear hb6
  go_wp2_with fail
  refine (rep_dt (unhide HTab6) ((NL.one (x := 97) (by omega) (by omega)).cat (NL.one (x := 98) (by omega) (by omega))) (by omega) (by omega) (p := 249) (q := (-1)) (by unfold In64; omega) (by unfold In64; omega)).mono ?_
  rintro e w7 ⟨v7, rfl, hv7, hb7⟩
  have HTt7 := hide hv7
  obtain ⟨a7, c7, rfl, -⟩ := hv7
  have hz7 := hb7.size
  have HC7 := hide ((unhide HC6).keep hb7 (by omega))
  have HM7 := hide ((unhide HM6).trans (bmv hb7 D (by omega)))
  have HTab7 := hide ((unhide HTab6).below hb7 (Nat.le_refl _))
  clear hb7
  obtain ⟨q, hq⟩ : ∃ q : Nat, ((y2 % 3 - 1) + 1).toNat = q := ⟨_, rfl⟩
  have hq2 : y2 % 3 - 1 = (q : Int) - 1 := by omega
  have HE : Hid (L = altN q (repTr (catT (oneE 97) (oneE 98)) 249 (-1))) := by show L = _; rw [unhide HL]; unfold limT; rw [if_neg (by decide), if_neg (by decide), if_pos rfl, hq]
  clear hq
  go_wp2_with fail
  go_loopw [7, 8] (fun tv iv wr => ∃ m : Nat, m ≤ q ∧ iv = .int .i64 (m : Nat) ∧ ElsAt lo wr.heap.size wr tv (altN m (repTr (catT (oneE 97) (oneE 98)) 249 (-1))) ∧ CdAt N D wr xs.tail.tail ∧ Mv w.heap.size D w wr) (fun _ iv _ => q - (intOf iv).toNat)
  case atStart => exact ⟨0, Nat.zero_le _, rfl, unhide HTt7, unhide HC7, unhide HM7⟩
  case round =>
    obtain ⟨m, hm, rfl, hel, hcd, hmv⟩ := hrel
    obtain ⟨w20, rfl⟩ : ∃ w20, w20 = wr := ⟨_, rfl⟩
    have HTt20 := hide hel
    obtain ⟨a20, c20, rfl, -⟩ := hel
    have HC20 := hide hcd
    have HM20 := hide hmv
    have hz20 := hmv.size
    have hnl := altN_nl m (((NL.one (x := 97) (by omega) (by omega)).cat (NL.one (x := 98) (by omega) (by omega))).rep (lo := 249) (hi := (-1)) (by unfold In64; omega) (by unfold In64; omega))
    by_cases hlt : m < q
    · have hlt' : (m : Int) ≤ y2 % 3 - 1 := by omega
      clear hcd hmv
      go_wp2_with fail
      refine (e_dt lo w20 (by omega)).mono ?_
      rintro e w21 ⟨v21, rfl, hv21, hb21⟩
      have HTe21 := hide hv21
      obtain ⟨a21, c21, rfl, -⟩ := hv21
      have hz21 := hb21.size
      have HC21 := hide ((unhide HC20).keep hb21 (by omega))
      have HM21 := hide ((unhide HM20).trans (bmv hb21 D (by omega)))
      have HTt21 := hide ((unhide HTt20).below hb21 (Nat.le_refl _))
      clear hb21
      go_wp2_with fail
      refine (alt_dt (unhide HTt21) (unhide HTe21) hnl DT.e.nl (by omega) (by omega) (by omega)).mono ?_
      rintro e w22 ⟨v22, rfl, hv22, hb22⟩
      have HTr22 := hide hv22
      obtain ⟨a22, c22, rfl, -⟩ := hv22
      have hz22 := hb22.size
      have HC22 := hide ((unhide HC21).keep hb22 (by omega))
      have HM22 := hide ((unhide HM21).trans (bmv hb22 D (by omega)))
      have HTt22 := hide ((unhide HTt21).below hb22 (Nat.le_refl _))
      have HTe22 := hide ((unhide HTe21).below hb22 (Nat.le_refl _))
      clear hb22
      go_wp2
      go_roundw
      case rel => exact ⟨m + 1, by omega, by go_num, by rw [altN_s]; exact unhide HTr22, unhide HC22, unhide HM22⟩
      case measure => simp [intOf]; omega
    · have hlt' : ¬ (m : Int) ≤ y2 % 3 - 1 := by omega
      obtain rfl : m = q := by omega
      clear hcd hmv
      go_wp2
      go_ret
      refine ⟨⟨_, rfl, ?_⟩, unhide HC20, unhide HM20⟩
      show ElsAt lo _ _ _ L
      rw [unhide HE]
      exact unhide HTt20
set_option maxHeartbeats 16000000 in
set_option maxRecDepth 100000 in
theorem l1drawLimit_3 (N D lo : Nat) (xs : List Int) (w : World) (h : CdAt N D w xs) (hx : Cod xs) (hD : D < lo) (hlo : lo ≤ w.heap.size) (hk : xs.headD 0 % 6 = 3) :
    Calls Tryz.prog 34 #[.pointer (some ⟨D, 0, none⟩)] w (DrE N D lo w (dLim xs)) := by
  have H := hide h
  have HX := hide hx
  have hh := hx.head
  have hh2 := hx.tail.head
  obtain ⟨y, hy⟩ : ∃ y, xs.headD 0 = y := ⟨_, rfl⟩
  obtain ⟨y2, hy2⟩ : ∃ y, xs.tail.headD 0 = y := ⟨_, rfl⟩
  unfold dLim
  rw [hy, hy2]
  rw [hy] at hh hk
  rw [hy2] at hh2
  rw [hk]
  obtain ⟨L, hL⟩ : ∃ L, L = limT 3 (y2 % 3 - 1) := ⟨_, rfl⟩
  rw [← hL]
  have HL := hide hL
  have HY := hide hy
  have HY2 := hide hy2
  have n0 : ¬ y % 6 = 0 := by omega
  have n1 : ¬ y % 6 = 1 := by omega
  have n2 : ¬ y % 6 = 2 := by omega
  have hd0 : -1 ≤ y2 % 3 - 1 ∧ y2 % 3 - 1 ≤ 1 := by omega
  clear hy hy2 h hx hL
  go_enter Tryz.func34, Tryz.ntmps34
  go_wp2_with fail
  refine (next_any N D xs w (unhide H) (unhide HX)).mono ?_
  rintro e w0 ⟨he, hc0, ho0⟩
  rw [unhide HY] at he
  subst he
  go_wp2_with fail
  refine (next_any N D xs.tail w0 hc0 (unhide HX).tail).mono ?_
  rintro e w1 ⟨he, hc1, ho1⟩
  rw [unhide HY2] at he
  subst he
  have hz0 : w0.heap.size = w.heap.size := ho0.size
  have hz1 : w1.heap.size = w0.heap.size := ho1.size
  have HC1 := hide hc1
  have HM1 := hide ((ho0.mv w.heap.size).trans (ho1.mv w.heap.size))
  clear hc0 ho0 hc1 ho1
  go_wp2_with fail
  refine (l1one_any 97 w1 (by unfold In64; omega)).mono ?_
  rintro e w2 ⟨v2, rfl, hv2, hb2⟩
  have HI2 := hide (hv2.mono (lo' := lo) (by omega) (Nat.le_refl _))
  obtain ⟨a2, c2, rfl, -⟩ := hv2
  have hz2 := hb2.size
  have HC2 := hide ((unhide HC1).keep hb2 (by omega))
  have HM2 := hide ((unhide HM1).trans (bmv hb2 D (by omega)))
  clear hb2
  go_wp2_with fail
  refine (l1set_any lo _ _ w2 (unhide HI2) (by omega) (by simp)).mono ?_
  rintro e w3 ⟨v3, rfl, hv3, hb3⟩
  have HTa3 := hide hv3
  obtain ⟨a3, c3, rfl, -⟩ := hv3
  have hz3 := hb3.size
  have HC3 := hide ((unhide HC2).keep hb3 (by omega))
  have HM3 := hide ((unhide HM2).trans (bmv hb3 D (by omega)))
  clear hb3
  go_wp2_with fail
  refine (l1one_any 98 w3 (by unfold In64; omega)).mono ?_
  rintro e w4 ⟨v4, rfl, hv4, hb4⟩
  have HI4 := hide (hv4.mono (lo' := lo) (by omega) (Nat.le_refl _))
  obtain ⟨a4, c4, rfl, -⟩ := hv4
  have hz4 := hb4.size
  have HC4 := hide ((unhide HC3).keep hb4 (by omega))
  have HM4 := hide ((unhide HM3).trans (bmv hb4 D (by omega)))
  have HTa4 := hide ((unhide HTa3).below hb4 (Nat.le_refl _))
  clear hb4
  go_wp2_with fail
  refine (l1set_any lo _ _ w4 (unhide HI4) (by omega) (by simp)).mono ?_
  rintro e w5 ⟨v5, rfl, hv5, hb5⟩
  have HTb5 := hide hv5
  obtain ⟨a5, c5, rfl, -⟩ := hv5
  have hz5 := hb5.size
  have HC5 := hide ((unhide HC4).keep hb5 (by omega))
  have HM5 := hide ((unhide HM4).trans (bmv hb5 D (by omega)))
  have HTa5 := hide ((unhide HTa4).below hb5 (Nat.le_refl _))
  clear hb5
  go_wp2_with fail
  refine (cat_dt (unhide HTa5) (unhide HTb5) (NL.one (x := 97) (by omega) (by omega)) (NL.one (x := 98) (by omega) (by omega)) (by omega) (by omega) (by omega)).mono ?_
  rintro e w6 ⟨v6, rfl, hv6, hb6⟩
  have HTab6 := hide hv6
  obtain ⟨a6, c6, rfl, -⟩ := hv6
  have hz6 := hb6.size
  have HC6 := hide ((unhide HC5).keep hb6 (by omega))
  have HM6 := hide ((unhide HM5).trans (bmv hb6 D (by omega)))
  have HTa6 := hide ((unhide HTa5).below hb6 (Nat.le_refl _))
  have HTb6 := hide ((unhide HTb5).below hb6 (Nat.le_refl _))
  clear hb6
  go_wp2_with fail
  refine (rep_dt (unhide HTab6) ((NL.one (x := 97) (by omega) (by omega)).cat (NL.one (x := 98) (by omega) (by omega))) (by omega) (by omega) (p := 5) (q := 5) (by unfold In64; omega) (by unfold In64; omega)).mono ?_
  rintro e w7 ⟨v7, rfl, hv7, hb7⟩
  have HTx7 := hide hv7
  obtain ⟨a7, c7, rfl, -⟩ := hv7
  have hz7 := hb7.size
  have HC7 := hide ((unhide HC6).keep hb7 (by omega))
  have HM7 := hide ((unhide HM6).trans (bmv hb7 D (by omega)))
  have HTab7 := hide ((unhide HTab6).below hb7 (Nat.le_refl _))
  clear hb7
  go_wp2_with fail
  refine (rep_dt (unhide HTx7) (((NL.one (x := 97) (by omega) (by omega)).cat (NL.one (x := 98) (by omega) (by omega))).rep (lo := 5) (hi := 5) (by unfold In64; omega) (by unfold In64; omega)) (by omega) (by omega) (p := 50) (q := 50) (by unfold In64; omega) (by unfold In64; omega)).mono ?_
  rintro e w8 ⟨v8, rfl, hv8, hb8⟩
  have HTt8 := hide hv8
  obtain ⟨a8, c8, rfl, -⟩ := hv8
  have hz8 := hb8.size
  have HC8 := hide ((unhide HC7).keep hb8 (by omega))
  have HM8 := hide ((unhide HM7).trans (bmv hb8 D (by omega)))
  have HTx8 := hide ((unhide HTx7).below hb8 (Nat.le_refl _))
  clear hb8
  by_cases hd1 : y2 % 3 - 1 = 1
  · have HE : Hid (L = altT (repTr (repTr (catT (oneE 97) (oneE 98)) 5 5) 50 50) eE) := by show L = _; rw [unhide HL]; unfold limT; rw [if_neg (by decide), if_neg (by decide), if_neg (by decide), if_pos rfl, if_pos hd1]
    go_wp2_with fail
    refine (e_dt lo w8 (by omega)).mono ?_
    rintro e w9 ⟨v9, rfl, hv9, hb9⟩
    have HTe9 := hide hv9
    obtain ⟨a9, c9, rfl, -⟩ := hv9
    have hz9 := hb9.size
    have HC9 := hide ((unhide HC8).keep hb9 (by omega))
    have HM9 := hide ((unhide HM8).trans (bmv hb9 D (by omega)))
    have HTt9 := hide ((unhide HTt8).below hb9 (Nat.le_refl _))
    clear hb9
    go_wp2_with fail
    refine (alt_dt (unhide HTt9) (unhide HTe9) ((((NL.one (x := 97) (by omega) (by omega)).cat (NL.one (x := 98) (by omega) (by omega))).rep (lo := 5) (hi := 5) (by unfold In64; omega) (by unfold In64; omega)).rep (lo := 50) (hi := 50) (by unfold In64; omega) (by unfold In64; omega)) DT.e.nl (by omega) (by omega) (by omega)).mono ?_
    rintro e w10 ⟨v10, rfl, hv10, hb10⟩
    have HTr10 := hide hv10
    obtain ⟨a10, c10, rfl, -⟩ := hv10
    have hz10 := hb10.size
    have HC10 := hide ((unhide HC9).keep hb10 (by omega))
    have HM10 := hide ((unhide HM9).trans (bmv hb10 D (by omega)))
    have HTt10 := hide ((unhide HTt9).below hb10 (Nat.le_refl _))
    have HTe10 := hide ((unhide HTe9).below hb10 (Nat.le_refl _))
    clear hb10
    go_wp2
    go_ret
    refine ⟨⟨_, rfl, ?_⟩, unhide HC10, unhide HM10⟩
    show ElsAt lo _ _ _ L
    rw [unhide HE]
    exact unhide HTr10
  · have HE : Hid (L = repTr (repTr (catT (oneE 97) (oneE 98)) 5 5) 50 50) := by show L = _; rw [unhide HL]; unfold limT; rw [if_neg (by decide), if_neg (by decide), if_neg (by decide), if_pos rfl, if_neg hd1]
    go_wp2
    go_ret
    refine ⟨⟨_, rfl, ?_⟩, unhide HC8, unhide HM8⟩
    show ElsAt lo _ _ _ L
    rw [unhide HE]
    exact unhide HTt8
set_option maxHeartbeats 16000000 in
set_option maxRecDepth 100000 in
theorem l1drawLimit_4 (N D lo : Nat) (xs : List Int) (w : World) (h : CdAt N D w xs) (hx : Cod xs) (hD : D < lo) (hlo : lo ≤ w.heap.size) (hk : xs.headD 0 % 6 = 4) :
    Calls Tryz.prog 34 #[.pointer (some ⟨D, 0, none⟩)] w (DrE N D lo w (dLim xs)) := by
  have H := hide h
  have HX := hide hx
  have hh := hx.head
  have hh2 := hx.tail.head
  obtain ⟨y, hy⟩ : ∃ y, xs.headD 0 = y := ⟨_, rfl⟩
  obtain ⟨y2, hy2⟩ : ∃ y, xs.tail.headD 0 = y := ⟨_, rfl⟩
  unfold dLim
  rw [hy, hy2]
  rw [hy] at hh hk
  rw [hy2] at hh2
  rw [hk]
  obtain ⟨L, hL⟩ : ∃ L, L = limT 4 (y2 % 3 - 1) := ⟨_, rfl⟩
  rw [← hL]
  have HL := hide hL
  have HY := hide hy
  have HY2 := hide hy2
  have n0 : ¬ y % 6 = 0 := by omega
  have n1 : ¬ y % 6 = 1 := by omega
  have n2 : ¬ y % 6 = 2 := by omega
  have n3 : ¬ y % 6 = 3 := by omega
  have hd0 : -1 ≤ y2 % 3 - 1 ∧ y2 % 3 - 1 ≤ 1 := by omega
  clear hy hy2 h hx hL
  have HE : Hid (L = repTr eE 0 (250 + (y2 % 3 - 1))) := by show L = _; rw [unhide HL]; unfold limT; rw [if_neg (by decide), if_neg (by decide), if_neg (by decide), if_neg (by decide), if_pos rfl]
  go_enter Tryz.func34, Tryz.ntmps34
  go_wp2_with fail
  refine (next_any N D xs w (unhide H) (unhide HX)).mono ?_
  rintro e w0 ⟨he, hc0, ho0⟩
  rw [unhide HY] at he
  subst he
  go_wp2_with fail
  refine (next_any N D xs.tail w0 hc0 (unhide HX).tail).mono ?_
  rintro e w1 ⟨he, hc1, ho1⟩
  rw [unhide HY2] at he
  subst he
  have hz0 : w0.heap.size = w.heap.size := ho0.size
  have hz1 : w1.heap.size = w0.heap.size := ho1.size
  have HC1 := hide hc1
  have HM1 := hide ((ho0.mv w.heap.size).trans (ho1.mv w.heap.size))
  clear hc0 ho0 hc1 ho1
  go_wp2_with fail
  refine (l1one_any 97 w1 (by unfold In64; omega)).mono ?_
  rintro e w2 ⟨v2, rfl, hv2, hb2⟩
  have HI2 := hide (hv2.mono (lo' := lo) (by omega) (Nat.le_refl _))
  obtain ⟨a2, c2, rfl, -⟩ := hv2
  have hz2 := hb2.size
  have HC2 := hide ((unhide HC1).keep hb2 (by omega))
  have HM2 := hide ((unhide HM1).trans (bmv hb2 D (by omega)))
  clear hb2
  go_wp2_with fail
  refine (l1set_any lo _ _ w2 (unhide HI2) (by omega) (by simp)).mono ?_
  rintro e w3 ⟨v3, rfl, hv3, hb3⟩
  have HTa3 := hide hv3
  obtain ⟨a3, c3, rfl, -⟩ := hv3
  have hz3 := hb3.size
  have HC3 := hide ((unhide HC2).keep hb3 (by omega))
  have HM3 := hide ((unhide HM2).trans (bmv hb3 D (by omega)))
  clear hb3
  go_wp2_with fail
  refine (l1one_any 98 w3 (by unfold In64; omega)).mono ?_
  rintro e w4 ⟨v4, rfl, hv4, hb4⟩
  have HI4 := hide (hv4.mono (lo' := lo) (by omega) (Nat.le_refl _))
  obtain ⟨a4, c4, rfl, -⟩ := hv4
  have hz4 := hb4.size
  have HC4 := hide ((unhide HC3).keep hb4 (by omega))
  have HM4 := hide ((unhide HM3).trans (bmv hb4 D (by omega)))
  have HTa4 := hide ((unhide HTa3).below hb4 (Nat.le_refl _))
  clear hb4
  go_wp2_with fail
  refine (l1set_any lo _ _ w4 (unhide HI4) (by omega) (by simp)).mono ?_
  rintro e w5 ⟨v5, rfl, hv5, hb5⟩
  have HTb5 := hide hv5
  obtain ⟨a5, c5, rfl, -⟩ := hv5
  have hz5 := hb5.size
  have HC5 := hide ((unhide HC4).keep hb5 (by omega))
  have HM5 := hide ((unhide HM4).trans (bmv hb5 D (by omega)))
  have HTa5 := hide ((unhide HTa4).below hb5 (Nat.le_refl _))
  clear hb5
  go_wp2_with fail
  refine (cat_dt (unhide HTa5) (unhide HTb5) (NL.one (x := 97) (by omega) (by omega)) (NL.one (x := 98) (by omega) (by omega)) (by omega) (by omega) (by omega)).mono ?_
  rintro e w6 ⟨v6, rfl, hv6, hb6⟩
  have HTab6 := hide hv6
  obtain ⟨a6, c6, rfl, -⟩ := hv6
  have hz6 := hb6.size
  have HC6 := hide ((unhide HC5).keep hb6 (by omega))
  have HM6 := hide ((unhide HM5).trans (bmv hb6 D (by omega)))
  have HTa6 := hide ((unhide HTa5).below hb6 (Nat.le_refl _))
  have HTb6 := hide ((unhide HTb5).below hb6 (Nat.le_refl _))
  clear hb6
  go_wp2_with fail
  refine (e_dt lo w6 (by omega)).mono ?_
  rintro e w7 ⟨v7, rfl, hv7, hb7⟩
  have HTe7 := hide hv7
  obtain ⟨a7, c7, rfl, -⟩ := hv7
  have hz7 := hb7.size
  have HC7 := hide ((unhide HC6).keep hb7 (by omega))
  have HM7 := hide ((unhide HM6).trans (bmv hb7 D (by omega)))
  clear hb7
  go_wp2_with fail
  refine (rep_dt (unhide HTe7) DT.e.nl (by omega) (by omega) (p := 0) (q := (250 + (y2 % 3 - 1))) (by unfold In64; omega) (by unfold In64; omega)).mono ?_
  rintro e w8 ⟨v8, rfl, hv8, hb8⟩
  have HTt8 := hide hv8
  obtain ⟨a8, c8, rfl, -⟩ := hv8
  have hz8 := hb8.size
  have HC8 := hide ((unhide HC7).keep hb8 (by omega))
  have HM8 := hide ((unhide HM7).trans (bmv hb8 D (by omega)))
  have HTe8 := hide ((unhide HTe7).below hb8 (Nat.le_refl _))
  clear hb8
  go_wp2
  go_ret
  refine ⟨⟨_, rfl, ?_⟩, unhide HC8, unhide HM8⟩
  show ElsAt lo _ _ _ L
  rw [unhide HE]
  exact unhide HTt8
set_option maxHeartbeats 16000000 in
set_option maxRecDepth 100000 in
theorem l1drawLimit_5 (N D lo : Nat) (xs : List Int) (w : World) (h : CdAt N D w xs) (hx : Cod xs) (hD : D < lo) (hlo : lo ≤ w.heap.size) (hk : xs.headD 0 % 6 = 5) :
    Calls Tryz.prog 34 #[.pointer (some ⟨D, 0, none⟩)] w (DrE N D lo w (dLim xs)) := by
  have H := hide h
  have HX := hide hx
  have hh := hx.head
  have hh2 := hx.tail.head
  obtain ⟨y, hy⟩ : ∃ y, xs.headD 0 = y := ⟨_, rfl⟩
  obtain ⟨y2, hy2⟩ : ∃ y, xs.tail.headD 0 = y := ⟨_, rfl⟩
  unfold dLim
  rw [hy, hy2]
  rw [hy] at hh hk
  rw [hy2] at hh2
  rw [hk]
  obtain ⟨L, hL⟩ : ∃ L, L = limT 5 (y2 % 3 - 1) := ⟨_, rfl⟩
  rw [← hL]
  have HL := hide hL
  have HY := hide hy
  have HY2 := hide hy2
  have n0 : ¬ y % 6 = 0 := by omega
  have n1 : ¬ y % 6 = 1 := by omega
  have n2 : ¬ y % 6 = 2 := by omega
  have n3 : ¬ y % 6 = 3 := by omega
  have n4 : ¬ y % 6 = 4 := by omega
  have hd0 : -1 ≤ y2 % 3 - 1 ∧ y2 % 3 - 1 ≤ 1 := by omega
  clear hy hy2 h hx hL
  go_enter Tryz.func34, Tryz.ntmps34
  go_wp2_with fail
  refine (next_any N D xs w (unhide H) (unhide HX)).mono ?_
  rintro e w0 ⟨he, hc0, ho0⟩
  rw [unhide HY] at he
  subst he
  go_wp2_with fail
  refine (next_any N D xs.tail w0 hc0 (unhide HX).tail).mono ?_
  rintro e w1 ⟨he, hc1, ho1⟩
  rw [unhide HY2] at he
  subst he
  have hz0 : w0.heap.size = w.heap.size := ho0.size
  have hz1 : w1.heap.size = w0.heap.size := ho1.size
  have HC1 := hide hc1
  have HM1 := hide ((ho0.mv w.heap.size).trans (ho1.mv w.heap.size))
  clear hc0 ho0 hc1 ho1
  go_wp2_with fail
  refine (l1one_any 97 w1 (by unfold In64; omega)).mono ?_
  rintro e w2 ⟨v2, rfl, hv2, hb2⟩
  have HI2 := hide (hv2.mono (lo' := lo) (by omega) (Nat.le_refl _))
  obtain ⟨a2, c2, rfl, -⟩ := hv2
  have hz2 := hb2.size
  have HC2 := hide ((unhide HC1).keep hb2 (by omega))
  have HM2 := hide ((unhide HM1).trans (bmv hb2 D (by omega)))
  clear hb2
  go_wp2_with fail
  refine (l1set_any lo _ _ w2 (unhide HI2) (by omega) (by simp)).mono ?_
  rintro e w3 ⟨v3, rfl, hv3, hb3⟩
  have HTa3 := hide hv3
  obtain ⟨a3, c3, rfl, -⟩ := hv3
  have hz3 := hb3.size
  have HC3 := hide ((unhide HC2).keep hb3 (by omega))
  have HM3 := hide ((unhide HM2).trans (bmv hb3 D (by omega)))
  clear hb3
  go_wp2_with fail
  refine (l1one_any 98 w3 (by unfold In64; omega)).mono ?_
  rintro e w4 ⟨v4, rfl, hv4, hb4⟩
  have HI4 := hide (hv4.mono (lo' := lo) (by omega) (Nat.le_refl _))
  obtain ⟨a4, c4, rfl, -⟩ := hv4
  have hz4 := hb4.size
  have HC4 := hide ((unhide HC3).keep hb4 (by omega))
  have HM4 := hide ((unhide HM3).trans (bmv hb4 D (by omega)))
  have HTa4 := hide ((unhide HTa3).below hb4 (Nat.le_refl _))
  clear hb4
  go_wp2_with fail
  refine (l1set_any lo _ _ w4 (unhide HI4) (by omega) (by simp)).mono ?_
  rintro e w5 ⟨v5, rfl, hv5, hb5⟩
  have HTb5 := hide hv5
  obtain ⟨a5, c5, rfl, -⟩ := hv5
  have hz5 := hb5.size
  have HC5 := hide ((unhide HC4).keep hb5 (by omega))
  have HM5 := hide ((unhide HM4).trans (bmv hb5 D (by omega)))
  have HTa5 := hide ((unhide HTa4).below hb5 (Nat.le_refl _))
  clear hb5
  go_wp2_with fail
  refine (cat_dt (unhide HTa5) (unhide HTb5) (NL.one (x := 97) (by omega) (by omega)) (NL.one (x := 98) (by omega) (by omega)) (by omega) (by omega) (by omega)).mono ?_
  rintro e w6 ⟨v6, rfl, hv6, hb6⟩
  have HTab6 := hide hv6
  obtain ⟨a6, c6, rfl, -⟩ := hv6
  have hz6 := hb6.size
  have HC6 := hide ((unhide HC5).keep hb6 (by omega))
  have HM6 := hide ((unhide HM5).trans (bmv hb6 D (by omega)))
  have HTa6 := hide ((unhide HTa5).below hb6 (Nat.le_refl _))
  have HTb6 := hide ((unhide HTb5).below hb6 (Nat.le_refl _))
  clear hb6
  go_wp2_with fail
  go_loopw [11, 12] (fun tv iv wr => ∃ m : Nat, m ≤ 30 ∧ iv = .int .i64 (m : Nat) ∧ ElsAt lo wr.heap.size wr tv (repN m (oneE 97)) ∧ CdAt N D wr xs.tail.tail ∧ Mv w.heap.size D w wr) (fun _ iv _ => 30 - (intOf iv).toNat)
  case atStart => exact ⟨0, Nat.zero_le _, rfl, unhide HTa6, unhide HC6, unhide HM6⟩
  case round =>
    obtain ⟨m, hm, rfl, hel, hcd, hmv⟩ := hrel
    obtain ⟨w20, rfl⟩ : ∃ w20, w20 = wr := ⟨_, rfl⟩
    have HTt20 := hide hel
    obtain ⟨a20, c20, rfl, -⟩ := hel
    have HC20 := hide hcd
    have HM20 := hide hmv
    have hz20 := hmv.size
    have hnl := repN_nl m (NL.one (x := 97) (by omega) (by omega))
    by_cases hlt : m < 30
    · have hlt' : (m : Int) < 30 := by omega
      clear hcd hmv
      go_wp2_with fail
      refine (rep_dt (unhide HTt20) hnl (by omega) (by omega) (p := 1) (q := 1) (by unfold In64; omega) (by unfold In64; omega)).mono ?_
      rintro e w21 ⟨v21, rfl, hv21, hb21⟩
      have HTr21 := hide hv21
      obtain ⟨a21, c21, rfl, -⟩ := hv21
      have hz21 := hb21.size
      have HC21 := hide ((unhide HC20).keep hb21 (by omega))
      have HM21 := hide ((unhide HM20).trans (bmv hb21 D (by omega)))
      have HTt21 := hide ((unhide HTt20).below hb21 (Nat.le_refl _))
      clear hb21
      go_wp2
      go_roundw
      case rel => exact ⟨m + 1, by omega, by go_num, by rw [repN_s]; exact unhide HTr21, unhide HC21, unhide HM21⟩
      case measure => simp [intOf]; omega
    · obtain rfl : m = 30 := by omega
      clear hcd hmv
      by_cases hd1 : 0 < y2 % 3 - 1
      · have HE : Hid (L = repTr (catT (repTr (repN 30 (oneE 97)) 0 0) (repTr (repN 30 (oneE 97)) 0 0)) (250 + (y2 % 3 - 1)) (250 + (y2 % 3 - 1))) := by show L = _; rw [unhide HL]; unfold limT; rw [if_neg (by decide), if_neg (by decide), if_neg (by decide), if_neg (by decide), if_neg (by decide), if_pos hd1]
        go_wp2_with fail
        refine (rep_dt (unhide HTt20) hnl (by omega) (by omega) (p := 0) (q := 0) (by unfold In64; omega) (by unfold In64; omega)).mono ?_
        rintro e w21 ⟨v21, rfl, hv21, hb21⟩
        have HTu21 := hide hv21
        obtain ⟨a21, c21, rfl, -⟩ := hv21
        have hz21 := hb21.size
        have HC21 := hide ((unhide HC20).keep hb21 (by omega))
        have HM21 := hide ((unhide HM20).trans (bmv hb21 D (by omega)))
        have HTt21 := hide ((unhide HTt20).below hb21 (Nat.le_refl _))
        clear hb21
        go_wp2_with fail
        refine (cat_dt (unhide HTu21) (unhide HTu21) (hnl.rep (lo := 0) (hi := 0) (by unfold In64; omega) (by unfold In64; omega)) (hnl.rep (lo := 0) (hi := 0) (by unfold In64; omega) (by unfold In64; omega)) (by omega) (by omega) (by omega)).mono ?_
        rintro e w22 ⟨v22, rfl, hv22, hb22⟩
        have HTr22 := hide hv22
        obtain ⟨a22, c22, rfl, -⟩ := hv22
        have hz22 := hb22.size
        have HC22 := hide ((unhide HC21).keep hb22 (by omega))
        have HM22 := hide ((unhide HM21).trans (bmv hb22 D (by omega)))
        have HTu22 := hide ((unhide HTu21).below hb22 (Nat.le_refl _))
        clear hb22
        go_wp2_with fail
        refine (rep_dt (unhide HTr22) ((hnl.rep (lo := 0) (hi := 0) (by unfold In64; omega) (by unfold In64; omega)).cat (hnl.rep (lo := 0) (hi := 0) (by unfold In64; omega) (by unfold In64; omega))) (by omega) (by omega) (p := (250 + (y2 % 3 - 1))) (q := (250 + (y2 % 3 - 1))) (by unfold In64; omega) (by unfold In64; omega)).mono ?_
        rintro e w23 ⟨v23, rfl, hv23, hb23⟩
        have HTz23 := hide hv23
        obtain ⟨a23, c23, rfl, -⟩ := hv23
        have hz23 := hb23.size
        have HC23 := hide ((unhide HC22).keep hb23 (by omega))
        have HM23 := hide ((unhide HM22).trans (bmv hb23 D (by omega)))
        have HTr23 := hide ((unhide HTr22).below hb23 (Nat.le_refl _))
        clear hb23
        go_wp2
        go_ret
        refine ⟨⟨_, rfl, ?_⟩, unhide HC23, unhide HM23⟩
        show ElsAt lo _ _ _ L
        rw [unhide HE]
        exact unhide HTz23
      · have HE : Hid (L = repTr (catT (repN 30 (oneE 97)) (repN 30 (oneE 97))) (250 + (y2 % 3 - 1)) (250 + (y2 % 3 - 1))) := by show L = _; rw [unhide HL]; unfold limT; rw [if_neg (by decide), if_neg (by decide), if_neg (by decide), if_neg (by decide), if_neg (by decide), if_neg hd1]
        go_wp2_with fail
        refine (cat_dt (unhide HTt20) (unhide HTt20) hnl hnl (by omega) (by omega) (by omega)).mono ?_
        rintro e w21 ⟨v21, rfl, hv21, hb21⟩
        have HTr21 := hide hv21
        obtain ⟨a21, c21, rfl, -⟩ := hv21
        have hz21 := hb21.size
        have HC21 := hide ((unhide HC20).keep hb21 (by omega))
        have HM21 := hide ((unhide HM20).trans (bmv hb21 D (by omega)))
        have HTt21 := hide ((unhide HTt20).below hb21 (Nat.le_refl _))
        clear hb21
        go_wp2_with fail
        refine (rep_dt (unhide HTr21) (hnl.cat hnl) (by omega) (by omega) (p := (250 + (y2 % 3 - 1))) (q := (250 + (y2 % 3 - 1))) (by unfold In64; omega) (by unfold In64; omega)).mono ?_
        rintro e w22 ⟨v22, rfl, hv22, hb22⟩
        have HTz22 := hide hv22
        obtain ⟨a22, c22, rfl, -⟩ := hv22
        have hz22 := hb22.size
        have HC22 := hide ((unhide HC21).keep hb22 (by omega))
        have HM22 := hide ((unhide HM21).trans (bmv hb22 D (by omega)))
        have HTr22 := hide ((unhide HTr21).below hb22 (Nat.le_refl _))
        clear hb22
        go_wp2
        go_ret
        refine ⟨⟨_, rfl, ?_⟩, unhide HC22, unhide HM22⟩
        show ElsAt lo _ _ _ L
        rw [unhide HE]
        exact unhide HTz22
theorem l1drawLimit_any (N D lo : Nat) (xs : List Int) (w : World) (h : CdAt N D w xs) (hx : Cod xs) (hD : D < lo) (hlo : lo ≤ w.heap.size) : Calls Tryz.prog 34 #[.pointer (some ⟨D, 0, none⟩)] w (DrE N D lo w (dLim xs)) := by
  have hh := hx.head
  by_cases h0 : xs.headD 0 % 6 = 0
  · exact l1drawLimit_0 N D lo xs w h hx hD hlo h0
  by_cases h1 : xs.headD 0 % 6 = 1
  · exact l1drawLimit_1 N D lo xs w h hx hD hlo h1
  by_cases h2 : xs.headD 0 % 6 = 2
  · exact l1drawLimit_2 N D lo xs w h hx hD hlo h2
  by_cases h3 : xs.headD 0 % 6 = 3
  · exact l1drawLimit_3 N D lo xs w h hx hD hlo h3
  by_cases h4 : xs.headD 0 % 6 = 4
  · exact l1drawLimit_4 N D lo xs w h hx hD hlo h4
  · exact l1drawLimit_5 N D lo xs w h hx hD hlo (by omega)
end Go.Proofs.YtinhliecfjlocaaGreat
