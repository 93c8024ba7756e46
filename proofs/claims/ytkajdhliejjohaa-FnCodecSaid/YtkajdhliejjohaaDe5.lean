import Derived.Test.YtkajdhliejjohaaDe4
import Derived.Test.YtkajdhliejjohaaEn7
namespace Go.Proofs.Ytkajdhliejjohaa
open Go.RowKit

theorem pl_tot : ∀ (k : Nat) (xs : List Int), (∀ x ∈ xs, 0 ≤ x ∧ x ≤ 255) → tot (pl k xs) ≤ xs.length ∧ ∀ l ∈ pl k xs, Bytes l
  | 0, xs, _ => ⟨by simp [pl, Go.Proofs.Ytkajdhliejjohaa.tot], by simp [pl]⟩
  | k + 1, xs, h => by
    obtain ⟨-, -, q, hq⟩ := tv_bounds 9 xs h
    have hr : ∀ x ∈ (tv 9 xs).2, 0 ≤ x ∧ x ≤ 255 := fun x hx => by rw [hq] at hx; exact h x (List.mem_of_mem_drop hx)
    have hl : (tv 9 xs).2.length ≤ xs.length := by rw [hq, List.length_drop]; omega
    obtain ⟨h1, h2⟩ := pl_tot k ((tv 9 xs).2.drop (tv 9 xs).1.toNat) (fun x hx => hr x (List.mem_of_mem_drop hx))
    refine ⟨?_, fun l hm => ?_⟩
    · simp only [pl, Go.Proofs.Ytkajdhliejjohaa.tot]
      rw [List.length_drop] at h1
      rw [List.length_take]
      omega
    · simp only [pl, List.mem_cons] at hm
      rcases hm with rfl | hm
      · exact bytes_of_mem (fun x hx => hr x (List.mem_of_mem_take hx))
      · exact h2 l hm
theorem parP_ok {bs : List Int} (h : Bytes bs) : (0 ≤ (parP bs).1 ∧ (parP bs).1 ≤ 9223372036854775807) ∧ (parP bs).2.length ≤ 1000 ∧ tot (parP bs).2 ≤ bs.length ∧ ∀ l ∈ (parP bs).2, Bytes l := by
  have hb : ∀ x ∈ bs.drop 2, 0 ≤ x ∧ x ≤ 255 := fun x hx => mem_of_bytes h x (List.mem_of_mem_drop hx)
  obtain ⟨h0, h1, q, hq⟩ := tv_bounds 9 (bs.drop 2) hb
  have hb2 : ∀ x ∈ (tv 9 (bs.drop 2)).2, 0 ≤ x ∧ x ≤ 255 := fun x hx => by rw [hq] at hx; exact hb x (List.mem_of_mem_drop hx)
  obtain ⟨g0, g1, q2, hq2⟩ := tv_bounds 9 (tv 9 (bs.drop 2)).2 hb2
  have hb3 : ∀ x ∈ (tv 9 (tv 9 (bs.drop 2)).2).2, 0 ≤ x ∧ x ≤ 255 := fun x hx => by rw [hq2] at hx; exact hb2 x (List.mem_of_mem_drop hx)
  obtain ⟨k1, k2⟩ := pl_tot (min (tv 9 (tv 9 (bs.drop 2)).2).1 1000).toNat (tv 9 (tv 9 (bs.drop 2)).2).2 hb3
  have hl : (tv 9 (tv 9 (bs.drop 2)).2).2.length ≤ bs.length := by rw [hq2, hq, List.length_drop, List.length_drop, List.length_drop]; omega
  exact ⟨⟨h0, by show (tv 9 (bs.drop 2)).1 ≤ _; omega⟩, by show (pl _ _).length ≤ _; rw [pl_len]; omega, by show tot (pl _ _) ≤ _; omega, k2⟩

/-- Every list can be put in order. -/
theorem ord_ex : ∀ xs : List Int, ∃ ys, Ord xs ys ∧ ys.length ≤ xs.length
  | [] => ⟨[], ⟨List.Pairwise.nil, fun _ => Iff.rfl⟩, Nat.le_refl _⟩
  | x :: xs => by
    obtain ⟨ys, ⟨h1, h2⟩, h3⟩ := ord_ex xs
    by_cases hx : x ∈ ys
    · refine ⟨ys, ⟨h1, fun z => ?_⟩, by rw [List.length_cons]; omega⟩
      rw [h2, List.mem_cons]
      exact ⟨Or.inr, fun h => h.elim (fun e => by rw [e]; exact (h2 x).1 hx) id⟩
    · have hl : (ys.filter (fun y => decide (y < x))).length + (ys.filter (fun y => decide (x < y))).length ≤ ys.length := by
        clear h1 h2 h3 hx
        induction ys with
        | nil => simp
        | cons y r ih =>
          by_cases a1 : y < x
          · have a2 : ¬ x < y := by omega
            simp [a1, a2]; omega
          · by_cases a2 : x < y
            · simp [a1, a2]; omega
            · simp [a1, a2]; omega
      refine ⟨ys.filter (fun y => decide (y < x)) ++ ([x] ++ ys.filter (fun y => decide (x < y))), ⟨?_, fun z => ?_⟩, by simp only [List.length_append, List.length_cons, List.length_nil]; omega⟩
      · refine List.pairwise_append.2 ⟨h1.filter _, List.pairwise_append.2 ⟨List.pairwise_singleton _ _, h1.filter _, fun a ha b hb => ?_⟩, fun a ha b hb => ?_⟩
        · rw [List.mem_singleton] at ha
          have := List.mem_filter.1 hb
          simp at this
          omega
        · have ha2 := List.mem_filter.1 ha
          simp at ha2
          rcases List.mem_append.1 hb with hb | hb
          · rw [List.mem_singleton] at hb
            omega
          · have := List.mem_filter.1 hb
            simp at this
            omega
      · simp only [List.mem_append, List.mem_filter, List.mem_cons, List.not_mem_nil, or_false, decide_eq_true_eq, ← h2]
        constructor
        · rintro (⟨h, -⟩ | h | ⟨h, -⟩)
          · exact Or.inr h
          · exact Or.inl h
          · exact Or.inr h
        · rintro (h | h)
          · exact Or.inr (Or.inl h)
          · by_cases e : z = x
            · exact Or.inr (Or.inl e)
            · by_cases e2 : z < x
              · exact Or.inl ⟨h, e2⟩
              · exact Or.inr (Or.inr ⟨h, by omega⟩)
theorem kinv_ex (base : Int) (zs : List Int) (hz : Asc zs) : ∀ m : Nat, m ≤ zs.length → ∃ ks pss, KInv base zs m ks pss
  | 0, _ => ⟨[], [], KInv.start base zs⟩
  | m + 1, hm => by
    obtain ⟨ks, pss, h⟩ := kinv_ex base zs hz m (by omega)
    by_cases hne : ks = [] ∨ ks[ks.length - 1]?.getD 0 ≠ zs[m]?.getD 0 / 1000
    · exact ⟨_, _, h.new (by omega) (h.lt hz (by omega) hne)⟩
    · have h0 : ks ≠ [] := fun e => hne (Or.inl e)
      have hk : ks[ks.length - 1]?.getD 0 = zs[m]?.getD 0 / 1000 := by
        by_cases e : ks[ks.length - 1]?.getD 0 = zs[m]?.getD 0 / 1000
        · exact e
        · exact absurd (Or.inr e) hne
      have hp : pss ≠ [] := fun e => by
        have := h.len
        rw [e] at this
        exact h0 (List.eq_nil_of_length_eq_zero this.symm)
      rcases List.eq_nil_or_concat pss with e | ⟨qs, l, e⟩
      · exact absurd e hp
      · rw [List.concat_eq_append] at e
        subst e
        exact ⟨_, _, h.same hz (by omega) hk⟩
/-- How long keys and posting lists can be. -/
theorem segR_len {base : Int} {xss pss : List (List Int)} {ks : List Int} (h : SegR base xss ks pss) (hn : xss.length ≤ 1000) : ks.length ≤ tot xss ∧ tot pss ≤ tot xss := by
  obtain ⟨zs, ho, hl⟩ := ord_ex (plcs xss xss.length)
  obtain ⟨ks', pss', hk⟩ := kinv_ex base zs ho.asc zs.length (Nat.le_refl _)
  have hs := hk.done ho hn
  obtain ⟨rfl, rfl⟩ := h.uniq hs
  have h1 := plcs_len xss xss.length (Nat.le_refl _)
  rw [List.take_length] at h1
  have h2 := hk.cnt
  exact ⟨by omega, by omega⟩

def DecGot (e : Ending) (lo : Nat) (w' : World) (bs : List Int) : Prop := ∃ v b xs ks pss c, e = .returned (.tuple #[v, .int .i64 c]) ∧ DecIs bs b xs ks pss c ∧ (tot xs ≤ 1048576 ∧ ks.length ≤ 1048576 ∧ tot pss ≤ 1048576) ∧ SegF lo w'.heap.size w' v b xs ks pss
theorem DecGot.no {lo : Nat} {w' : World} {bs : List Int} (h : ∀ b xs ks pss, ¬ Dec bs b xs ks pss) : DecGot (.returned (.tuple #[.agg #[.int .i64 0, .slice none 0 0, .slice none 0 0, .slice none 0 0], .int .i64 5])) lo w' bs :=
  ⟨_, 0, [], [], [], 5, rfl, Or.inr ⟨h, rfl, rfl, rfl, rfl, rfl⟩, ⟨by simp [Go.Proofs.Ytkajdhliejjohaa.tot], by simp, by simp [Go.Proofs.Ytkajdhliejjohaa.tot]⟩, SegF.zero _ _ _⟩
def DecWant (e : Ending) (lo : Nat) (w' : World) (bs : List Int) : Prop := ∃ v b xs ks pss c, e = .returned (.tuple #[v, .int .i64 c]) ∧ DecIs bs b xs ks pss c ∧ SegAt lo w' v b xs ks pss
theorem DecWant.no {lo : Nat} {w' : World} {bs : List Int} (h : ∀ b xs ks pss, ¬ Dec bs b xs ks pss) : DecWant (.returned (.tuple #[.agg #[.int .i64 0, .slice none 0 0, .slice none 0 0, .slice none 0 0], .int .i64 5])) lo w' bs :=
  ⟨_, 0, [], [], [], 5, rfl, Or.inr ⟨h, rfl, rfl, rfl, rfl, rfl⟩, SegAt.zero _ _⟩
theorem encL_bytes {base : Int} {xss pss : List (List Int)} {ks : List Int} (h : ∀ x ∈ xss, Bytes x) : Bytes (encL base xss ks pss) := bytes_of_mem (fun x hx => by
  unfold encL at hx
  rcases List.mem_append.1 hx with hx | hx
  · exact mem_of_bytes (bodL_bytes h) x hx
  · have hck := ck_bounds (bodL base xss ks pss)
    simp only [ckB, List.mem_cons, List.not_mem_nil, or_false] at hx
    omega)
theorem built_enc {base : Int} {xss pss : List (List Int)} {ks : List Int} (hf : Fits base xss) (hs : SegR base xss ks pss) (hb : ∀ x ∈ xss, Bytes x) (h1 : ks.length ≤ 1048576) (h2 : tot pss ≤ 1048576) : EncIn base xss ks pss :=
  valid_enc ⟨hf, hs⟩ ⟨hb, by have := hf.1; omega, by have := hf.2.2.1; omega, by have := hf.2.2.2.2; omega, by have := hf.1; have := hf.2.2.1; omega, h1, h2, by rw [hs.len]; exact h1⟩

set_option maxHeartbeats 8000000 in
set_option maxRecDepth 100000 in
theorem implDecode_any (v : Value) (bs : List Int) (w : World) (hv : SlAt mB 0 0 w.heap.size w v bs) (hcap : CapOk v) (hb : Bytes bs) (hl : bs.length ≤ 1048576) :
    Calls Try.prog 6 #[v] w fun e w' => DecGot e w.heap.size w' bs ∧ Below w.heap.size w w' := by
  have HV := hide hv
  have HB := hide hb
  have HC := hide hcap
  obtain ⟨a, cap, rfl, -, -⟩ := hv
  clear hb hcap
  have hb0 := below2 w (.cells #[.int .i64 0, .slice none 0 0, .slice none 0 0, .slice none 0 0] 28) (.cells #[.slice a bs.length cap] 48)
  have RR := (Row4.new w 28 (.int .i64 0) (.slice none 0 0) (.slice none 0 0) (.slice none 0 0)).alloc (.cells #[.slice a bs.length cap] 48)
  have hbx := Boxed.new (w.alloc (.cells #[.int .i64 0, .slice none 0 0, .slice none 0 0, .slice none 0 0] 28)) 48 (.slice a bs.length cap)
  rw [sz_alloc] at hbx
  have hzV : ((w.alloc (.cells #[.int .i64 0, .slice none 0 0, .slice none 0 0, .slice none 0 0] 28)).alloc (.cells #[.slice a bs.length cap] 48)).heap.size = w.heap.size + 2 := by simp
  have Hbx := hide hbx
  clear hbx
  go_enter Try.func6, Try.ntmps6
  go_wp2_with fail
  generalize (w.alloc (.cells #[.int .i64 0, .slice none 0 0, .slice none 0 0, .slice none 0 0] 28)).alloc (.cells #[.slice a bs.length cap] 48) = V at *
  have hrd : RdAt w.heap.size (w.heap.size + 1) V bs := ⟨by omega, _, unhide Hbx, (unhide HV).under hb0 (Nat.le_refl _), unhide HC⟩
  refine (baseAndLines_any w.heap.size (w.heap.size + 1) bs V hrd (mem_of_bytes (unhide HB)) (by omega)).mono ?_
  rintro e w1 ⟨⟨lv, rfl, hss⟩, hb1⟩
  have hz1 := hb1.size
  have hB1 : Below w.heap.size w w1 := hb0.trans (hb1.mono (by omega))
  have R1 := hide (RR.below hb1 (by omega))
  obtain ⟨hp1, hp2, hp3, hp4⟩ := parP_ok (unhide HB)
  have Hp : Hid (parP bs = ((parP bs).1, (parP bs).2)) := rfl
  have HS := hide hss
  have HP4 := hide hp4
  clear hss hp4 hrd RR Hbx
  generalize (parP bs).1 = base at *
  generalize (parP bs).2 = xss at *
  obtain ⟨la, lc, rfl, -⟩ := id (unhide HS)
  go_wp2_with fail
  refine (implBuild_any base _ xss w1 (unhide HS) (unhide HP4) (by omega) (by omega) (by omega) (by omega)).mono ?_
  rintro e w2 ⟨hr, hb2⟩
  have hz2 := hb2.size
  have hB2 : Below w.heap.size w w2 := hB1.trans (hb2.mono (by omega))
  have R2 := hide ((unhide R1).below hb2 (by omega))
  clear R1
  rcases hr with ⟨hf, vb, ks, pss, rfl, hsg, hcnt, hF⟩ | ⟨hf, rfl⟩
  · have HE := hide (built_enc hf hsg (unhide HP4) hcnt.1 hcnt.2)
    have Hf := hide hf
    have Hsg := hide hsg
    have HF := hide hF
    have Hcnt := hide hcnt
    obtain ⟨p1, q1, p2, q2, p3, q3, rfl, -⟩ := (hF.rd (Nat.le_refl _)).parts
    clear hf hsg hF hcnt
    have hV2 := below1 w2 (.cells #[.int .i64 base, .slice p1 xss.length q1, .slice p2 ks.length q2, .slice p3 pss.length q3] 28)
    have BS := Row4.new w2 28 (.int .i64 base) (.slice p1 xss.length q1) (.slice p2 ks.length q2) (.slice p3 pss.length q3)
    have hzV2 : (w2.alloc (.cells #[.int .i64 base, .slice p1 xss.length q1, .slice p2 ks.length q2, .slice p3 pss.length q3] 28)).heap.size = w2.heap.size + 1 := sz_alloc _ _
    obtain ⟨f0, f1, f2, f3, -⟩ := BS.facts
    go_wp2_with fail
    generalize w2.alloc (.cells #[.int .i64 base, .slice p1 xss.length q1, .slice p2 ks.length q2, .slice p3 pss.length q3] 28) = V2 at *
    refine (encoded_any _ base xss pss ks V2 (((unhide HF).rd (Nat.le_refl _)).below hV2 (Nat.le_refl _)) (unhide HE)).mono ?_
    rintro e w3 ⟨⟨v3, rfl, ho3⟩, hb3⟩
    have hz3 := hb3.size
    have hB23 : Below w2.heap.size w2 w3 := hV2.trans (hb3.mono (by omega))
    have hB3 : Below w.heap.size w w3 := hB2.trans (hB23.mono (by omega))
    have hel := encL_len (unhide HE)
    have HS3 := hide (own_rdB ho3 (by unfold maxLen; omega))
    have HBE : Hid (Bytes (encL base xss ks pss)) := encL_bytes (unhide HP4)
    have R3 := hide ((unhide R2).below hB23 (by omega))
    have BS3 := hide (BS.below hb3 (by omega))
    have HF3 := hide ((unhide HF).keep hB23 (Nat.le_refl _))
    obtain ⟨oa3, oc3, rfl⟩ := own_is ho3
    clear ho3 R2 BS HF hb3 hel f0 f1 f2 f3
    go_wp2_with fail
    refine (bequal_any _ _ (encL base xss ks pss) bs w3.heap.size w3 (unhide HS3) ((unhide HV).below hB3 (Nat.le_refl _)) (unhide HBE) (unhide HB)).mono ?_
    rintro e w4 ⟨hr4, n4, hw4⟩
    have hB34 : Below w3.heap.size w3 w4 := by rw [hw4]; exact drewB n4
    have hz4 := hB34.size
    have hB4 : Below w.heap.size w w4 := hB3.trans (hB34.mono (by omega))
    have R4 := hide ((unhide R3).below hB34 (by omega))
    have BS4 := hide ((unhide BS3).below hB34 (by omega))
    have HF4 := hide ((unhide HF3).keep hB34 (by omega))
    clear R3 BS3 HF3 hw4
    obtain ⟨r0, r1, r2, r3, t0, t1, t2, t3⟩ := (unhide R4).facts
    obtain ⟨f0, f1, f2, f3, -⟩ := (unhide BS4).facts
    rcases hr4.cases with ⟨rfl, hm⟩ | ⟨rfl, hm⟩
    · have HD : Hid (Dec bs base xss ks pss) := ⟨unhide Hf, unhide Hsg, hm⟩
      clear hm hr4
      go_wp2_with fail
      obtain ⟨e0, e1, e2, e3, -⟩ := ((unhide R4).all (.int .i64 base) (.slice p1 xss.length q1) (.slice p2 ks.length q2) (.slice p3 pss.length q3)).facts
      refine bodyPost_ret (v := .tuple #[.agg #[.int .i64 base, .slice p1 xss.length q1, .slice p2 ks.length q2, .slice p3 pss.length q3], .int .i64 0]) (by simp [results, Try.results6, go_sem, e0, e1, e2, e3]) rfl ⟨⟨_, base, xss, ks, pss, 0, rfl, Or.inl ⟨unhide HD, rfl⟩, ⟨by omega, (unhide Hcnt).1, (unhide Hcnt).2⟩, ?_⟩, bput4 hB4 (by omega) _ _ _ _⟩
      rw [sz_put4]
      exact ((unhide HF4).put4 (by omega) _ _ _ _).low (by omega) (by omega)
    · have HN := hide (noDec_P (unhide Hp) (Or.inr ⟨ks, pss, unhide Hsg, hm⟩))
      clear hm hr4
      go_wp2_with fail
      obtain ⟨e0, e1, e2, e3, -⟩ := ((unhide R4).all (.int .i64 0) (.slice none 0 0) (.slice none 0 0) (.slice none 0 0)).facts
      exact bodyPost_ret (v := .tuple #[.agg #[.int .i64 0, .slice none 0 0, .slice none 0 0, .slice none 0 0], .int .i64 5]) (by simp [results, Try.results6, go_sem, e0, e1, e2, e3]) rfl ⟨DecGot.no (unhide HN), bput4 hB4 (by omega) _ _ _ _⟩
  · have HN := hide (noDec_P (unhide Hp) (Or.inl hf))
    clear hf
    have hV2 := below1 w2 (.cells #[.int .i64 0, .slice none 0 0, .slice none 0 0, .slice none 0 0] 28)
    have R3 := hide ((unhide R2).alloc (.cells #[.int .i64 0, .slice none 0 0, .slice none 0 0, .slice none 0 0] 28))
    obtain ⟨r0, r1, r2, r3, t0, t1, t2, t3⟩ := (unhide R3).facts
    go_wp2_with fail
    obtain ⟨e0, e1, e2, e3, -⟩ := ((unhide R3).all (.int .i64 0) (.slice none 0 0) (.slice none 0 0) (.slice none 0 0)).facts
    exact bodyPost_ret (v := .tuple #[.agg #[.int .i64 0, .slice none 0 0, .slice none 0 0, .slice none 0 0], .int .i64 5]) (by simp [results, Try.results6, go_sem, e0, e1, e2, e3]) rfl ⟨DecGot.no (unhide HN), bput4 (hB2.trans (hV2.mono (by omega))) (by omega) _ _ _ _⟩

set_option maxHeartbeats 8000000 in
set_option maxRecDepth 100000 in
theorem specDecode_any (v : Value) (bs : List Int) (w : World) (hv : SlAt mB 0 0 w.heap.size w v bs) (hcap : CapOk v) (hb : Bytes bs) (hl : bs.length ≤ 1048576) :
    Calls Try.prog 5 #[v] w fun e w' => DecWant e w.heap.size w' bs ∧ Below w.heap.size w w' := by
  have HV := hide hv
  have HB := hide hb
  have HC := hide hcap
  obtain ⟨a, cap, rfl, -, -⟩ := hv
  clear hb hcap
  have hb0 := below1 w (.cells #[.int .i64 0, .slice none 0 0, .slice none 0 0, .slice none 0 0] 28)
  have RR := Row4.new w 28 (.int .i64 0) (.slice none 0 0) (.slice none 0 0) (.slice none 0 0)
  have hzV : (w.alloc (.cells #[.int .i64 0, .slice none 0 0, .slice none 0 0, .slice none 0 0] 28)).heap.size = w.heap.size + 1 := sz_alloc _ _
  go_enter Try.func5, Try.ntmps5
  go_wp2_with fail
  generalize w.alloc (.cells #[.int .i64 0, .slice none 0 0, .slice none 0 0, .slice none 0 0] 28) = V at *
  refine (l4lines_any _ bs V ((unhide HV).below hb0 (Nat.le_refl _)) (unhide HC) (unhide HB) hl).mono ?_
  rintro e w1 ⟨hr, hb1⟩
  have hz1 := hb1.size
  have hB1 : Below w.heap.size w w1 := hb0.trans (hb1.mono (by omega))
  have R1 := hide (RR.below hb1 (by omega))
  clear RR hb0
  rcases hr with ⟨base, xss, lv, rfl, hpm, hss, hbb, hxl, hxt, hxb⟩ | ⟨rfl, hpm⟩
  · have Hpm := hide hpm
    have HS := hide hss
    have HX := hide hxb
    obtain ⟨la, lc, rfl, -⟩ := id hss
    clear hpm hss hxb
    go_wp2_with fail
    refine (l4fits_any base _ xss w1 (unhide HS) (by omega) (by omega) (by omega) (by omega)).mono ?_
    rintro e w2 ⟨hr, n2, hw2⟩
    have hB12 : Below w1.heap.size w1 w2 := by rw [hw2]; exact drewB n2
    have hz2 := hB12.size
    have hB2 : Below w.heap.size w w2 := hB1.trans (hB12.mono (by omega))
    have R2 := hide ((unhide R1).below hB12 (by omega))
    clear hw2 R1
    rcases hr.cases with ⟨rfl, hf⟩ | ⟨rfl, hf⟩
    · have Hf := hide hf
      have h0 := hf.1
      have h1 := hf.2.2.1
      clear hf hr
      go_wp2_with fail
      refine (l4build_any base _ xss w2 ((unhide HS).below hB12 (Nat.le_refl _)) (unhide HX) (by omega) (by omega) h0 (by omega)).mono ?_
      rintro e w3 ⟨⟨vb, ks, pss, rfl, hsg, hat⟩, hb3⟩
      have hz3 := hb3.size
      have Hsg := hide hsg
      have Hat := hide hat
      obtain ⟨p1, q1, p2, q2, p3, q3, rfl, -⟩ := hat.rd.parts
      have hB3 : Below w.heap.size w w3 := hB2.trans (hb3.mono (by omega))
      have R3 := hide ((unhide R2).below hb3 (by omega))
      have hkl : ks.length ≤ 1048576 := by have := (segR_len hsg (by omega)).1; omega
      have hpt : tot pss ≤ 1048576 := by have := (segR_len hsg (by omega)).2; omega
      have HE := hide (built_enc (unhide Hf) hsg (unhide HX) hkl hpt)
      clear hat hsg R2
      have hV3 := below1 w3 (.cells #[.int .i64 base, .slice p1 xss.length q1, .slice p2 ks.length q2, .slice p3 pss.length q3] 28)
      have BS := Row4.new w3 28 (.int .i64 base) (.slice p1 xss.length q1) (.slice p2 ks.length q2) (.slice p3 pss.length q3)
      have hzV3 : (w3.alloc (.cells #[.int .i64 base, .slice p1 xss.length q1, .slice p2 ks.length q2, .slice p3 pss.length q3] 28)).heap.size = w3.heap.size + 1 := sz_alloc _ _
      obtain ⟨f0, f1, f2, f3, -⟩ := BS.facts
      go_wp2_with fail
      generalize w3.alloc (.cells #[.int .i64 base, .slice p1 xss.length q1, .slice p2 ks.length q2, .slice p3 pss.length q3] 28) = V3 at *
      refine (l4encode_any _ base xss pss ks V3 ((unhide Hat).rd.below hV3 (Nat.le_refl _)) (unhide HE)).mono ?_
      rintro e w4 ⟨⟨v4, rfl, ho4⟩, hb4⟩
      have hz4 := hb4.size
      have hB34 : Below w3.heap.size w3 w4 := hV3.trans (hb4.mono (by omega))
      have hB4 : Below w.heap.size w w4 := hB3.trans (hB34.mono (by omega))
      have hel := encL_len (unhide HE)
      have HS4 := hide (own_rdB ho4 (by unfold maxLen; omega))
      have HBE : Hid (Bytes (encL base xss ks pss)) := encL_bytes (unhide HX)
      have R4 := hide ((unhide R3).below hB34 (by omega))
      have BS4 := hide (BS.below hb4 (by omega))
      have HA4 := hide ((unhide Hat).keep hB34 (Nat.le_refl _))
      obtain ⟨oa4, oc4, rfl⟩ := ho4.is
      clear ho4 R3 BS Hat hb4 hel f0 f1 f2 f3
      go_wp2_with fail
      refine (l4sameBytes_any _ _ (encL base xss ks pss) bs w4.heap.size w4 (unhide HS4) ((unhide HV).below hB4 (Nat.le_refl _)) (unhide HBE) (unhide HB)).mono ?_
      rintro e w5 ⟨hr5, n5, hw5⟩
      have hB45 : Below w4.heap.size w4 w5 := by rw [hw5]; exact drewB n5
      have hz5 := hB45.size
      have hB5 : Below w.heap.size w w5 := hB4.trans (hB45.mono (by omega))
      have R5 := hide ((unhide R4).below hB45 (by omega))
      have BS5 := hide ((unhide BS4).below hB45 (by omega))
      have HA5 := hide ((unhide HA4).keep hB45 (Nat.le_refl _))
      clear R4 BS4 HA4 hw5
      obtain ⟨r0, r1, r2, r3, t0, t1, t2, t3⟩ := (unhide R5).facts
      obtain ⟨f0, f1, f2, f3, -⟩ := (unhide BS5).facts
      rcases hr5.cases with ⟨rfl, hm⟩ | ⟨rfl, hm⟩
      · have HD : Hid (Dec bs base xss ks pss) := ⟨unhide Hf, unhide Hsg, hm⟩
        clear hm hr5
        go_wp2_with fail
        obtain ⟨e0, e1, e2, e3, -⟩ := ((unhide R5).all (.int .i64 base) (.slice p1 xss.length q1) (.slice p2 ks.length q2) (.slice p3 pss.length q3)).facts
        exact bodyPost_ret (v := .tuple #[.agg #[.int .i64 base, .slice p1 xss.length q1, .slice p2 ks.length q2, .slice p3 pss.length q3], .int .i64 0]) (by simp [results, Try.results5, go_sem, e0, e1, e2, e3]) rfl ⟨⟨_, base, xss, ks, pss, 0, rfl, Or.inl ⟨unhide HD, rfl⟩, ((unhide HA5).put4 (by omega) _ _ _ _).low (by omega)⟩, bput4 hB5 (by omega) _ _ _ _⟩
      · have HN := hide (noDec_M (Or.inr ⟨base, xss, unhide Hpm, Or.inr ⟨ks, pss, unhide Hsg, hm⟩⟩))
        clear hm hr5
        go_wp2_with fail
        obtain ⟨e0, e1, e2, e3, -⟩ := ((unhide R5).all (.int .i64 0) (.slice none 0 0) (.slice none 0 0) (.slice none 0 0)).facts
        exact bodyPost_ret (v := .tuple #[.agg #[.int .i64 0, .slice none 0 0, .slice none 0 0, .slice none 0 0], .int .i64 5]) (by simp [results, Try.results5, go_sem, e0, e1, e2, e3]) rfl ⟨DecWant.no (unhide HN), bput4 hB5 (by omega) _ _ _ _⟩
    · have HN := hide (noDec_M (Or.inr ⟨base, xss, unhide Hpm, Or.inl hf⟩))
      clear hf hr
      obtain ⟨r0, r1, r2, r3, t0, t1, t2, t3⟩ := (unhide R2).facts
      go_wp2_with fail
      obtain ⟨e0, e1, e2, e3, -⟩ := ((unhide R2).all (.int .i64 0) (.slice none 0 0) (.slice none 0 0) (.slice none 0 0)).facts
      exact bodyPost_ret (v := .tuple #[.agg #[.int .i64 0, .slice none 0 0, .slice none 0 0, .slice none 0 0], .int .i64 5]) (by simp [results, Try.results5, go_sem, e0, e1, e2, e3]) rfl ⟨DecWant.no (unhide HN), bput4 hB2 (by omega) _ _ _ _⟩
  · have HN := hide (noDec_M (Or.inl hpm))
    clear hpm
    obtain ⟨r0, r1, r2, r3, t0, t1, t2, t3⟩ := (unhide R1).facts
    go_wp2_with fail
    obtain ⟨e0, e1, e2, e3, -⟩ := ((unhide R1).all (.int .i64 0) (.slice none 0 0) (.slice none 0 0) (.slice none 0 0)).facts
    exact bodyPost_ret (v := .tuple #[.agg #[.int .i64 0, .slice none 0 0, .slice none 0 0, .slice none 0 0], .int .i64 5]) (by simp [results, Try.results5, go_sem, e0, e1, e2, e3]) rfl ⟨DecWant.no (unhide HN), bput4 hB1 (by omega) _ _ _ _⟩

end Go.Proofs.Ytkajdhliejjohaa
