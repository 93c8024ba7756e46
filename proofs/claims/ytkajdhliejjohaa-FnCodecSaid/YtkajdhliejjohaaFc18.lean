import Derived.Test.YtkajdhliejjohaaFc17
import Derived.Test.YtkajdhliejjohaaFc9
import Derived.Test.YtkajdhliejjohaaP8
import Derived.Test.YtkajdhliejjohaaEn7
namespace Go.Proofs.Ytkajdhliejjohaa
open Go.RowKit

theorem lnL_mem (xss : List (List Int)) (l : List Int) (h : l ∈ xss) : ∀ x ∈ l, x ∈ lnL xss := fun _ hx => List.mem_flatMap.2 ⟨l, h, List.mem_append.2 (Or.inr hx)⟩
theorem dec_bytes {bs : List Int} {b : Int} {xs pss : List (List Int)} {ks : List Int} (h : Dec bs b xs ks pss) (hb : Bytes bs) : ∀ l ∈ xs, Bytes l := fun l hl => bytes_of_mem (fun x hx => by
  refine mem_of_bytes hb x ?_
  rw [← h.2.2]
  have := lnL_mem xs l hl x hx
  simp [encL, bodL, this])
theorem dec_in {bs : List Int} {b : Int} {xs pss : List (List Int)} {ks : List Int} (h : Dec bs b xs ks pss) (hb : Bytes bs) : SegIn b xs ks pss := by
  have hf := h.1
  have hs := segR_len h.2.1 (by have := hf.1; have := hf.2.2.1; omega)
  have ht := hf.2.2.2.2
  exact ⟨dec_bytes h hb, by have := hf.1; omega, by have := hf.2.2.1; omega, by omega, by have := hf.1; have := hf.2.2.1; omega, by omega, by omega, by rw [h.2.1.len]; omega⟩

/-- What is drawn hangs on the code alone. -/
def DrawOk (code : List Int) : Prop := ∃ bs, Bytes bs ∧ bs.length ≤ 1048576 ∧ ∀ (v : Value) (w : World), SlAt mB 0 0 w.heap.size w v code → CapOk v →
    Calls Try.prog 4 #[v] w (DrawnB w bs)

set_option maxHeartbeats 8000000 in
set_option maxRecDepth 100000 in
theorem lawCodec_any (u : Value) (code : List Int) (w : World) (hu : SlAt mB 0 0 w.heap.size w u code) (hcap : CapOk u) (hd : DrawOk code) :
    Calls Try.prog 3 #[u] w fun e w' => e = .returned (.bool true) ∧ Below w.heap.size w w' := by
  have HU := hide hu
  have HCU := hide hcap
  obtain ⟨bs, hbb, hbl, hdr⟩ := hd
  have HB := hide hbb
  have HD := hide hdr
  obtain ⟨a, cap, rfl, -, -⟩ := hu
  clear hbb hdr hcap
  by_cases hlen : 1048576 < code.length
  · have hlen' : (1048576 : Int) < (code.length : Int) := by omega
    go_enter Try.func3, Try.ntmps3
    go_wp2
    go_ret
    exact ⟨rfl, Below.refl _ _⟩
  · have hlen' : ¬ (1048576 : Int) < (code.length : Int) := by omega
    go_enter Try.func3, Try.ntmps3
    go_wp2_with fail
    refine (unhide HD _ w (unhide HU) (unhide HCU)).mono ?_
    rintro e w1 ⟨⟨v1, rfl, hs1, hc1⟩, hb1⟩
    have HS1 := hide hs1
    have HC1 := hide hc1
    have hz1 := hb1.size
    obtain ⟨a1, c1, rfl, -, -⟩ := hs1
    clear hc1
    go_wp2_with fail
    refine (specDecode_any _ bs w1 (unhide HS1) (unhide HC1) (unhide HB) hbl).mono ?_
    rintro e w2 ⟨⟨sv, b0, xss, ks, pss, c, rfl, hdi, hrd⟩, hb2⟩
    have hz2 := hb2.size
    have HDI := hide hdi
    obtain ⟨p1, q1, p2, q2, p3, q3, rfl, -⟩ := hrd.rd.parts
    clear hdi hrd
    have hB2 : Below w.heap.size w w2 := hb1.trans (hb2.mono hz1)
    have HS2 := hide ((unhide HS1).below hb2 (Nat.le_refl _))
    clear hb1 hb2 HS1
    go_wp2_with fail
    obtain ⟨w3, hw3⟩ : ∃ w3, w3 = w2.alloc (.cells #[.int .i64 b0, .slice p1 xss.length q1, .slice p2 ks.length q2, .slice p3 pss.length q3] 28) := ⟨_, rfl⟩
    have hb3 := below1 w2 (.cells #[.int .i64 b0, .slice p1 xss.length q1, .slice p2 ks.length q2, .slice p3 pss.length q3] 28)
    rw [← hw3] at hb3 ⊢
    clear hw3
    have hz3 := hb3.size
    have hB3 : Below w.heap.size w w3 := hB2.trans (hb3.mono (by omega))
    have HS3 := hide ((unhide HS2).below hb3 (Nat.le_refl _))
    clear HS2 hB2 hb3
    refine (unhide HD _ w3 ((unhide HU).below hB3 (Nat.le_refl _)) (unhide HCU)).mono ?_
    rintro e w4 ⟨⟨v4, rfl, hs4, hc4⟩, hb4⟩
    have HT4 := hide hs4
    have HC4 := hide hc4
    have hz4 := hb4.size
    have hB4 : Below w.heap.size w w4 := hB3.trans (hb4.mono (by omega))
    have HS4 := hide ((unhide HS3).below hb4 (Nat.le_refl _))
    obtain ⟨a4, c4, rfl, -, -⟩ := hs4
    clear hc4 hB3 hb4 HS3
    go_wp2_with fail
    refine (implDecode_any _ bs w4 (unhide HT4) (unhide HC4) (unhide HB) hbl).mono ?_
    rintro e w5 ⟨⟨sv, b0', xss', ks', pss', c', rfl, hdi, hcnt, hsf⟩, hb5⟩
    obtain ⟨e1, e2, e3, e4, e5⟩ := DecIs.uniq hdi (unhide HDI)
    rw [e1, e2, e3, e4] at hsf
    rw [e5]
    have hz5 := hb5.size
    have hrd := hsf.rd (Nat.le_refl _)
    have HRD := hide hrd
    obtain ⟨r1, s1, r2, s2, r3, s3, rfl, -⟩ := hrd.parts
    have hB5 : Below w.heap.size w w5 := hB4.trans (hb5.mono (by omega))
    have HS5 := hide ((unhide HS4).below hb5 (Nat.le_refl _))
    clear hdi e1 e2 e3 e4 e5 hcnt hsf hrd hB4 hb5 HS4
    rcases unhide HDI with ⟨hdec, rfl⟩ | ⟨hno, -, -, -, -, rfl⟩
    · have HDC := hide hdec
      have HIN := hide (dec_in hdec (unhide HB))
      clear hdec
      go_wp2_with fail
      obtain ⟨w6, hw6⟩ : ∃ w6, w6 = w5.alloc (.cells #[.int .i64 b0, .slice r1 xss.length s1, .slice r2 ks.length s2, .slice r3 pss.length s3] 28) := ⟨_, rfl⟩
      have R6 := Row4.new w5 28 (.int .i64 b0) (.slice r1 xss.length s1) (.slice r2 ks.length s2) (.slice r3 pss.length s3)
      have hb6 := below1 w5 (.cells #[.int .i64 b0, .slice r1 xss.length s1, .slice r2 ks.length s2, .slice r3 pss.length s3] 28)
      have hz6 : w5.heap.size < w6.heap.size := by rw [hw6, sz_alloc]; omega
      rw [← hw6] at R6 hb6 ⊢
      clear hw6
      have HR6 := hide ((unhide HRD).below hb6 (Nat.le_refl _))
      have HS6 := hide ((unhide HS5).below hb6 (Nat.le_refl _))
      have hB6 : Below w.heap.size w w6 := hB5.trans (hb6.mono (by omega))
      clear HRD HS5 hB5 hb6
      refine (implEncode_any _ b0 xss pss ks w6 (unhide HR6) (unhide HIN)).mono ?_
      rintro e w7 ⟨⟨v7, bs7, rfl, hei, ho7, hl7⟩, hb7⟩
      obtain rfl : bs7 = bs := by
        rcases hei with ⟨-, h⟩ | ⟨h, -⟩
        · rw [h]; exact (unhide HDC).2.2
        · exact absurd ⟨(unhide HDC).1, (unhide HDC).2.1⟩ h
      have hz7 := hb7.size
      have HO7 := hide (own_rdB ho7 (by unfold maxLen; omega))
      obtain ⟨oa7, oc7, rfl⟩ := own_is ho7
      have R7 := R6.below hb7 hz6
      have HRW := hide R7
      obtain ⟨f0, f1, f2, f3, -⟩ := R7.facts
      have HR7 := hide ((unhide HR6).below hb7 (Nat.le_refl _))
      have HS7 := hide ((unhide HS6).below hb7 (Nat.le_refl _))
      have hB7 : Below w.heap.size w w7 := hB6.trans (hb7.mono (by omega))
      clear HR6 HS6 hB6 hb7 R6 R7 hei ho7
      go_wp2_with fail
      refine (sameBytes_same _ _ bs7 w7.heap.size w7 (unhide HO7) (unhide HS7)).mono ?_
      rintro e w8 ⟨rfl, q8, hw8⟩
      have hb8 : Below w7.heap.size w7 w8 := by rw [hw8]; exact drewB q8
      clear hw8
      have hz8 := hb8.size
      have R8 := (unhide HRW).below hb8 (by omega)
      have HRW8 := hide R8
      obtain ⟨f0, f1, f2, f3, -⟩ := R8.facts
      have HR8 := hide ((unhide HR7).below hb8 (Nat.le_refl _))
      have hB8 : Below w.heap.size w w8 := hB7.trans (hb8.mono (by omega))
      clear HR7 hB7 hb8 R8 HRW HO7 HS7
      go_wp2_with fail
      obtain ⟨_, _, _, _, _, _, e1, hss, -, -⟩ := (unhide HR8).parts
      cases e1
      refine (implBuild_any b0 _ xss w8 hss (unhide HIN).bytes (unhide HIN).t1 (unhide HIN).l1 (unhide HIN).lo (unhide HIN).hi).mono ?_
      rintro e w9 ⟨hbg, hb9⟩
      clear hss
      rcases hbg with ⟨-, v9, ks9, pss9, rfl, hsr, -, hsf⟩ | ⟨hnf, -⟩
      · obtain ⟨e1, e2⟩ := SegR.uniq hsr (unhide HDC).2.1
        rw [e1, e2] at hsf
        have hrd := hsf.rd (Nat.le_refl _)
        have HT9 := hide hrd
        obtain ⟨t1, y1, t2, y2, t3, y3, rfl, -⟩ := hrd.parts
        have hz9 := hb9.size
        have R9 := (unhide HRW8).below hb9 (by omega)
        have HRW9 := hide R9
        have f0 : ∀ o, (w9.alloc o).cell? ⟨w5.heap.size, 0, none⟩ = some (.int .i64 b0) := fun o => (R9.alloc o).facts.1
        have f1 : ∀ o, (w9.alloc o).cell? ⟨w5.heap.size, 1, none⟩ = some (.slice r1 xss.length s1) := fun o => (R9.alloc o).facts.2.1
        have f2 : ∀ o, (w9.alloc o).cell? ⟨w5.heap.size, 2, none⟩ = some (.slice r2 ks.length s2) := fun o => (R9.alloc o).facts.2.2.1
        have f3 : ∀ o, (w9.alloc o).cell? ⟨w5.heap.size, 3, none⟩ = some (.slice r3 pss.length s3) := fun o => (R9.alloc o).facts.2.2.2.1
        have HR9 := hide ((unhide HR8).below hb9 (Nat.le_refl _))
        have hB9 : Below w.heap.size w w9 := hB8.trans (hb9.mono (by omega))
        clear HR8 hB8 hb9 R9 HRW8 hsr hsf hrd e1 e2
        go_wp2_with fail
        have hb10 := below1 w9 (.cells #[.int .i64 b0, .slice t1 xss.length y1, .slice t2 ks.length y2, .slice t3 pss.length y3] 28)
        refine (sameSegment_same _ _ b0 xss pss ks _ ((unhide HT9).below hb10 (Nat.le_refl _)) ((unhide HR9).below hb10 (Nat.le_refl _)) (unhide HIN).l1 (unhide HIN).l3).mono ?_
        rintro e w10 ⟨rfl, hb11⟩
        have hB11 : Below w.heap.size w w10 := hB9.trans ((hb10.mono (by omega)).trans (hb11.mono (by rw [sz_alloc]; omega)))
        clear hb10 hb11
        go_wp2_with fail
        go_ret
        exact ⟨rfl, hB11⟩
      · exact absurd (unhide HDC).1 hnf
    · go_wp2_with fail
      go_ret
      exact ⟨rfl, hB5.trans ((below1 w5 _).mono (by omega))⟩

end Go.Proofs.Ytkajdhliejjohaa
