import Derived.Test.YtkajdhliejjohaaSp7
import Derived.Test.YtkajdhliejjohaaSp9
import Derived.Test.YtkajdhliejjohaaFc11
import Derived.Test.YtkajdhliejjohaaFc12
import Derived.Test.YtkajdhliejjohaaFc13
import Derived.Test.YtkajdhliejjohaaFc14
import Derived.Test.YtkajdhliejjohaaFc15
namespace Go.Proofs.Ytkajdhliejjohaa
open Go.RowKit

theorem tot_set_le : ∀ (pss : List (List Int)) (i : Nat) (x : List Int), tot (pss.set i x) ≤ tot pss + x.length
  | [], i, x => by simp [Go.Proofs.Ytkajdhliejjohaa.tot]
  | p :: r, 0, x => by
    show x.length + tot r ≤ p.length + tot r + x.length
    omega
  | p :: r, i + 1, x => by
    have := tot_set_le r i x
    show p.length + tot (r.set i x) ≤ p.length + tot r + x.length
    omega
theorem mid_of {x : Int} (h0 : 0 ≤ x) (h1 : x ≤ 16777216) : Mid x := ⟨h0, by omega⟩

set_option maxRecDepth 4000 in
theorem drawDec_1 (code : List Int) (hc : Cod code) (hk : (code.take 600).headD 0 % 16 = 1) : DrawOk code := by
  have hx : Cod (code.take 600) := fun x h => hc x (List.mem_of_mem_take h)
  by_cases hex : ∃ ks pss, SegR (dSg (code.take 600).tail).2.1 (dSg (code.take 600).tail).1 ks pss
  · obtain ⟨ks, pss, hsr⟩ := hex
    obtain ⟨o1, o2, o3, o4, o5⟩ := dSg_ok (code.take 600).tail hx.tail
    have I := dSg_enc (code.take 600).tail hx.tail hsr
    have hsl := segR_len hsr (by omega)
    have hln := hsr.len
    have hB := drawDec_1b code hc hk ks pss hsr
    have hE := drawDec_1e code hc hk ks pss hsr
    have hz : Cod (dSg (code.take 600).tail).2.2.tail.tail := o5.tail.tail
    have hzh := hz.head
    have hzh2 := hz.tail.head
    generalize (dSg (code.take 600).tail).2.2.tail.tail = zs at *
    generalize (dSg (code.take 600).tail).2.1 = b at *
    generalize (dSg (code.take 600).tail).1 = X at *
    have hb0 := o4.1
    have hb1 : b ≤ 1000 := by omega
    have SP : ∀ (b' : Int) (X' : List (List Int)) (ks' : List Int) (pss' : List (List Int)) (kept : Prop), (∀ (N D lo m1 m2 : Nat) (lv kv pv : Value) (ps qs : List (Cl Int)) (w : World), CdAt N D w zs → D < lo → lo ≤ w.heap.size → SegP lo m1 m2 w lv kv pv ps qs ks → ps.map Cl.xs = X → qs.map Cl.xs = pss → Calls Try.prog 15 #[.agg #[.int .i64 b, lv, kv, pv], .pointer (some ⟨D, 0, none⟩)] w (Spoilt N D lo w zs.tail.tail b' X' ks' pss' (fun w' => kept → Kept D w (.agg #[.int .i64 b, lv, kv, pv]) b X ks pss w'))) → SpC zs b X ks pss b' X' ks' pss' kept := fun b' X' ks' pss' kept H N D lo v w h hD hlo hs => by
      obtain ⟨lv, kv, pv, m1, m2, ps, qs, rfl, hps, hqs, hP⟩ := hs.p
      exact H N D lo m1 m2 lv kv pv ps qs w h hD hlo hP hps hqs
    have hlenq : ∀ qs : List (Cl Int), qs.map Cl.xs = pss → qs.length = pss.length := fun qs h => by rw [← h, List.length_map]
    have hlenp : ∀ ps : List (Cl Int), ps.map Cl.xs = X → ps.length = X.length := fun ps h => by rw [← h, List.length_map]
    have TF : ∀ {N D lo : Nat} {w : World} {v : Value} {b' : Int} {X' : List (List Int)} {ks' : List Int} {pss' : List (List Int)} {e : Ending} {w' : World}, Spoilt N D lo w zs.tail.tail b' X' ks' pss' (fun _ => True) e w' → Spoilt N D lo w zs.tail.tail b' X' ks' pss' (fun w' => False → Kept D w v b X ks pss w') e w' := fun h => ⟨h.1, h.2.1, h.2.2.1, fun h => h.elim⟩
    have TT : ∀ {N D lo : Nat} {w : World} {v : Value} {b' : Int} {X' : List (List Int)} {ks' : List Int} {pss' : List (List Int)} {e : Ending} {w' : World}, Spoilt N D lo w zs.tail.tail b' X' ks' pss' (Kept D w v b X ks pss) e w' → Spoilt N D lo w zs.tail.tail b' X' ks' pss' (fun w' => True → Kept D w v b X ks pss w') e w' := fun h => ⟨h.1, h.2.1, h.2.2.1, fun _ => h.2.2.2⟩
    have hnone : ks.length = 0 → EncIn b [] ks pss := fun _ => ⟨I.b, fun x hx => absurd hx List.not_mem_nil, I.k, I.p, by simp [Go.Proofs.Ytkajdhliejjohaa.tot], by simp, I.l2, I.t3, I.l3⟩
    rcases (show zs.headD 0 % 10 = 0 ∨ zs.headD 0 % 10 = 1 ∨ zs.headD 0 % 10 = 2 ∨ zs.headD 0 % 10 = 3 ∨ zs.headD 0 % 10 = 4 ∨ zs.headD 0 % 10 = 5 ∨ zs.headD 0 % 10 = 6 ∨ zs.headD 0 % 10 = 7 ∨ zs.headD 0 % 10 = 8 ∨ zs.headD 0 % 10 = 9 by omega) with k0 | k0 | k0 | k0 | k0 | k0 | k0 | k0 | k0 | k0
    · exact hB (b + 1) X ks pss ⟨mid_of (by omega) (by omega), I.bytes, I.k, I.p, I.t1, I.l1, I.l2, I.t3, I.l3⟩ (by omega) (by omega) (by omega) (by omega) (by omega) (fun N D lo v w h hD hlo hs => (l4spoil_0 N D lo zs v b X pss ks w h hz hD hlo hs hb0 hb1 k0).mono (fun e w' h => TF h))
    · exact hE (-1) X ks pss (Or.inl (by omega)) (SP _ _ _ _ _ (fun N D lo m1 m2 lv kv pv ps qs w h hD hlo hP hps hqs => by
        have H := l4spoil_1k N D lo m1 m2 zs b lv kv pv ps qs ks w h hz hD hlo hP hb0 hb1 k0
        rw [hps, hqs] at H
        exact H.mono (fun e w' h => TT h)))
    · exact hE b X (ks ++ [16777215]) pss (Or.inr ⟨hb0, by rw [List.length_append, List.length_singleton]; omega⟩) (SP _ _ _ _ _ (fun N D lo m1 m2 lv kv pv ps qs w h hD hlo hP hps hqs => by
        have H := l4spoil_2 N D lo m1 m2 zs b lv kv pv ps qs ks w h hz hD hlo hP hb0 hb1 k0 (by omega)
        rw [hps, hqs] at H
        exact H.mono (fun e w' h => TT h)))
    · refine hB b X ks (pss ++ [[b]]) ⟨I.b, I.bytes, I.k, fun p hp x hx => ?_, I.t1, I.l1, I.l2, ?_, by rw [List.length_append]; have := I.l3; omega⟩ hb0 (by omega) (by omega) (by omega) ?_ (SP _ _ _ _ _ (fun N D lo m1 m2 lv kv pv ps qs w h hD hlo hP hps hqs => by
        have H := l4spoil_3 N D lo m1 m2 zs b lv kv pv ps qs ks w h hz hD hlo hP hb0 hb1 k0 (by have := hlenq qs hqs; omega) (by have := hlenp ps hps; omega)
        rw [hps, hqs] at H
        exact H.mono (fun e w' h => TF h)))
      · rcases List.mem_append.1 hp with hp | hp
        · exact I.p p hp x hx
        · rw [List.mem_singleton] at hp
          subst hp
          rw [List.mem_singleton] at hx
          rw [hx]
          exact mid_of hb0 (by omega)
      · rw [tot_app]
        have : tot [[b]] = 1 := rfl
        omega
      · rw [tot_app]
        have : tot [[b]] = 1 := rfl
        omega
    · by_cases hn : ks.length = 0
      · exact hB b [] ks pss (hnone hn) hb0 (by simp [Go.Proofs.Ytkajdhliejjohaa.tot]) (by simp) (by omega) (by omega) (SP _ _ _ _ _ (fun N D lo m1 m2 lv kv pv ps qs w h hD hlo hP hps hqs => by
          have H := l4spoil_n4 N D lo m1 m2 zs b lv kv pv ps qs ks w h hz hD hlo hP hb0 hb1 k0 ⟨hn, by have := hlenq qs hqs; omega⟩
          rw [hqs] at H
          exact H.mono (fun e w' h => TF h)))
      · exact hB b X ks.tail pss ⟨I.b, I.bytes, fun k hk => I.k k (List.mem_of_mem_tail hk), I.p, I.t1, I.l1, by rw [List.length_tail]; have := I.l2; omega, I.t3, by rw [List.length_tail]; have := I.l3; omega⟩ hb0 (by omega) (by omega) (by rw [List.length_tail]; omega) (by omega) (SP _ _ _ _ _ (fun N D lo m1 m2 lv kv pv ps qs w h hD hlo hP hps hqs => by
          have H := l4spoil_4 N D lo m1 m2 zs b lv kv pv ps qs ks w h hz hD hlo hP hb0 hb1 k0 (by omega)
          rw [hps, hqs] at H
          exact H.mono (fun e w' h => TF h)))
    · by_cases hn : ks.length = 0
      · exact hB b [] ks pss (hnone hn) hb0 (by simp [Go.Proofs.Ytkajdhliejjohaa.tot]) (by simp) (by omega) (by omega) (SP _ _ _ _ _ (fun N D lo m1 m2 lv kv pv ps qs w h hD hlo hP hps hqs => by
          have H := l4spoil_n5 N D lo m1 m2 zs b lv kv pv ps qs ks w h hz hD hlo hP hb0 hb1 k0 ⟨hn, by have := hlenq qs hqs; omega⟩
          rw [hqs] at H
          exact H.mono (fun e w' h => TF h)))
      · refine hB b X (ks.set ((zs.tail.headD 0).toNat % ks.length) (zs.tail.headD 0)) pss ⟨I.b, I.bytes, fun k hk => ?_, I.p, I.t1, I.l1, by rw [List.length_set]; exact I.l2, I.t3, by rw [List.length_set]; exact I.l3⟩ hb0 (by omega) (by omega) (by rw [List.length_set]; omega) (by omega) (SP _ _ _ _ _ (fun N D lo m1 m2 lv kv pv ps qs w h hD hlo hP hps hqs => by
          have H := l4spoil_5 N D lo m1 m2 zs b lv kv pv ps qs ks w h hz hD hlo hP hb0 hb1 k0 _ (by omega) (by omega) rfl
          rw [hps, hqs] at H
          exact H.mono (fun e w' h => TF h)))
        rcases List.mem_or_eq_of_mem_set hk with hk | hk
        · exact I.k k hk
        · rw [hk]
          exact mid_of (by omega) (by omega)
    · by_cases hn : ks.length = 0
      · exact hB b [] ks pss (hnone hn) hb0 (by simp [Go.Proofs.Ytkajdhliejjohaa.tot]) (by simp) (by omega) (by omega) (SP _ _ _ _ _ (fun N D lo m1 m2 lv kv pv ps qs w h hD hlo hP hps hqs => by
          have H := l4spoil_n6 N D lo m1 m2 zs b lv kv pv ps qs ks w h hz hD hlo hP hb0 hb1 k0 ⟨hn, by have := hlenq qs hqs; omega⟩
          rw [hqs] at H
          exact H.mono (fun e w' h => TF h)))
      · have ht := tot_set_le pss ((zs.tail.headD 0).toNat % pss.length) [b + zs.tail.headD 0 % 3]
        rw [List.length_singleton] at ht
        refine hB b X ks (pss.set ((zs.tail.headD 0).toNat % pss.length) [b + zs.tail.headD 0 % 3]) ⟨I.b, I.bytes, I.k, fun p hp x hx => ?_, I.t1, I.l1, I.l2, by omega, by rw [List.length_set]; exact I.l3⟩ hb0 (by omega) (by omega) (by omega) (by omega) (SP _ _ _ _ _ (fun N D lo m1 m2 lv kv pv ps qs w h hD hlo hP hps hqs => by
          have hq := hlenq qs hqs
          have H := l4spoil_6 N D lo m1 m2 zs b lv kv pv ps qs ks w h hz hD hlo hP hb0 hb1 k0 _ (by omega) (by omega) rfl
          rw [hps, hqs, hq] at H
          exact H.mono (fun e w' h => TF h)))
        rcases List.mem_or_eq_of_mem_set hp with hp | hp
        · exact I.p p hp x hx
        · rw [hp, List.mem_singleton] at hx
          rw [hx]
          exact mid_of (by omega) (by omega)
    · by_cases hn : ks.length = 0
      · exact hB b [] ks pss (hnone hn) hb0 (by simp [Go.Proofs.Ytkajdhliejjohaa.tot]) (by simp) (by omega) (by omega) (SP _ _ _ _ _ (fun N D lo m1 m2 lv kv pv ps qs w h hD hlo hP hps hqs => by
          have H := l4spoil_n7 N D lo m1 m2 zs b lv kv pv ps qs ks w h hz hD hlo hP hb0 hb1 k0 ⟨hn, by have := hlenq qs hqs; omega⟩
          rw [hqs] at H
          exact H.mono (fun e w' h => TF h)))
      · exact hE b X ks pss.tail (Or.inr ⟨hb0, by rw [List.length_tail]; omega⟩) (SP _ _ _ _ _ (fun N D lo m1 m2 lv kv pv ps qs w h hD hlo hP hps hqs => by
          have hq := hlenq qs hqs
          have H := l4spoil_7 N D lo m1 m2 zs b lv kv pv ps qs ks w h hz hD hlo hP hb0 hb1 k0 (by omega)
          rw [hps, hqs] at H
          exact H.mono (fun e w' h => TT h)))
    · refine hB b (X ++ [[97, 98]]) ks pss ⟨I.b, fun x hx => ?_, I.k, I.p, ?_, by rw [List.length_append, List.length_singleton]; omega, I.l2, I.t3, I.l3⟩ hb0 ?_ (by rw [List.length_append, List.length_singleton]; omega) (by omega) (by omega) (SP _ _ _ _ _ (fun N D lo m1 m2 lv kv pv ps qs w h hD hlo hP hps hqs => by
        have H := l4spoil_8 N D lo m1 m2 zs b lv kv pv ps qs ks w h hz hD hlo hP hb0 hb1 k0 (by have := hlenq qs hqs; omega) (by have := hlenp ps hps; omega)
        rw [hps, hqs] at H
        exact H.mono (fun e w' h => TF h)))
      · rcases List.mem_append.1 hx with hx | hx
        · exact I.bytes x hx
        · rw [List.mem_singleton] at hx
          rw [hx]
          exact bytes_of_mem (by decide)
      · rw [tot_app]
        have : tot [([97, 98] : List Int)] = 2 := rfl
        omega
      · rw [tot_app]
        have : tot [([97, 98] : List Int)] = 2 := rfl
        omega
    · by_cases hn : ks.length = 0
      · exact hB b [] ks pss (hnone hn) hb0 (by simp [Go.Proofs.Ytkajdhliejjohaa.tot]) (by simp) (by omega) (by omega) (SP _ _ _ _ _ (fun N D lo m1 m2 lv kv pv ps qs w h hD hlo hP hps hqs => by
          have H := l4spoil_n9 N D lo m1 m2 zs b lv kv pv ps qs ks w h hz hD hlo hP hb0 hb1 k0 ⟨hn, by have := hlenq qs hqs; omega⟩
          rw [hqs] at H
          exact H.mono (fun e w' h => TF h)))
      · obtain ⟨i, hi⟩ : ∃ i, (zs.tail.headD 0).toNat % pss.length = i := ⟨_, rfl⟩
        have hil : i < pss.length := by rw [← hi]; exact Nat.mod_lt _ (by omega)
        have htg := tot_get pss i
        have ht := tot_set_le pss i (pss[i]?.getD [] ++ [b])
        rw [List.length_append, List.length_singleton] at ht
        have hpm : pss[i]?.getD [] ∈ pss := by rw [List.getElem?_eq_getElem hil]; exact List.getElem_mem hil
        refine hB b X ks (pss.set i (pss[i]?.getD [] ++ [b])) ⟨I.b, I.bytes, I.k, fun p hp x hx => ?_, I.t1, I.l1, I.l2, by omega, by rw [List.length_set]; exact I.l3⟩ hb0 (by omega) (by omega) (by omega) (by omega) (SP _ _ _ _ _ (fun N D lo m1 m2 lv kv pv ps qs w h hD hlo hP hps hqs => by
          have hq := hlenq qs hqs
          obtain ⟨q, hqi⟩ : ∃ q, qs[i]? = some q := ⟨qs[i]'(by omega), by rw [List.getElem?_eq_getElem (by omega)]⟩
          have hqx : pss[i]?.getD [] = q.xs := by rw [← hqs, List.getElem?_map, hqi]; rfl
          have H := l4spoil_9 N D lo m1 m2 zs b lv kv pv ps qs ks w h hz hD hlo hP hb0 hb1 k0 i q (by omega) (by omega) (by rw [hq]; exact hi) hqi (by rw [← hqx]; omega)
          rw [hps, hqs, ← hqx] at H
          exact H.mono (fun e w' h => TF h)))
        rcases List.mem_or_eq_of_mem_set hp with hp | hp
        · exact I.p p hp x hx
        · rw [hp] at hx
          rcases List.mem_append.1 hx with hx | hx
          · exact I.p _ hpm x hx
          · rw [List.mem_singleton] at hx
            rw [hx]
            exact mid_of hb0 (by omega)
  · exact ⟨[], bytes_of_mem (fun _ hx => absurd hx List.not_mem_nil), Nat.zero_le _, fun v w hv hcap => drawDec_none code hc (by omega) hex v w hv hcap _⟩

theorem drawOk (code : List Int) (hc : Cod code) : DrawOk code := by
  have hx : Cod (code.take 600) := fun x h => hc x (List.mem_of_mem_take h)
  have hh := hx.head
  rcases (show (code.take 600).headD 0 % 16 = 0 ∨ (code.take 600).headD 0 % 16 = 1 ∨ (code.take 600).headD 0 % 16 = 2 ∨ (code.take 600).headD 0 % 16 = 3 ∨ (code.take 600).headD 0 % 16 = 4 ∨ (code.take 600).headD 0 % 16 = 5 ∨ (code.take 600).headD 0 % 16 = 6 ∨ (code.take 600).headD 0 % 16 = 7 ∨ (code.take 600).headD 0 % 16 = 8 ∨ (code.take 600).headD 0 % 16 = 9 ∨ (code.take 600).headD 0 % 16 = 10 ∨ 11 ≤ (code.take 600).headD 0 % 16 by omega) with k | k | k | k | k | k | k | k | k | k | k | k
  · exact drawDec_0 code hc k
  · exact drawDec_1 code hc k
  · exact drawDec_2 code hc k
  · exact drawDec_3 code hc k
  · exact drawDec_4 code hc k
  · exact drawDec_5 code hc k
  · exact drawDec_6 code hc k
  · exact drawDec_7 code hc k
  · exact drawDec_8 code hc k
  · exact drawDec_9 code hc k
  · exact drawDec_10 code hc k
  · exact drawDec_plain code hc k

end Go.Proofs.Ytkajdhliejjohaa
