import Derived.Test.YtgedhbnmejlmeaaV4
import Derived.Test.YtgedhbnmejlmeaaV5
import Derived.Test.YtgedhbnmejlmeaaA5
import Derived.Test.YtgedhbnmejlmeaaP3
namespace Go.Proofs.Ytgedhbnmejlmeaa
open Go.RowKit

def Slim (xs : List El) : Prop := ∀ x ∈ xs, x.set.length ≤ 300
theorem Slim.app {a b : List El} (ha : Slim a) (hb : Slim b) : Slim (a ++ b) := fun x hx => (List.mem_append.1 hx).elim (ha x) (hb x)
theorem Slim.op (k mn mx : Int) : Slim [⟨k, [], mn, mx⟩] := fun x hx => by rw [List.mem_singleton.1 hx]; simp
theorem slim_jn (ps : List (List El)) (h : ∀ p ∈ ps, Slim p) : Slim (jn ps) := by
  cases ps with
  | nil => intro x hx; simp [jn] at hx
  | cons p r =>
    have key : ∀ (r : List (List El)) (acc : List El), Slim acc → (∀ p ∈ r, Slim p) → Slim (r.foldl (fun acc q => acc ++ q ++ [catE]) acc) := by
      intro r
      induction r with
      | nil => intro acc h _; exact h
      | cons q r ih =>
        intro acc ha hq
        exact ih _ ((ha.app (hq q (by simp))).app (Slim.op 2 0 0)) (fun p hp => hq p (by simp [hp]))
    exact key r p (h p (by simp)) (fun q hq => h q (by simp [hq]))
theorem slim_rep {X : List El} (h : Slim X) (mn mx : Int) : Slim (repX X mn mx) := by
  unfold repX
  split
  · exact Slim.op 0 0 0
  · refine slim_jn _ (fun p hp => ?_)
    unfold partsX at hp
    split at hp
    · rcases List.mem_append.1 hp with hp | hp
      · rw [(List.mem_replicate.1 hp).2]; exact h
      · rw [List.mem_singleton.1 hp]; exact h.app (Slim.op _ _ _)
    · rcases List.mem_append.1 hp with hp | hp
      · rw [(List.mem_replicate.1 hp).2]; exact h
      · rw [(List.mem_replicate.1 hp).2]; exact (h.app (Slim.op _ _ _)).app (Slim.op _ _ _)
theorem slim_push {st : List (List El)} {x : El} (hx : x.set.length ≤ 300) (h : ∀ p ∈ st, Slim p) : ∀ p ∈ xPush st x, Slim p := by
  have h1 : Slim [x] := fun y hy => by rw [List.mem_singleton.1 hy]; exact hx
  intro p hp
  unfold xPush at hp
  split at hp
  · rcases List.mem_cons.1 hp with rfl | hp
    · exact h1
    · exact h p hp
  · split at hp
    · simp at hp
    · split at hp
      · rw [List.mem_singleton.1 hp]; exact slim_rep (h _ (by simp)) _ _
      · exact h p hp
    · split at hp
      · rcases List.mem_cons.1 hp with rfl | hp
        · exact slim_rep (h _ (by simp)) _ _
        · exact h p (by simp only [List.mem_cons] at hp ⊢; exact Or.inr hp)
      · rcases List.mem_cons.1 hp with rfl | hp
        · exact ((h _ (by simp)).app (h _ (by simp))).app h1
        · exact h p (by simp [hp])
theorem slim_run : ∀ (xs : List El) (st : List (List El)), Slim xs → (∀ p ∈ st, Slim p) → ∀ p ∈ xRun st xs, Slim p
  | [], _, _, h => h
  | x :: r, st, hx, h => slim_run r (xPush st x) (fun y hy => hx y (by simp [hy])) (slim_push (hx x (by simp)) h)
theorem bulk_slim : ∀ (xs : List El), Slim xs → bulk xs ≤ 300 * xs.length
  | [], _ => by simp [bulk]
  | x :: r, h => by
    have h1 := bulk_slim r (fun y hy => h y (by simp [hy]))
    have h2 := h x (by simp)
    simp only [bulk, List.length_cons]
    omega

theorem AnsX.nice {xs L : List El} (h : AnsX xs L) : Nice L := by
  rcases h with ⟨-, -, h, -⟩ | ⟨-, rfl⟩
  · exact h
  · exact Nice.nil
theorem AnsX.bulk {xs L : List El} (h : AnsX xs L) : L.length + bulk L ≤ 1048576 := by
  rcases h with ⟨hv, hs, -, hl⟩ | ⟨-, rfl⟩
  · have hx : Slim xs := fun x hx => by
      obtain ⟨i, hi, rfl⟩ := List.getElem_of_mem hx
      have ok := hv.2.1 i hi
      rw [List.getElem?_eq_getElem hi] at ok
      rcases ok with ⟨-, q, -⟩ | ⟨-, q, -⟩ | ⟨-, q, -⟩
      · exact canon_len q
      · simp only [Option.getD_some] at q; omega
      · simp only [Option.getD_some] at q; omega
    have h1 := slim_run xs [] hx (by simp) L (by rw [hs []]; simp)
    have h2 := bulk_slim L h1
    omega
  · simp [Ytgedhbnmejlmeaa.bulk]

theorem num_of {n : Nat} {w : World} {v : Value} {xs : List El} (h : ElsAt 0 n w v xs) : Num xs := by
  obtain ⟨a, cap, -, -, hc⟩ := h
  intro i
  by_cases hi : i < xs.length
  · obtain ⟨b, off, -, -, -, hel⟩ := hc (by omega)
    obtain ⟨i1, i2, i3, s, -, -, -, -, a', c', -, -, hr, -⟩ := hel i hi
    exact ⟨i1, i2, i3, hr⟩
  · rw [List.getElem?_eq_none (by omega)]
    simp [dE, In64]
theorem set_le {xs : List El} {m : Nat} (h : bulk xs ≤ m) : ∀ i : Nat, (xs[i]?.getD dE).set.length ≤ m := by
  intro i
  by_cases hi : i < xs.length
  · have h1 := bulk_take_succ xs i hi
    have hb : ∀ (l : List El) (j : Nat), bulk (l.take j) ≤ bulk l := by
      intro l
      induction l with
      | nil => intro j; simp [bulk]
      | cons x r ih => intro j; cases j with
        | zero => simp [bulk]
        | succ j => have := ih j; simp only [List.take_succ_cons, bulk]; omega
    have h2 := hb xs (i + 1)
    omega
  · rw [List.getElem?_eq_none (by omega)]
    simp [dE]

theorem ElsF.keep {S : Nat → Prop} {m : Nat} {w w' : World} {v : Value} {xs : List El} (h : ElsF S w v xs) (hb : Below m w w') (hs : ∀ k, S k → k < m) : ElsF S w' v xs := h.same (fun k hk => hb.block k (hs k hk))

set_option maxHeartbeats 4000000 in
set_option maxRecDepth 100000 in
theorem lawX_any (v : Value) (xs : List El) (w : World) (hv : ElsAt 0 w.heap.size w v xs) :
    Calls Try.prog 4 #[v] w fun e w' => e = .returned (.bool true) ∧ Below w.heap.size w w' := by
  obtain ⟨a, cp, rfl, -, -⟩ := id hv
  have HN := hide (num_of hv)
  have Hv := hide hv
  clear hv
  go_enter Try.func4, Try.ntmps4
  go_wp2_with fail
  refine (szOpS_any _ xs _ _ (unhide Hv) (by omega) (by omega)).mono ?_
  rintro e w1 ⟨⟨r, rfl, hr⟩, hB1⟩
  rcases hr with rfl | ⟨hr0, hr1⟩
  · go_wp2
    go_ret
    exact ⟨rfl, hB1⟩
  · have hsum : xs.length + bulk xs ≤ 1048576 := by omega
    have Hset := hide (set_le (xs := xs) (m := 1048576) (by omega))
    have hxl : xs.length ≤ 1048576 := by omega
    have hz1 := hB1.size
    clear hr1
    go_wp2_with fail
    refine (toOpS_w _ xs _ ((unhide Hv).below hB1 (Nat.le_refl _)) hxl (unhide Hset)).mono ?_
    rintro e w2 ⟨v2, rfl, h2, hb2⟩
    obtain ⟨a2, c2, rfl⟩ : ∃ a c, v2 = .slice a xs.length c := by obtain ⟨a, c, e, -⟩ := h2; exact ⟨a, c, e⟩
    have hz2 := hb2.size
    have hB2 : Below w.heap.size w w2 := hB1.trans (hb2.mono hz1)
    have E2 := hide (h2.foot.at (N := w2.heap.size) (fun k hk => hk.2) (unhide HN))
    clear h2 hb2
    go_wp2_with fail
    refine (specX_any _ xs _ (unhide E2)).mono ?_
    rintro e w3 ⟨s0, L, rfl, hans, hs0, hb3⟩
    obtain ⟨a3, c3, rfl⟩ : ∃ a c, s0 = .slice a L.length c := by obtain ⟨a, c, e, -⟩ := hs0; exact ⟨a, c, e⟩
    have hz3 := hb3.size
    have hB3 : Below w.heap.size w w3 := hB2.trans (hb3.mono (by omega))
    have Hans := hide hans
    have NL := hide hans.nice
    have hbk := hans.bulk
    have SL := hide (set_le (xs := L) (m := 1048576) (by omega))
    have S3 := hide hs0
    clear hs0 hans E2 hb3
    go_wp2_with fail
    refine (toOpS_w _ xs _ ((unhide Hv).below hB3 (Nat.le_refl _)) hxl (unhide Hset)).mono ?_
    rintro e w4 ⟨x0, rfl, hx0, hb4⟩
    obtain ⟨a4, c4, rfl⟩ : ∃ a c, x0 = .slice a xs.length c := by obtain ⟨a, c, e, -⟩ := hx0; exact ⟨a, c, e⟩
    have hz4 := hb4.size
    have hB4 : Below w.heap.size w w4 := hB3.trans (hb4.mono (by omega))
    have S4 := hide ((unhide S3).keep hb4 (fun k hk => hk.2))
    have X4 := hide hx0.foot
    clear hx0 hb4 S3
    go_wp2_with fail
    refine (implX_any _ xs _ ((unhide X4).at (fun k hk => hk.2) (unhide HN))).mono ?_
    rintro e w5 ⟨g0, L', rfl, hans', hg0, hb5⟩
    obtain rfl := (unhide Hans).one hans'
    obtain ⟨a5, c5, rfl⟩ : ∃ a c, g0 = .slice a L.length c := by obtain ⟨a, c, e, -⟩ := hg0; exact ⟨a, c, e⟩
    have hz5 := hb5.size
    have hB5 : Below w.heap.size w w5 := hB4.trans (hb5.mono (by omega))
    have S5 := hide ((unhide S4).keep hb5 (fun k hk => Nat.lt_of_lt_of_le hk.2 hz4))
    have X5 := hide ((unhide X4).keep hb5 (fun k hk => hk.2))
    have G5 := hide hg0
    clear hg0 hb5 S4 X4 hans'
    go_wp2_with fail
    refine (eqOpS_same _ _ L _ ((unhide G5).at (fun k hk => hk.2) (unhide NL).num) ((unhide S5).at (fun k hk => by have := hk.2; omega) (unhide NL).num)).mono ?_
    rintro e w6 ⟨rfl, hb6⟩
    have hz6 := hb6.size
    have hB6 : Below w.heap.size w w6 := hB5.trans (hb6.mono (by omega))
    have S6 := hide ((unhide S5).keep hb6 (fun k hk => by have := hk.2; omega))
    have X6 := hide ((unhide X5).keep hb6 (fun k hk => by have := hk.2; omega))
    have G6 := hide ((unhide G5).keep hb6 (fun k hk => hk.2))
    clear hb6 S5 X5 G5
    go_wp2_with fail
    refine (toOpS_w _ xs _ ((unhide Hv).below hB6 (Nat.le_refl _)) hxl (unhide Hset)).mono ?_
    rintro e w7 ⟨y0, rfl, hy0, hb7⟩
    obtain ⟨a7, c7, rfl⟩ : ∃ a c, y0 = .slice a xs.length c := by obtain ⟨a, c, e, -⟩ := hy0; exact ⟨a, c, e⟩
    have hz7 := hb7.size
    have hB7 : Below w.heap.size w w7 := hB6.trans (hb7.mono (by omega))
    have S7 := hide ((unhide S6).keep hb7 (fun k hk => by have := hk.2; omega))
    have X7 := hide ((unhide X6).keep hb7 (fun k hk => by have := hk.2; omega))
    have G7 := hide ((unhide G6).keep hb7 (fun k hk => by have := hk.2; omega))
    have Y7 := hide (hy0.foot.at (N := w7.heap.size) (fun k hk => hk.2) (unhide HN))
    clear hy0 hb7 S6 X6 G6
    go_wp2_with fail
    refine (eqOpS_same _ _ xs _ ((unhide X7).at (fun k hk => by have := hk.2; omega) (unhide HN)) (unhide Y7)).mono ?_
    rintro e w8 ⟨rfl, hb8⟩
    have hz8 := hb8.size
    have hB8 : Below w.heap.size w w8 := hB7.trans (hb8.mono (by omega))
    have S8 := hide ((unhide S7).keep hb8 (fun k hk => by have := hk.2; omega))
    have X8 := hide ((unhide X7).keep hb8 (fun k hk => by have := hk.2; omega))
    have G8 := hide ((unhide G7).keep hb8 (fun k hk => by have := hk.2; omega))
    clear hb8 S7 X7 G7 Y7
    go_wp2_with fail
    refine (markOpS_f _ xs 1 (Rng w3.heap.size w4.heap.size) _ (unhide X8) (by omega) (by omega) hsum (unhide Hset)).mono ?_
    rintro e w9 ⟨rfl, -, hc9⟩
    have hz9 := hc9.size
    have hB9 : Below w.heap.size w w9 := hB8.trans ((hc9.below (lo := w3.heap.size) (fun k hk => hk.1)).mono (by omega))
    have S9 := hide ((unhide S8).same (fun k hk => hc9.block k (fun q => by have := hk.2; have := q.1; omega)))
    have G9 := hide ((unhide G8).same (fun k hk => hc9.block k (fun q => by have := hk.1; have := q.2; omega)))
    have hen := endE_bd 1 xs
    generalize endE 1 xs = K9 at *
    have hK9 : ¬ K9 < 0 := by omega
    clear hc9 S8 X8 G8 hen
    go_wp2_with fail
    refine (eqOpS_same _ _ L _ ((unhide G9).at (fun k hk => by have := hk.2; omega) (unhide NL).num) ((unhide S9).at (fun k hk => by have := hk.2; omega) (unhide NL).num)).mono ?_
    rintro e w10 ⟨rfl, hb10⟩
    have hz10 := hb10.size
    have hB10 : Below w.heap.size w w10 := hB9.trans (hb10.mono (by omega))
    have S10 := hide ((unhide S9).keep hb10 (fun k hk => by have := hk.2; omega))
    have G10 := hide ((unhide G9).keep hb10 (fun k hk => by have := hk.2; omega))
    clear hb10 S9 G9
    go_wp2_with fail
    refine (markOpS_f _ L 1 (Rng w4.heap.size w5.heap.size) _ (unhide G10) (by omega) (by omega) hbk (unhide SL)).mono ?_
    rintro e w11 ⟨rfl, hg11, hc11⟩
    have hz11 := hc11.size
    have hB11 : Below w.heap.size w w11 := hB10.trans ((hc11.below (lo := w4.heap.size) (fun k hk => hk.1)).mono (by omega))
    have S11 := hide ((unhide S10).same (fun k hk => hc11.block k (fun q => by have := hk.2; have := q.1; omega)))
    have G11 := hide hg11
    have hen := endE_bd 1 L
    clear hc11 hg11 S10 G10
    generalize hE : endE 1 L = K12 at *
    have HE := hide hE
    have hK12 : ¬ K12 < 0 := by omega
    clear hen hE
    go_wp2_with fail
    refine (heldOpS_f _ L 1 _ _ (unhide G11) (by omega) (by omega) hbk (unhide SL)).mono ?_
    rintro e w12 ⟨he, rfl⟩
    rw [unhide HE] at he
    subst he
    go_wp2_with fail
    refine (toOpS_w _ xs _ ((unhide Hv).below hB11 (Nat.le_refl _)) hxl (unhide Hset)).mono ?_
    rintro e w13 ⟨z0, rfl, hz0, hb13⟩
    obtain ⟨a13, c13, rfl⟩ : ∃ a c, z0 = .slice a xs.length c := by obtain ⟨a, c, e, -⟩ := hz0; exact ⟨a, c, e⟩
    have hz13 := hb13.size
    have hB13 : Below w.heap.size w w13 := hB11.trans (hb13.mono (by omega))
    have S13 := hide ((unhide S11).keep hb13 (fun k hk => by have := hk.2; omega))
    have Z13 := hide (hz0.foot.at (N := w13.heap.size) (fun k hk => hk.2) (unhide HN))
    clear hz0 hb13 S11
    go_wp2_with fail
    refine (implX_any _ xs _ (unhide Z13)).mono ?_
    rintro e w14 ⟨h0, L2, rfl, hans2, hh0, hb14⟩
    obtain rfl := (unhide Hans).one hans2
    obtain ⟨a14, c14, rfl⟩ : ∃ a c, h0 = .slice a L.length c := by obtain ⟨a, c, e, -⟩ := hh0; exact ⟨a, c, e⟩
    have hz14 := hb14.size
    have hB14 : Below w.heap.size w w14 := hB13.trans (hb14.mono (by omega))
    have S14 := hide ((unhide S13).keep hb14 (fun k hk => by have := hk.2; omega))
    have H14 := hide hh0
    clear hh0 hb14 hans2 S13 Z13
    go_wp2_with fail
    refine (eqOpS_same _ _ L _ ((unhide H14).at (fun k hk => hk.2) (unhide NL).num) ((unhide S14).at (fun k hk => by have := hk.2; omega) (unhide NL).num)).mono ?_
    rintro e w15 ⟨rfl, hb15⟩
    have hB15 : Below w.heap.size w w15 := hB14.trans (hb15.mono (by omega))
    clear hb15
    go_wp2
    go_ret
    exact ⟨rfl, hB15⟩

end Go.Proofs.Ytgedhbnmejlmeaa
