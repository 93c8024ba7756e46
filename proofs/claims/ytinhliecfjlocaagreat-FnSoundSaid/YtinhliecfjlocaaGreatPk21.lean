import Derived.Test.YtinhliecfjlocaaGreatPk12
import Derived.Test.YtinhliecfjlocaaGreatPk20
import Derived.Test.YtinhliecfjlocaaGreatY5
import Derived.Test.YtinhliecfjlocaaGreatPk14
import Derived.Test.YtinhliecfjlocaaGreatZ1
import Derived.Test.YtinhliecfjlocaaGreatPk15
import Derived.Test.YtinhliecfjlocaaGreatPk16
import Derived.Test.YtinhliecfjlocaaGreatPk18
namespace Go.Proofs.YtinhliecfjlocaaGreat
open Go.RowKit
def jl : List (List El) → Nat
  | [] => 0
  | p :: r => p.length + 1 + jl r
theorem jl_app (a b : List (List El)) : jl (a ++ b) = jl a + jl b := by
  induction a with
  | nil => simp [jl]
  | cons p r ih => simp only [List.cons_append, jl, ih]; omega
theorem jl_rep (p : List El) (n : Nat) : jl (List.replicate n p) = n * (p.length + 1) := by
  induction n with
  | zero => simp [jl]
  | succ n ih => simp only [List.replicate_succ, jl, ih, Nat.succ_mul]; omega
theorem jn_jl (ps : List (List El)) (h : ps ≠ []) : (jn ps).length + 1 = jl ps := by
  match ps with
  | p :: r =>
    have key : ∀ (r : List (List El)) (acc : List El), (r.foldl (fun acc q => acc ++ q ++ [catE]) acc).length = acc.length + jl r := by
      intro r
      induction r with
      | nil => intro acc; simp [jl]
      | cons q r ih => intro acc; simp only [List.foldl_cons, ih, jl, List.length_append, List.length_singleton]; omega
    simp only [jn, key, jl]
    omega
theorem partsX_ne (X : List El) (mn mx : Int) (h : mx = -1 ∨ (0 < mx ∧ mn ≤ mx ∧ 0 ≤ mn)) : partsX X mn mx ≠ [] := by
  unfold partsX
  rcases h with h | ⟨h1, h2, h3⟩
  · rw [if_pos h]; simp
  · rw [if_neg (by omega)]
    intro e
    have := congrArg List.length e
    simp at this
    omega
theorem partsV_ne (U : Value) (mn mx : Int) (h : mx = -1 ∨ (0 < mx ∧ mn ≤ mx ∧ 0 ≤ mn)) : partsV U mn mx ≠ [] := by
  unfold partsV
  rcases h with h | ⟨h1, h2, h3⟩
  · rw [if_pos h]; simp
  · rw [if_neg (by omega)]
    intro e
    have := congrArg List.length e
    simp at this
    omega
theorem parts_len (X : List El) (c mn mx : Int) (hX : (X.length : Int) ≤ 2 * c - 1) (o2 : 0 ≤ mn) (h : mx = -1 ∨ (0 < mx ∧ mn ≤ mx)) : ((jn (partsX X mn mx)).length : Int) ≤ 2 * repSize c mn mx - 1 := by
  have hne := partsX_ne X mn mx (h.imp id (fun q => ⟨q.1, q.2, o2⟩))
  have h1 := jn_jl _ hne
  rcases h with h | ⟨h3, h4⟩
  · subst h
    have e : jl (partsX X mn (-1)) = (mn - 1).toNat * (X.length + 1) + (X.length + 2) := by
      unfold partsX
      rw [if_pos rfl, jl_app, jl_rep]
      simp [jl]
    have hm : (((mn - 1).toNat * (X.length + 1) : Nat) : Int) ≤ ((mn - 1).toNat : Int) * (2 * c) := by
      rw [Int.natCast_mul]
      exact Int.mul_le_mul_of_nonneg_left (by omega) (by omega)
    by_cases hmn : mn < 1
    · rw [show (mn - 1).toNat = 0 by omega] at e hm
      rw [repSize_a hmn]
      omega
    · rw [repSize_b hmn]
      have e2 : ((mn - 1).toNat : Int) * (2 * c) = 2 * (mn * c) - 2 * c := by
        rw [show ((mn - 1).toNat : Int) = mn - 1 by omega, Int.sub_mul, Int.one_mul, ← Int.mul_assoc, Int.mul_comm mn 2, Int.mul_assoc]
      omega
  · have e : jl (partsX X mn mx) = mn.toNat * (X.length + 1) + (mx - mn).toNat * (X.length + 3) := by
      unfold partsX
      rw [if_neg (by omega), jl_app, jl_rep, jl_rep]
      simp [optE]
    have hm : ((mn.toNat * (X.length + 1) : Nat) : Int) ≤ mn * (2 * c) := by
      rw [Int.natCast_mul, show (mn.toNat : Int) = mn by omega]
      exact Int.mul_le_mul_of_nonneg_left (by omega) (by omega)
    have hm2 : (((mx - mn).toNat * (X.length + 3) : Nat) : Int) ≤ (mx - mn) * (2 * (c + 1)) := by
      rw [Int.natCast_mul, show ((mx - mn).toNat : Int) = mx - mn by omega]
      exact Int.mul_le_mul_of_nonneg_left (by omega) (by omega)
    rw [repSize_d (by omega) (by omega)]
    have e2 : mn * (2 * c) = 2 * (mn * c) := by rw [← Int.mul_assoc, Int.mul_comm mn 2, Int.mul_assoc]
    have e3 : (mx - mn) * (2 * (c + 1)) = 2 * ((mx - mn) * (c + 1)) := by rw [← Int.mul_assoc, Int.mul_comm (mx - mn) 2, Int.mul_assoc]
    omega
theorem rep_ge (c mn mx : Int) (hc : 0 ≤ c) (o2 : 0 ≤ mn) (h : mx = -1 ∨ (mn ≤ mx ∧ mx ≤ 250)) : c ≤ repSize c mn mx := by
  rcases h with h | ⟨h1, -⟩
  · subst h
    by_cases hmn : mn < 1
    · rw [repSize_a hmn]; omega
    · rw [repSize_b hmn]
      have : 1 * c ≤ mn * c := Int.mul_le_mul_of_nonneg_right (by omega) hc
      omega
  · by_cases h0 : mx = 0
    · subst h0; rw [repSize_c]; exact Int.le_refl _
    · rw [repSize_d (by omega) h0]
      have p1 : 0 ≤ mn * c := Int.mul_nonneg o2 hc
      have p2 : 0 ≤ (mx - mn) * (c + 1) := Int.mul_nonneg (by omega) (by omega)
      by_cases h2 : 0 < mn
      · have : 1 * c ≤ mn * c := Int.mul_le_mul_of_nonneg_right (by omega) hc
        omega
      · have : 1 * (c + 1) ≤ (mx - mn) * (c + 1) := Int.mul_le_mul_of_nonneg_right (by omega) (by omega)
        omega
def xPush (st : List (List El)) (x : El) : List (List El) :=
  if x.kind = 0 ∨ x.kind = 1 then [x] :: st else
  match st with
  | [] => []
  | [o] => if x.kind = 4 then [repX o x.mn x.mx] else [o]
  | r :: l :: b => if x.kind = 4 then repX r x.mn x.mx :: l :: b else (l ++ r ++ [x]) :: b
def xRun (st : List (List El)) : List El → List (List El)
  | [] => st
  | x :: r => xRun (xPush st x) r
theorem xRun_append (st : List (List El)) (a b : List El) : xRun st (a ++ b) = xRun (xRun st a) b := by
  induction a generalizing st with
  | nil => rfl
  | cons x r ih => simp [xRun, ih]
def SegX (seg L : List El) : Prop := ∀ st, xRun st seg = L :: st
theorem SegX.leaf {x : El} (h : x.kind = 0 ∨ x.kind = 1) : SegX [x] [x] := fun st => by simp only [xRun, xPush]; rw [if_pos h]
theorem SegX.bin {a b A B : List El} {x : El} (ha : SegX a A) (hb : SegX b B) (h : x.kind = 2 ∨ x.kind = 3) : SegX (a ++ b ++ [x]) (A ++ B ++ [x]) := fun st => by
  rw [xRun_append, xRun_append, ha, hb]
  simp only [xRun, xPush]
  rw [if_neg (by omega), if_neg (by omega)]
theorem SegX.rep {a A : List El} {x : El} (ha : SegX a A) (h : x.kind = 4) : SegX (a ++ [x]) (repX A x.mn x.mx) := fun st => by
  rw [xRun_append, ha]
  cases st with
  | nil => simp only [xRun, xPush]; rw [if_neg (by omega), if_pos h]
  | cons q st => simp only [xRun, xPush]; rw [if_neg (by omega), if_pos h]
theorem SegX.one {a A B : List El} (h : SegX a A) (k : SegX a B) : A = B := by
  have := (h []).symm.trans (k [])
  simpa using this
theorem cap_small {n : Int} (h : cap n ≤ 500) : cap n = n ∧ n ≤ 500 := by
  unfold cap at h ⊢
  by_cases e : 500 < n
  · rw [if_pos e] at h; omega
  · rw [if_neg e]; exact ⟨rfl, by omega⟩
theorem canon_len {xs : List Int} (h : Canon xs) : xs.length ≤ 300 := by
  by_cases q : xs.length ≤ 258
  · omega
  · have h1 := canon_ge h 129 (by omega)
    have h2 := (h.2.1 (2 * 129) (by omega)).2
    omega
theorem jV_iface {vs : List Value} (h : vs ≠ []) (hi : ∀ u ∈ vs, ∃ T x, u = .iface T x) : ∃ T x, jV vs = .iface T x := by
  match vs with
  | p :: r => exact foldV r p (hi p (by simp))
  | [] => exact absurd rfl h
theorem parts_iface {U : Value} (h : ∃ T x, U = .iface T x) (mn mx : Int) : ∀ u ∈ partsV U mn mx, ∃ T x, u = .iface T x := by
  intro u hu
  unfold partsV at hu
  by_cases e : mx = -1
  · rw [if_pos e] at hu
    rcases List.mem_append.1 hu with hu | hu
    · rw [(List.mem_replicate.1 hu).2]; exact h
    · rw [List.mem_singleton.1 hu]; exact ⟨_, _, rfl⟩
  · rw [if_neg e] at hu
    rcases List.mem_append.1 hu with hu | hu
    · rw [(List.mem_replicate.1 hu).2]; exact h
    · rw [(List.mem_replicate.1 hu).2]; exact ⟨_, _, rfl⟩
def wof (p : Nat → Bool) : Nat → Nat → Nat
  | 0 => fun _ => 0
  | n + 1 => if p n then (fun j => if j = n / 64 then wof p n (n / 64) ||| 2 ^ (n % 64) else wof p n j) else wof p n
theorem wof_fit (p : Nat → Bool) : ∀ n : Nat, Fit (wof p n)
  | 0 => fun j => by show 0 < 18446744073709551616; omega
  | n + 1 => fun j => by
    simp only [wof]
    split
    · by_cases e : j = n / 64
      · simp only [e, if_true]; exact or_lt _ _ (wof_fit p n _) (by omega)
      · simp only [e, if_false]; exact wof_fit p n j
    · exact wof_fit p n j
theorem wof_bt (p : Nat → Bool) (b : Nat) : ∀ n : Nat, Bt (wof p n) b = (decide (b < n) && p b)
  | 0 => by simp [wof, Bt]
  | n + 1 => by
    have ih := wof_bt p b n
    by_cases hp : p n = true
    · have e : wof p (n + 1) = (fun j => if j = n / 64 then wof p n (n / 64) ||| 2 ^ (n % 64) else wof p n j) := by simp [wof, hp]
      rw [e, bt_put, ih]
      by_cases e2 : b = n
      · subst e2; simp [hp]
      · have : b < n + 1 ↔ b < n := by omega
        simp [e2, this]
    · have e : wof p (n + 1) = wof p n := by simp [wof, hp]
      rw [e, ih]
      by_cases e2 : b = n
      · subst e2; simp [hp]
      · have : b < n + 1 ↔ b < n := by omega
        simp [this]
theorem words_ex {xs : List Int} (h : Canon xs) : ∃ g, WordsOf xs g := by
  refine ⟨wof (InP xs (xs.length / 2)) 256, wof_fit _ _, fun b => ?_⟩
  rw [wof_bt]
  by_cases hb : b < 256
  · simp [hb]
  · have : InP xs (xs.length / 2) b = false := by
      rw [Bool.eq_false_iff]
      intro q
      obtain ⟨j, h1, h2, h3⟩ := (inP_iff _ _ _).1 q
      have := (h.2.1 (2 * j + 1) (by omega)).2
      omega
    rw [this]; simp
theorem PushR.gg {G : Value → List El × Int → Prop} (hG : Clos G) {st st' : List (List El × Int)} {x : El} (h : PushR st x st') (ok : ElOk x) (hs : ∀ s ∈ st, ∃ u, G u s) : ∀ s ∈ st', ∃ u, G u s := by
  intro s hm
  obtain ⟨k, xs, mn, mx⟩ := x
  rcases h with ⟨hk, rfl⟩ | ⟨hk, b, l, r, rfl, rfl⟩ | ⟨hk, b, o, rfl, rfl⟩
  · simp only [List.mem_append, List.mem_singleton] at hm; rcases hm with hm | rfl
    · exact hs s hm
    · rcases ok with ⟨q1, q2, q3, q4⟩ | ⟨q1, q2, q3, q4⟩ | ⟨q1, q2, q3, q4, q5⟩ <;> simp only at hk q1 q2 q3 q4
      · subst q1 q3 q4
        obtain ⟨g, hg⟩ := words_ex q2
        exact ⟨_, hG.s q2 hg⟩
      · subst q3 q4
        obtain rfl := List.eq_nil_of_length_eq_zero q2
        obtain rfl : k = 0 := by omega
        exact ⟨_, hG.e⟩
      · omega
  · simp only [List.mem_append, List.mem_singleton] at hm; rcases hm with hm | rfl
    · exact hs s (by simp [hm])
    · obtain ⟨u, hu⟩ := hs l (by simp)
      obtain ⟨v, hv⟩ := hs r (by simp)
      rcases ok with ⟨q1, q2, q3, q4⟩ | ⟨q1, q2, q3, q4⟩ | ⟨q1, q2, q3, q4, q5⟩ <;> simp only at hk q1 q2 q3 q4
      · omega
      · subst q3 q4
        obtain rfl := List.eq_nil_of_length_eq_zero q2
        rcases hk with rfl | rfl
        · exact ⟨_, hG.cat hu hv⟩
        · exact ⟨_, hG.alt hu hv⟩
      · omega
  · simp only [List.mem_append, List.mem_singleton] at hm; rcases hm with hm | rfl
    · exact hs s (by simp [hm])
    · obtain ⟨u, hu⟩ := hs o (by simp)
      rcases ok with ⟨q1, q2, q3, q4⟩ | ⟨q1, q2, q3, q4⟩ | ⟨q1, q2, q3, q4, q5⟩ <;> simp only at hk q1 q2 q3 q4
      · omega
      · omega
      · subst hk
        obtain rfl := List.eq_nil_of_length_eq_zero q2
        exact ⟨_, hG.rep hu q3 q4 q5⟩
theorem valid_g {G : Value → List El × Int → Prop} (hG : Clos G) {xs : List El} (h : ValidT xs) : ∃ u c, G u (xs, c) := by
  obtain ⟨h1, ok, sh, c, hc1, hc2⟩ := h
  have key : ∀ k : Nat, k ≤ xs.length → ∃ st, flats st = xs.take k ∧ (∀ s ∈ st, SegM s.1 s.2) ∧ ∀ s ∈ st, ∃ u, G u s := by
    intro k
    induction k with
    | zero => intro _; exact ⟨[], by simp [flats], by simp, by simp⟩
    | succ k ih =>
      intro hk
      obtain ⟨st, hst, hok, hgx⟩ := ih (by omega)
      have hx := ok k (by omega)
      have h1 : wsum (xs.take (k + 1)) + wsum (xs.drop (k + 1)) = 1 := by rw [← wsum_append, List.take_append_drop]; exact sh.1
      have h2 := sh.2 (k + 1) (by omega) hk
      have h3 := wsum_flats (fun s hs => (hok s hs).ws)
      rw [hst] at h3
      rw [take_next (by omega), wsum_append, h3] at h1
      simp only [wsum] at h1
      obtain ⟨st', hp⟩ := PushR.ex (st := st) hx (by omega)
      exact ⟨st', by rw [hp.flats, hst, take_next (by omega)], hp.seg hx hok, hp.gg hG hx hgx⟩
  obtain ⟨st, hst, hok, hgx⟩ := key xs.length (Nat.le_refl _)
  rw [List.take_length] at hst
  have h3 := wsum_flats (fun s hs => (hok s hs).ws)
  rw [hst, sh.1] at h3
  obtain ⟨t, rfl⟩ := List.length_eq_one_iff.1 (show st.length = 1 by omega)
  obtain ⟨u, hu⟩ := hgx t (by simp)
  rw [flats_one] at hst
  obtain ⟨t1, t2⟩ := t
  simp only at hst
  subst hst
  exact ⟨u, t2, hu⟩
theorem ta_cc (x : Value) (w : World) : Sem.run Tryz.prog (Instr.typeAssert (.iface 132 x) 82 132 true) w = .ok (.tuple #[x, .bool true]) w := by kernel_rfl
theorem ta_ac (x : Value) (w : World) : Sem.run Tryz.prog (Instr.typeAssert (.iface 134 x) 82 132 true) w = .ok (.tuple #[.agg #[.nilIface, .nilIface], .bool false]) w := by kernel_rfl
theorem ta_aa (x : Value) (w : World) : Sem.run Tryz.prog (Instr.typeAssert (.iface 134 x) 82 134 true) w = .ok (.tuple #[x, .bool true]) w := by kernel_rfl
theorem ta_rc (x : Value) (w : World) : Sem.run Tryz.prog (Instr.typeAssert (.iface 136 x) 82 132 true) w = .ok (.tuple #[.agg #[.nilIface, .nilIface], .bool false]) w := by kernel_rfl
theorem ta_ra (x : Value) (w : World) : Sem.run Tryz.prog (Instr.typeAssert (.iface 136 x) 82 134 true) w = .ok (.tuple #[.agg #[.nilIface, .nilIface], .bool false]) w := by kernel_rfl
theorem ta_rr (x : Value) (w : World) : Sem.run Tryz.prog (Instr.typeAssert (.iface 136 x) 82 136 true) w = .ok (.tuple #[x, .bool true]) w := by kernel_rfl
theorem ta_ec (w : World) : Sem.run Tryz.prog (Instr.typeAssert (.iface 124 (.agg #[])) 82 132 true) w = .ok (.tuple #[.agg #[.nilIface, .nilIface], .bool false]) w := by kernel_rfl
theorem ta_ea (w : World) : Sem.run Tryz.prog (Instr.typeAssert (.iface 124 (.agg #[])) 82 134 true) w = .ok (.tuple #[.agg #[.nilIface, .nilIface], .bool false]) w := by kernel_rfl
theorem ta_er (w : World) : Sem.run Tryz.prog (Instr.typeAssert (.iface 124 (.agg #[])) 82 136 true) w = .ok (.tuple #[.agg #[.nilIface, .int .i64 0, .int .i64 0], .bool false]) w := by kernel_rfl
theorem ta_sc (x : Value) (w : World) : Sem.run Tryz.prog (Instr.typeAssert (.iface 128 x) 82 132 true) w = .ok (.tuple #[.agg #[.nilIface, .nilIface], .bool false]) w := by kernel_rfl
theorem ta_sa (x : Value) (w : World) : Sem.run Tryz.prog (Instr.typeAssert (.iface 128 x) 82 134 true) w = .ok (.tuple #[.agg #[.nilIface, .nilIface], .bool false]) w := by kernel_rfl
theorem ta_sr (x : Value) (w : World) : Sem.run Tryz.prog (Instr.typeAssert (.iface 128 x) 82 136 true) w = .ok (.tuple #[.agg #[.nilIface, .int .i64 0, .int .i64 0], .bool false]) w := by kernel_rfl
set_option maxHeartbeats 1000000 in
theorem ExpV.e : ExpV eV eV := by
  refine ⟨⟨_, _, rfl⟩, fun w => ?_⟩
  unfold eV
  have t1 := ta_ec
  have t2 := ta_ea
  have t3 := ta_er
  go_enter Tryz.func44, Tryz.ntmps44
  go_wp2
  go_ret
  exact ⟨rfl, Below.refl _ _⟩
set_option maxHeartbeats 1000000 in
theorem ExpV.s (g : Nat → Nat) : ExpV (sV g) (sV g) := by
  refine ⟨⟨_, _, rfl⟩, fun w => ?_⟩
  unfold sV ws4
  have t1 := ta_sc
  have t2 := ta_sa
  have t3 := ta_sr
  go_enter Tryz.func44, Tryz.ntmps44
  go_wp2
  go_ret
  exact ⟨rfl, Below.refl _ _⟩
set_option maxHeartbeats 1000000 in
set_option maxRecDepth 100000 in
theorem ExpV.cat {u v U V : Value} (iu : ∃ T x, u = .iface T x) (iv : ∃ T x, v = .iface T x) (hu : ExpV u U) (hv : ExpV v V) : ExpV (cV u v) (cV U V) := by
  refine ⟨⟨_, _, rfl⟩, fun w => ?_⟩
  obtain ⟨T, x, rfl⟩ := iu
  obtain ⟨T', x', rfl⟩ := iv
  obtain ⟨⟨T1, x1, rfl⟩, hu⟩ := hu
  obtain ⟨⟨T2, x2, rfl⟩, hv⟩ := hv
  have HF := hide hu
  have HG := hide hv
  clear hu hv
  unfold cV
  have t1 := ta_cc
  go_enter Tryz.func44, Tryz.ntmps44
  go_wp2_with fail
  go_region_with ((first | ((with_reducible refine (unhide HF _).mono ?_); rintro e w1 ⟨rfl, hb1⟩; have hb1' : Below (w.heap.size + 1) (w.alloc (.cells #[.iface T x, .iface T' x'] 132)) w1 := ⟨hb1.os, hb1.tape, hb1.output, hb1.size, fun k hk => hb1.block k (by simpa using hk)⟩; have hc1 := (bcell hb1').1; clear hb1) | ((with_reducible refine (unhide HG _).mono ?_); rintro e w2 ⟨rfl, hb2⟩)))
  all_goals
    have hB1 : Below w.heap.size w w1 := (below1 w _).trans (hb1'.mono (by omega))
    have hB2 : Below w.heap.size w w2 := hB1.trans ⟨hb2.os, hb2.tape, hb2.output, hb2.size, fun k hk => hb2.block k (Nat.lt_of_lt_of_le hk hB1.size)⟩
    clear hc1 hb1' hb2
    go_wp2
    go_ret
    exact ⟨rfl, hB2⟩
set_option maxHeartbeats 1000000 in
set_option maxRecDepth 100000 in
theorem ExpV.alt {u v U V : Value} (iu : ∃ T x, u = .iface T x) (iv : ∃ T x, v = .iface T x) (hu : ExpV u U) (hv : ExpV v V) : ExpV (aV u v) (aV U V) := by
  refine ⟨⟨_, _, rfl⟩, fun w => ?_⟩
  obtain ⟨T, x, rfl⟩ := iu
  obtain ⟨T', x', rfl⟩ := iv
  obtain ⟨⟨T1, x1, rfl⟩, hu⟩ := hu
  obtain ⟨⟨T2, x2, rfl⟩, hv⟩ := hv
  have HF := hide hu
  have HG := hide hv
  clear hu hv
  unfold aV
  have t1 := ta_ac
  have t2 := ta_aa
  go_enter Tryz.func44, Tryz.ntmps44
  go_wp2_with fail
  go_region_with ((first | ((with_reducible refine (unhide HF _).mono ?_); rintro e w1 ⟨rfl, hb1⟩; have hb1' : Below (w.heap.size + 1) (w.alloc (.cells #[.iface T x, .iface T' x'] 134)) w1 := ⟨hb1.os, hb1.tape, hb1.output, hb1.size, fun k hk => hb1.block k (by simpa using hk)⟩; have hc1 := (bcell hb1').1; clear hb1) | ((with_reducible refine (unhide HG _).mono ?_); rintro e w2 ⟨rfl, hb2⟩)))
  all_goals
    have hB1 : Below w.heap.size w w1 := (below1 w _).trans (hb1'.mono (by omega))
    have hB2 : Below w.heap.size w w2 := hB1.trans ⟨hb2.os, hb2.tape, hb2.output, hb2.size, fun k hk => hb2.block k (Nat.lt_of_lt_of_le hk hB1.size)⟩
    clear hc1 hb1' hb2
    go_wp2
    go_ret
    exact ⟨rfl, hB2⟩
theorem ExpV.rep0 {u W : Value} {mn mx : Int} (iu : ∃ T x, u = .iface T x) (iw : ∃ T x, W = .iface T x) (h : ∀ w, Calls Tryz.prog 83 #[.agg #[u, .int .i64 mn, .int .i64 mx]] w fun e w' => e = .returned W ∧ Below w.heap.size w w') : ExpV (rV u mn mx) W := by
  refine ⟨iw, fun w => ?_⟩
  obtain ⟨T, x, rfl⟩ := iu
  have HF := hide h
  clear h
  unfold rV
  have t1 := ta_rc
  have t2 := ta_ra
  have t3 := ta_rr
  go_enter Tryz.func44, Tryz.ntmps44
  go_wp2_with fail
  refine (unhide HF _).mono ?_
  rintro e w1 ⟨rfl, hb1⟩
  have hB1 : Below w.heap.size w w1 := (below1 w _).trans (hb1.mono (by rw [sz_alloc]; omega))
  clear hb1
  go_wp2
  go_ret
  exact ⟨rfl, hB1⟩
def Simple (L : List El) : Prop := ∀ x ∈ L, x.kind = 4 → x.mx = -1 ∧ 0 ≤ x.mn ∧ x.mn ≤ 1
theorem Simple.left {a b : List El} (h : Simple (a ++ b)) : Simple a := fun x hx => h x (List.mem_append.2 (Or.inl hx))
theorem Simple.right {a b : List El} (h : Simple (a ++ b)) : Simple b := fun x hx => h x (List.mem_append.2 (Or.inr hx))
theorem Simple.app {a b : List El} (h : Simple a) (k : Simple b) : Simple (a ++ b) := fun x hx => (List.mem_append.1 hx).elim (h x) (k x)
theorem Simple.op {k : Int} {xs : List Int} (hk : k ≠ 4) (mn mx : Int) : Simple [⟨k, xs, mn, mx⟩] := fun x hx e => by
  rw [List.mem_singleton] at hx
  subst hx
  exact absurd e hk
theorem Simple.rep (mn : Int) (h0 : 0 ≤ mn) (h1 : mn ≤ 1) : Simple [⟨4, [], mn, -1⟩] := fun x hx _ => by
  rw [List.mem_singleton] at hx
  subst hx
  exact ⟨rfl, h0, h1⟩
theorem simple_jn : ∀ {r : List (List El)} {p : List El}, Simple p → (∀ q ∈ r, Simple q) → Simple (r.foldl (fun acc q => acc ++ q ++ [catE]) p)
  | [], _, h, _ => h
  | q :: r, _, h, k => simple_jn (r := r) ((h.app (k q (List.mem_cons_self ..))).app (Simple.op (by decide) 0 0)) (fun x hx => k x (List.mem_cons_of_mem _ hx))
theorem Simple.jn {ps : List (List El)} (h : ∀ q ∈ ps, Simple q) : Simple (jn ps) := by
  cases ps with
  | nil => intro x hx; cases hx
  | cons p r => exact simple_jn (h p (List.mem_cons_self ..)) (fun q hq => h q (List.mem_cons_of_mem _ hq))
theorem Simple.repx {a : List El} (h : Simple a) (mn mx : Int) (o2 : 0 ≤ mn) : Simple (repX a mn mx) := by
  unfold repX
  split
  · exact Simple.op (by decide) 0 0
  · refine Simple.jn (fun q hq => ?_)
    unfold partsX at hq
    split at hq
    · rcases List.mem_append.1 hq with hq | hq
      · rw [(List.mem_replicate.1 hq).2]; exact h
      · rw [List.mem_singleton] at hq
        subst hq
        exact h.app (Simple.rep _ (by split <;> omega) (by split <;> omega))
    · rcases List.mem_append.1 hq with hq | hq
      · rw [(List.mem_replicate.1 hq).2]; exact h
      · rw [(List.mem_replicate.1 hq).2]
        exact (h.app (Simple.op (by decide) 0 0)).app (Simple.op (by decide) 0 0)
section
variable {n : Nat} {hs : List Int → Nat → Prop}
def ExL (n : Nat) (hs : List Int → Nat → Prop) (u : Value) (t : List El × Int) : Prop := SzV u t.2 ∧ ∃ R L, SegL n hs t.1 R ∧ SegX t.1 L ∧ SegL n hs L R ∧ Simple L
theorem closEx : Clos (ExL n hs) := by
  refine ⟨fun h => h.1, ?_, ?_, ?_, ?_, ?_⟩
  · exact ⟨SzV.e, _, _, SegL.e, SegX.leaf (Or.inl rfl), SegL.e, Simple.op (by decide) 0 0⟩
  · intro xs g hc hw
    exact ⟨SzV.s _ _ _ _, _, _, SegL.s xs, SegX.leaf (Or.inr rfl), SegL.s xs, Simple.op (by decide) 0 0⟩
  · rintro u v l r ⟨hu, A, L, a1, a2, a3, a4⟩ ⟨hv, B, R, b1, b2, b3, b4⟩
    exact ⟨SzV.cat hu hv, _, _, a1.cat b1, SegX.bin a2 b2 (Or.inl rfl), a3.cat b3, (a4.app b4).app (Simple.op (by decide) 0 0)⟩
  · rintro u v l r ⟨hu, A, L, a1, a2, a3, a4⟩ ⟨hv, B, R, b1, b2, b3, b4⟩
    exact ⟨SzV.alt hu hv, _, _, a1.alt b1, SegX.bin a2 b2 (Or.inr rfl), a3.alt b3, (a4.app b4).app (Simple.op (by decide) 0 0)⟩
  · rintro u o mn mx ⟨hu, A, L, a1, a2, a3, a4⟩ o2 o3 o4
    exact ⟨SzV.rep hu o2 o3 o4, _, _, a1.rep mn mx, SegX.rep a2 rfl, a3.repx mn mx o2 o4, a4.repx mn mx o2⟩
theorem exL_valid {xs L : List El} (h : ValidT xs) (hx : SegX xs L) : ∃ R, SegL n hs xs R ∧ SegL n hs L R ∧ Simple L := by
  obtain ⟨u, c, -, R, L', h1, h2, h3, h4⟩ := valid_g (closEx (n := n) (hs := hs)) h
  obtain rfl := SegX.one h2 hx
  exact ⟨R, h1, h3, h4⟩
end
def AnsK (xs : List El) (S : List (List Int)) : Prop := (ValidT xs ∧ ∃ L, SegX xs L ∧ SegK L S ∧ Sm S) ∨ (¬ ValidT xs ∧ S = [])
theorem AnsK.one {xs : List El} {A B : List (List Int)} (h : AnsK xs A) (k : AnsK xs B) : A = B := by
  rcases h with ⟨h1, L, h2, h3, -⟩ | ⟨h1, rfl⟩ <;> rcases k with ⟨k1, L', k2, k3, -⟩ | ⟨k1, rfl⟩
  · obtain rfl := h2.one k2
    exact h3.one k3
  · exact absurd h1 k1
  · exact absurd k1 h1
  · rfl
theorem tot_lim : ∀ {S : List (List Int)} {m : Nat}, (∀ x, x ∈ S → x.length ≤ m) → tot S ≤ S.length * m
  | [], _, _ => by simp [tot]
  | x :: r, m, h => by
    have h1 := tot_lim (S := r) (fun y hy => h y (List.mem_cons_of_mem _ hy))
    have h2 := h x (List.mem_cons_self ..)
    simp only [tot, List.length_cons, Nat.succ_mul]
    omega
theorem Sm.tot {S : List (List Int)} (h : Sm S) : tot S ≤ 3000 := by
  have h1 := tot_lim h.2
  have h2 := h.1
  have := Nat.mul_le_mul_right 60 h2
  omega
theorem AnsK.sm {xs : List El} {S : List (List Int)} (h : AnsK xs S) : Sm S := by
  rcases h with ⟨-, L, -, -, h⟩ | ⟨-, rfl⟩
  · exact h
  · exact ⟨by simp, by simp⟩
def KRet (w : World) (xs : List El) (e : Ending) (w' : World) : Prop := ∃ v ps, e = .returned v ∧ AnsK xs (ps.map Cl.xs) ∧ LL mI 0 3 34 w.heap.size w' v ps ∧ Below w.heap.size w w'
def Sy (S : List (List Int)) : Prop := ∀ x ∈ S, ∀ b ∈ x, 0 ≤ b ∧ b ≤ 256
theorem Sy.gap : Sy [[256]] := fun x hx b hb => by
  rw [List.mem_singleton] at hx
  subst hx
  rw [List.mem_singleton] at hb
  omega
theorem bytes_ge (set : List Int) : ∀ n : Nat, ∀ b ∈ bytesOf set n, 0 ≤ b
  | 0, b, h => by cases h
  | n + 1, b, h => by
    by_cases q : inPs set n
    · rw [bytes_in q] at h
      rcases List.mem_append.1 h with h | h
      · exact bytes_ge set n b h
      · rw [List.mem_singleton.1 h]; omega
    · rw [bytes_out q] at h
      exact bytes_ge set n b h
theorem Sy.leaf (xs : List Int) : Sy (leafS xs) := by
  unfold leafS
  split
  · exact Sy.gap
  · intro x hx b hb
    obtain ⟨y, hy, rfl⟩ := List.mem_map.1 hx
    rw [List.mem_singleton] at hb
    subst hb
    have := bytes_lt xs 256 b hy
    have := bytes_ge xs 256 b hy
    omega
theorem jn2_mem {a b : List Int} {z : Int} (h : z ∈ jn2 a b) : z ∈ a ∨ z ∈ b := by
  unfold jn2 at h
  split at h
  · rcases List.mem_append.1 h with h | h
    · exact Or.inl h
    · exact Or.inr (List.mem_of_mem_tail h)
  · exact List.mem_append.1 h
theorem Sy.prd {A B : List (List Int)} (ha : Sy A) (hb : Sy B) : Sy (prd A B) := fun x hx z hz => by
  obtain ⟨a, ha', b, hb', rfl⟩ := mem_prd.1 hx
  rcases jn2_mem hz with h | h
  · exact ha a ha' z h
  · exact hb b hb' z h
theorem Sy.app {A B : List (List Int)} (ha : Sy A) (hb : Sy B) : Sy (A ++ B) := fun x hx => (List.mem_append.1 hx).elim (ha x) (hb x)
theorem Sy.cut {L : List (List Int)} (h : Sy L) : Sy (cutf L) := by
  obtain ⟨D, -, h2, h3 | h3⟩ := cutf_ok L
  · rw [h3.2]; exact Sy.gap
  · rw [h3.2]; exact fun x hx => h x ((h2 x).1 hx)
theorem Sy.rep {o : List (List Int)} (h : Sy o) (mn : Int) : Sy (repK o mn) := by
  unfold repK
  split
  · exact Sy.gap
  · refine (h.app (Sy.prd (fun x hx z hz => ?_) h)).cut
    obtain ⟨a, ha, rfl⟩ := List.mem_map.1 hx
    rcases jn2_mem hz with q | q
    · exact h a ha z q
    · rw [List.mem_singleton] at q; omega
theorem Sy.push {st : List (List (List Int))} {x : El} (h : ∀ S ∈ st, Sy S) : ∀ S ∈ kPush st x, Sy S := by
  intro S hS
  unfold kPush at hS
  split at hS
  · rcases List.mem_cons.1 hS with rfl | hS
    · intro y hy b hb; rw [List.mem_singleton] at hy; subst hy; cases hb
    · exact h S hS
  · split at hS
    · rcases List.mem_cons.1 hS with rfl | hS
      · exact Sy.leaf _
      · exact h S hS
    · split at hS
      · cases hS
      · split at hS
        · rw [List.mem_singleton.1 hS]; exact (h _ (by simp)).rep _
        · exact h S hS
      · split at hS
        · rcases List.mem_cons.1 hS with rfl | hS
          · exact (h _ (by simp)).rep _
          · exact h S (List.mem_cons_of_mem _ hS)
        · split at hS
          · rcases List.mem_cons.1 hS with rfl | hS
            · exact (Sy.prd (h _ (by simp)) (h _ (by simp))).cut
            · exact h S (by simp [hS])
          · rcases List.mem_cons.1 hS with rfl | hS
            · exact (Sy.app (h _ (by simp)) (h _ (by simp))).cut
            · exact h S (by simp [hS])
theorem Sy.run : ∀ (xs : List El) (st : List (List (List Int))), (∀ S ∈ st, Sy S) → ∀ S ∈ kRun st xs, Sy S
  | [], _, h => h
  | x :: r, st, h => Sy.run r (kPush st x) (Sy.push h)
theorem AnsK.sy {xs : List El} {S : List (List Int)} (h : AnsK xs S) : Sy S := by
  rcases h with ⟨-, L, -, h, -⟩ | ⟨-, rfl⟩
  · exact Sy.run L [] (by simp) S (by rw [h []]; simp)
  · intro x hx; cases hx
def gS (S : List (List Int)) : List (List Int) := S.map (fun s => gtr s (s.length - 2))
theorem gS_len (S : List (List Int)) : (gS S).length = S.length := List.length_map _
theorem gS_get (S : List (List Int)) (n : Nat) (hn : n < S.length) : (gS S)[n]?.getD [] = gtr (S[n]?.getD []) ((S[n]?.getD []).length - 2) := by
  unfold gS; rw [List.getElem?_map, List.getElem?_eq_getElem hn]; rfl
theorem sm_gS {S : List (List Int)} (h : Sm S) : tot (gS S) ≤ 3000 := by
  have h1 : Sm (gS S) := ⟨by rw [gS_len]; exact h.1, fun x hx => by
    obtain ⟨s, hs, rfl⟩ := List.mem_map.1 hx
    have := h.2 s hs
    have := gtr_len s (s.length - 2)
    omega⟩
  exact h1.tot
def QAns (xs : List El) (rs : List (List Int)) : Prop := ∃ S, AnsK xs S ∧ NormV (gS S) rs
theorem QAns.one {xs : List El} {rs rs' : List (List Int)} (h : QAns xs rs) (k : QAns xs rs') : rs = rs' := by
  obtain ⟨S, h1, h2⟩ := h
  obtain ⟨S', k1, k2⟩ := k
  obtain rfl := h1.one k1
  exact h2.uniq k2
theorem Each.norm {xss rs : List (List Int)} {ps : List (Cl Int)} (he : Each xss ps) (h : NormV (ps.map Cl.xs) rs) : NormV xss rs := by
  obtain ⟨cs, h1, h2, h3⟩ := h.ex
  refine ⟨cs, h1, fun z => (h2 z).trans ⟨?_, ?_⟩, h3⟩
  · rintro ⟨y, hy, ho⟩
    obtain ⟨x, hx, hxy⟩ := (he.mem y).1 hy
    have : z = y := ho.uniq ⟨hxy.asc, fun _ => Iff.rfl⟩
    subst this
    exact ⟨x, hx, hxy⟩
  · rintro ⟨x, hx, ho⟩
    exact ⟨z, (he.mem z).2 ⟨x, hx, ho⟩, ho.asc, fun _ => Iff.rfl⟩
def BdC (ps : List (Cl Int)) : Prop := ∀ p ∈ ps, p.xs.length ≤ 60 ∧ ∀ z, z ∈ p.xs → 0 ≤ z ∧ z ≤ 16777215
theorem BdC.nil : BdC [] := fun p hp => by cases hp
theorem BdC.app {ps : List (Cl Int)} {p : Cl Int} (h : BdC ps) (h1 : p.xs.length ≤ 60) (h2 : ∀ z, z ∈ p.xs → 0 ≤ z ∧ z ≤ 16777215) : BdC (ps ++ [p]) := fun q hq => by
  rcases List.mem_append.1 hq with hq | hq
  · exact h q hq
  · rw [List.mem_singleton.1 hq]; exact ⟨h1, h2⟩
theorem BdC.lim {ps : List (Cl Int)} (h : BdC ps) (hl : ps.length ≤ 50) : Lim (ps.map Cl.xs) := by
  refine ⟨by rw [List.length_map]; omega, fun k hk => ?_⟩
  rw [List.length_map] at hk
  have e : (ps.map Cl.xs)[k]?.getD [] = (ps[k]).xs := by rw [List.getElem?_map, List.getElem?_eq_getElem hk]; rfl
  rw [e]
  have h1 := h _ (List.getElem_mem hk)
  refine ⟨by have := h1.1; omega, fun j hj => ?_⟩
  rw [List.getElem?_eq_getElem hj]
  exact h1.2 _ (List.getElem_mem hj)
end Go.Proofs.YtinhliecfjlocaaGreat
