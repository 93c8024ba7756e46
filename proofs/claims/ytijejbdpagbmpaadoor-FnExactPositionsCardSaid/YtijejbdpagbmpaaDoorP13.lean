import Derived.Test.YtijejbdpagbmpaaDoorP12
import Derived.Test.YtijejbdpagbmpaaDoorP11
import Derived.Test.YtijejbdpagbmpaaDoorP8
import Derived.Laws.Bits64b
import Derived.Test.YtijejbdpagbmpaaDoorP7
import Derived.Test.YtijejbdpagbmpaaDoorP3
import Derived.RangeFuncBox
namespace Go.Proofs.YtijejbdpagbmpaaDoor
open Go.RowKit

theorem ta_cc (x : Value) (w : World) : Sem.run Tryd.prog (Instr.typeAssert (.iface 91 x) 52 91 true) w = .ok (.tuple #[x, .bool true]) w := by kernel_rfl
theorem ta_ac (x : Value) (w : World) : Sem.run Tryd.prog (Instr.typeAssert (.iface 105 x) 52 91 true) w = .ok (.tuple #[.agg #[.nilIface, .nilIface], .bool false]) w := by kernel_rfl
theorem ta_aa (x : Value) (w : World) : Sem.run Tryd.prog (Instr.typeAssert (.iface 105 x) 52 105 true) w = .ok (.tuple #[x, .bool true]) w := by kernel_rfl
theorem ta_rc (x : Value) (w : World) : Sem.run Tryd.prog (Instr.typeAssert (.iface 89 x) 52 91 true) w = .ok (.tuple #[.agg #[.nilIface, .nilIface], .bool false]) w := by kernel_rfl
theorem ta_ra (x : Value) (w : World) : Sem.run Tryd.prog (Instr.typeAssert (.iface 89 x) 52 105 true) w = .ok (.tuple #[.agg #[.nilIface, .nilIface], .bool false]) w := by kernel_rfl
theorem ta_rr (x : Value) (w : World) : Sem.run Tryd.prog (Instr.typeAssert (.iface 89 x) 52 89 true) w = .ok (.tuple #[x, .bool true]) w := by kernel_rfl
theorem ta_ec (w : World) : Sem.run Tryd.prog (Instr.typeAssert (.iface 115 (.agg #[])) 52 91 true) w = .ok (.tuple #[.agg #[.nilIface, .nilIface], .bool false]) w := by kernel_rfl
theorem ta_ea (w : World) : Sem.run Tryd.prog (Instr.typeAssert (.iface 115 (.agg #[])) 52 105 true) w = .ok (.tuple #[.agg #[.nilIface, .nilIface], .bool false]) w := by kernel_rfl
theorem ta_er (w : World) : Sem.run Tryd.prog (Instr.typeAssert (.iface 115 (.agg #[])) 52 89 true) w = .ok (.tuple #[.agg #[.nilIface, .int .i64 0, .int .i64 0], .bool false]) w := by kernel_rfl
theorem ta_sc (x : Value) (w : World) : Sem.run Tryd.prog (Instr.typeAssert (.iface 87 x) 52 91 true) w = .ok (.tuple #[.agg #[.nilIface, .nilIface], .bool false]) w := by kernel_rfl
theorem ta_sa (x : Value) (w : World) : Sem.run Tryd.prog (Instr.typeAssert (.iface 87 x) 52 105 true) w = .ok (.tuple #[.agg #[.nilIface, .nilIface], .bool false]) w := by kernel_rfl
theorem ta_sr (x : Value) (w : World) : Sem.run Tryd.prog (Instr.typeAssert (.iface 87 x) 52 89 true) w = .ok (.tuple #[.agg #[.nilIface, .int .i64 0, .int .i64 0], .bool false]) w := by kernel_rfl

end Go.Proofs.YtijejbdpagbmpaaDoor

namespace Go.Proofs.YtijejbdpagbmpaaDoor
open Go.RowKit

set_option maxHeartbeats 1000000 in
theorem ExpV.e : ExpV eV eV := by
  refine ⟨⟨_, _, rfl⟩, fun w => ?_⟩
  unfold eV
  have t1 := ta_ec
  have t2 := ta_ea
  have t3 := ta_er
  go_enter Tryd.func43, Tryd.ntmps43
  go_wp2
  go_ret
  exact ⟨rfl, Below.refl _ _⟩

set_option maxHeartbeats 1000000 in
theorem ExpV.s (g : Nat → Nat) : ExpV (sV g) (sV g) := by
  refine ⟨⟨_, _, rfl⟩, fun w => ?_⟩
  unfold sV ws4
  have t1 := ta_sc
  have t2 := ta_sa
  have t3 := ta_sr
  go_enter Tryd.func43, Tryd.ntmps43
  go_wp2
  go_ret
  exact ⟨rfl, Below.refl _ _⟩

set_option maxHeartbeats 1000000 in
set_option maxRecDepth 100000 in
theorem ExpV.cat {u v U V : Value} (iu : ∃ T x, u = .iface T x) (iv : ∃ T x, v = .iface T x) (hu : ExpV u U) (hv : ExpV v V) : ExpV (cV u v) (cV U V) := by
  refine ⟨⟨_, _, rfl⟩, fun w => ?_⟩
  obtain ⟨T, x, rfl⟩ := iu
  obtain ⟨T', x', rfl⟩ := iv
  obtain ⟨⟨T1, x1, rfl⟩, hu⟩ := hu
  obtain ⟨⟨T2, x2, rfl⟩, hv⟩ := hv
  have HF := hide hu
  have HG := hide hv
  clear hu hv
  unfold cV
  have t1 := ta_cc
  go_enter Tryd.func43, Tryd.ntmps43
  go_wp2_with fail
  go_region_with ((first | ((with_reducible refine (unhide HF _).mono ?_); rintro e w1 ⟨rfl, hb1⟩; have hb1' : Below (w.heap.size + 1) (w.alloc (.cells #[.iface T x, .iface T' x'] 91)) w1 := ⟨hb1.os, hb1.tape, hb1.output, hb1.size, fun k hk => hb1.block k (by simpa using hk)⟩; have hc1 := (bcell hb1').1; clear hb1) | ((with_reducible refine (unhide HG _).mono ?_); rintro e w2 ⟨rfl, hb2⟩)))
  all_goals
    have hB1 : Below w.heap.size w w1 := (below1 w _).trans (hb1'.mono (by omega))
    have hB2 : Below w.heap.size w w2 := hB1.trans ⟨hb2.os, hb2.tape, hb2.output, hb2.size, fun k hk => hb2.block k (Nat.lt_of_lt_of_le hk hB1.size)⟩
    clear hc1 hb1' hb2
    go_wp2
    go_ret
    exact ⟨rfl, hB2⟩

set_option maxHeartbeats 1000000 in
set_option maxRecDepth 100000 in
theorem ExpV.alt {u v U V : Value} (iu : ∃ T x, u = .iface T x) (iv : ∃ T x, v = .iface T x) (hu : ExpV u U) (hv : ExpV v V) : ExpV (aV u v) (aV U V) := by
  refine ⟨⟨_, _, rfl⟩, fun w => ?_⟩
  obtain ⟨T, x, rfl⟩ := iu
  obtain ⟨T', x', rfl⟩ := iv
  obtain ⟨⟨T1, x1, rfl⟩, hu⟩ := hu
  obtain ⟨⟨T2, x2, rfl⟩, hv⟩ := hv
  have HF := hide hu
  have HG := hide hv
  clear hu hv
  unfold aV
  have t1 := ta_ac
  have t2 := ta_aa
  go_enter Tryd.func43, Tryd.ntmps43
  go_wp2_with fail
  go_region_with ((first | ((with_reducible refine (unhide HF _).mono ?_); rintro e w1 ⟨rfl, hb1⟩; have hb1' : Below (w.heap.size + 1) (w.alloc (.cells #[.iface T x, .iface T' x'] 105)) w1 := ⟨hb1.os, hb1.tape, hb1.output, hb1.size, fun k hk => hb1.block k (by simpa using hk)⟩; have hc1 := (bcell hb1').1; clear hb1) | ((with_reducible refine (unhide HG _).mono ?_); rintro e w2 ⟨rfl, hb2⟩)))
  all_goals
    have hB1 : Below w.heap.size w w1 := (below1 w _).trans (hb1'.mono (by omega))
    have hB2 : Below w.heap.size w w2 := hB1.trans ⟨hb2.os, hb2.tape, hb2.output, hb2.size, fun k hk => hb2.block k (Nat.lt_of_lt_of_le hk hB1.size)⟩
    clear hc1 hb1' hb2
    go_wp2
    go_ret
    exact ⟨rfl, hB2⟩

/-- A repetition, by what expandRep answers. -/
theorem ExpV.rep0 {u W : Value} {mn mx : Int} (iu : ∃ T x, u = .iface T x) (iw : ∃ T x, W = .iface T x) (h : ∀ w, Calls Tryd.prog 61 #[.agg #[u, .int .i64 mn, .int .i64 mx]] w fun e w' => e = .returned W ∧ Below w.heap.size w w') : ExpV (rV u mn mx) W := by
  refine ⟨iw, fun w => ?_⟩
  obtain ⟨T, x, rfl⟩ := iu
  have HF := hide h
  clear h
  unfold rV
  have t1 := ta_rc
  have t2 := ta_ra
  have t3 := ta_rr
  go_enter Tryd.func43, Tryd.ntmps43
  go_wp2_with fail
  refine (unhide HF _).mono ?_
  rintro e w1 ⟨rfl, hb1⟩
  have hB1 : Below w.heap.size w w1 := (below1 w _).trans (hb1.mono (by rw [sz_alloc]; omega))
  clear hb1
  go_wp2
  go_ret
  exact ⟨rfl, hB1⟩

end Go.Proofs.YtijejbdpagbmpaaDoor

namespace Go.Proofs.YtijejbdpagbmpaaDoor
open Go.RowKit

/-- A predicate on a node and the list that it writes out, closed under the kinds of nodes. -/
structure ClosX (Q : Value → List El → Prop) : Prop where
  e : Q eV [⟨0, [], 0, 0⟩]
  s : ∀ {xs : List Int} {g : Nat → Nat}, Canon xs → WordsOf xs g → Q (sV g) [⟨1, xs, 0, 0⟩]
  cat : ∀ {u v : Value} {L R : List El}, Q u L → Q v R → Q (cV u v) (L ++ R ++ [⟨2, [], 0, 0⟩])
  alt : ∀ {u v : Value} {L R : List El}, Q u L → Q v R → Q (aV u v) (L ++ R ++ [⟨3, [], 0, 0⟩])
  rep : ∀ {u : Value} {L : List El} {mn mx : Int}, Q u L → 0 ≤ mn → mn ≤ 250 → (mx = -1 ∨ (mn ≤ mx ∧ mx ≤ 250)) → Q (rV u mn mx) (L ++ [⟨4, [], mn, mx⟩])

def QsL (Q : Value → List El → Prop) : List Value → List (List El) → Prop
  | [], [] => True
  | u :: us, L :: Ls => Q u L ∧ QsL Q us Ls
  | _, _ => False
theorem QsL.app {Q : Value → List El → Prop} : ∀ {a b : List Value} {A B : List (List El)}, QsL Q a A → QsL Q b B → QsL Q (a ++ b) (A ++ B)
  | [], _, [], _, _, k => k
  | _ :: _, _, _ :: _, _, h, k => ⟨h.1, QsL.app h.2 k⟩
  | [], _, _ :: _, _, h, _ => h.elim
  | _ :: _, _, [], _, h, _ => h.elim
theorem QsL.rep {Q : Value → List El → Prop} {u : Value} {L : List El} (h : Q u L) : ∀ n : Nat, QsL Q (List.replicate n u) (List.replicate n L)
  | 0 => trivial
  | n + 1 => ⟨h, QsL.rep h n⟩
theorem qs_fold {Q : Value → List El → Prop} (hQ : ClosX Q) : ∀ {vs : List Value} {Ls : List (List El)}, QsL Q vs Ls → ∀ {p : Value} {P : List El}, Q p P → Q (vs.foldl cV p) (Ls.foldl (fun acc q => acc ++ q ++ [catE]) P)
  | [], [], _, _, _, h => h
  | _ :: _, _ :: _, k, _, _, h => qs_fold hQ k.2 (hQ.cat h k.1)
  | [], _ :: _, k, _, _, _ => k.elim
  | _ :: _, [], k, _, _, _ => k.elim
theorem qs_join {Q : Value → List El → Prop} (hQ : ClosX Q) {vs : List Value} {Ls : List (List El)} (h : QsL Q vs Ls) (hn : vs ≠ []) : Q (jV vs) (jn Ls) := by
  match vs, Ls, h with
  | p :: r, P :: R, h => exact qs_fold hQ h.2 h.1
  | [], [], _ => exact absurd rfl hn

theorem qs_parts {Q : Value → List El → Prop} (hQ : ClosX Q) {U : Value} {L : List El} (h : Q U L) (mn mx : Int) (o2 : 0 ≤ mn) : QsL Q (partsV U mn mx) (partsX L mn mx) := by
  unfold partsV partsX
  by_cases e : mx = -1
  · rw [if_pos e, if_pos e]
    exact (QsL.rep h _).app ⟨hQ.rep h (by split <;> omega) (by split <;> omega) (Or.inl rfl), trivial⟩
  · rw [if_neg e, if_neg e]
    exact (QsL.rep h _).app (QsL.rep (hQ.alt h hQ.e) _)

/-- What is known of a node: its size, and that the program and the model write out the same. -/
def GQ (Q : Value → List El → Prop) (u : Value) (t : List El × Int) : Prop :=
  SzV u t.2 ∧ SegM t.1 t.2 ∧ (t.2 ≤ 500 → 1 ≤ t.2 ∧ ∃ U L, ExpV u U ∧ Q U L ∧ XpS t.1 L ∧ Nice L ∧ (L.length : Int) ≤ 2 * t.2 - 1 ∧ SegX t.1 L)

theorem closQ {Q : Value → List El → Prop} (hQ : ClosX Q) : Clos (GQ Q) := by
  refine ⟨fun h => h.1, ?_, ?_, ?_, ?_, ?_⟩
  · exact ⟨SzV.e, SegM.leaf (Or.inl rfl), fun _ => ⟨by omega, eV, _, ExpV.e, hQ.e, xpS_leaf _ (Or.inl rfl) (by simp), Nice.op _ _ _ (by simp [In64]) (by simp [In64]) (by simp [In64]), by simp, SegX.leaf (Or.inl rfl)⟩⟩
  · intro xs g hc hw
    exact ⟨SzV.s _ _ _ _, SegM.leaf (Or.inr rfl), fun _ => ⟨by omega, sV g, _, ExpV.s g, hQ.s hc hw, xpS_leaf _ (Or.inr rfl) (by have := canon_len hc; show xs.length ≤ 1048576; omega), nice_set hc, by simp, SegX.leaf (Or.inr rfl)⟩⟩
  · rintro u v l r ⟨hu1, hu2, hu3⟩ ⟨hv1, hv2, hv3⟩
    refine ⟨SzV.cat hu1 hv1, SegM.bin hu2 hv2 (Or.inl rfl), fun hle => ?_⟩
    obtain ⟨e1, e2⟩ := cap_small hle
    have b1 := hu1.2
    have b2 := hv1.2
    obtain ⟨p1, U, L, a1, a2, a3, a4, a5, a6⟩ := hu3 (by omega)
    obtain ⟨p2, V, R, c1, c2, c3, c4, c5, c6⟩ := hv3 (by omega)
    simp only at hle e1 ⊢
    exact ⟨by omega, cV U V, _, ExpV.cat hu1.iface hv1.iface a1 c1, hQ.cat a2 c2, xpS_bin 2 (Or.inl rfl) _ _ L R _ _ hu2 hv2 a3 c3 a4 c4 (by omega) (by omega), (a4.app c4).app (Nice.op _ _ _ (by simp [In64]) (by simp [In64]) (by simp [In64])), by rw [List.length_append, List.length_append]; simp; omega, SegX.bin a6 c6 (Or.inl rfl)⟩
  · rintro u v l r ⟨hu1, hu2, hu3⟩ ⟨hv1, hv2, hv3⟩
    refine ⟨SzV.alt hu1 hv1, SegM.bin hu2 hv2 (Or.inr rfl), fun hle => ?_⟩
    obtain ⟨e1, e2⟩ := cap_small hle
    have b1 := hu1.2
    have b2 := hv1.2
    obtain ⟨p1, U, L, a1, a2, a3, a4, a5, a6⟩ := hu3 (by omega)
    obtain ⟨p2, V, R, c1, c2, c3, c4, c5, c6⟩ := hv3 (by omega)
    simp only at hle e1 ⊢
    exact ⟨by omega, aV U V, _, ExpV.alt hu1.iface hv1.iface a1 c1, hQ.alt a2 c2, xpS_bin 3 (Or.inr rfl) _ _ L R _ _ hu2 hv2 a3 c3 a4 c4 (by omega) (by omega), (a4.app c4).app (Nice.op _ _ _ (by simp [In64]) (by simp [In64]) (by simp [In64])), by rw [List.length_append, List.length_append]; simp; omega, SegX.bin a6 c6 (Or.inr rfl)⟩
  · rintro u o mn mx ⟨hu1, hu2, hu3⟩ o2 o3 o4
    refine ⟨SzV.rep hu1 o2 o3 o4, SegM.rep hu2 rfl o2 (o4.imp id (fun q => q)), fun hle => ?_⟩
    obtain ⟨e1, e2⟩ := cap_small hle
    have b1 := hu1.2
    have hge := rep_ge o.2 mn mx b1.1 o2 o4
    obtain ⟨p1, U, L, a1, a2, a3, a4, a5, a6⟩ := hu3 (by omega)
    obtain ⟨T, x, rfl⟩ := hu1.iface
    obtain ⟨T', x', rfl⟩ := a1.1
    simp only at hle e1 ⊢
    rw [e1]
    have a7 : SegX (o.1 ++ [⟨4, [], mn, mx⟩]) (repX L mn mx) := SegX.rep a6 rfl
    unfold repX at a7
    rcases o4 with rfl | ⟨o4, o5⟩
    · exact ⟨by omega, jV (partsV (.iface T' x') mn (-1)), jn (partsX L mn (-1)), ExpV.rep0 ⟨_, _, rfl⟩ (jV_iface (partsV_ne _ _ _ (Or.inl rfl)) (parts_iface ⟨_, _, rfl⟩ _ _)) (fun w => expandRep_star T x T' x' mn w a1 o2 o3), qs_join hQ (qs_parts hQ a2 mn (-1) o2) (partsV_ne _ _ _ (Or.inl rfl)), xpS_star mn _ L _ hu2 a3 o2 o3 a4 (by omega), parts_nice a4 _ _ o2 o3, parts_len L o.2 mn (-1) a5 o2 (Or.inl rfl), by rwa [if_neg (by omega)] at a7⟩
    · by_cases h0 : mx = 0
      · subst h0
        exact ⟨by omega, eV, [⟨0, [], 0, 0⟩], ExpV.rep0 ⟨_, _, rfl⟩ ⟨_, _, rfl⟩ (fun w => expandRep_zero T x mn w), hQ.e, xpS_zero mn _ L _ hu2 a3, Nice.op _ _ _ (by simp [In64]) (by simp [In64]) (by simp [In64]), by simp; omega, by rwa [if_pos rfl] at a7⟩
      · obtain ⟨m, rfl⟩ := Int.eq_ofNat_of_zero_le o2
        obtain ⟨M, rfl⟩ := Int.eq_ofNat_of_zero_le (show 0 ≤ mx by omega)
        have hs : (Int.ofNat M = -1) ∨ (0 < (M : Int) ∧ (m : Int) ≤ (M : Int) ∧ 0 ≤ (m : Int)) := Or.inr ⟨by omega, by omega, by omega⟩
        refine ⟨by omega, jV (partsV (.iface T' x') m M), jn (partsX L m M), ExpV.rep0 ⟨_, _, rfl⟩ (jV_iface (partsV_ne _ _ _ hs) (parts_iface ⟨_, _, rfl⟩ _ _)) (fun w => ?_), qs_join hQ (qs_parts hQ a2 m M o2) (partsV_ne _ _ _ hs), xpS_count m M _ L _ hu2 a3 (by omega) (by omega) (by omega) a4 (by omega), parts_nice a4 _ _ o2 o3, parts_len L o.2 m M a5 o2 (Or.inr ⟨by omega, by omega⟩), by rwa [if_neg (by omega)] at a7⟩
        by_cases he : m = M
        · exact expandRep_count0 T x T' x' m M w a1 he (by omega) (by omega)
        · exact expandRep_count1 T x T' x' m M w a1 (by omega) (by omega) (by omega)

/-- What a valid tree is written out as, by both sides. -/
theorem valid_q {Q : Value → List El → Prop} (hQ : ClosX Q) {xs : List El} (h : ValidT xs) : ∃ L, XpS xs L ∧ Nice L ∧ L.length ≤ 1000 ∧ SegX xs L ∧ (∃ U, Q U L) ∧ ∀ u c, GQ Q u (xs, c) → c ≤ 500 → ∃ U, ExpV u U ∧ Q U L := by
  obtain ⟨u, c', hu⟩ := valid_g (closQ hQ) h
  obtain ⟨h1, ok, sh, c, hc1, hc2⟩ := h
  have hr := hu.2.1.run []
  simp only at hr
  rw [hc1] at hr
  simp only [List.cons.injEq, and_true] at hr
  obtain ⟨-, -, h5⟩ := hu
  obtain ⟨-, U, L, a1, a2, a3, a4, a5, a6⟩ := h5 (by simp only; omega)
  simp only at a5
  refine ⟨L, a3, a4, by omega, a6, ⟨U, a2⟩, fun u' c' hu' hc' => ?_⟩
  obtain ⟨-, U', L', b1, b2, -, -, -, b6⟩ := hu'.2.2 hc'
  rw [SegX.one a6 b6]
  exact ⟨U', b1, b2⟩

end Go.Proofs.YtijejbdpagbmpaaDoor

namespace Go.Proofs.YtijejbdpagbmpaaDoor
open Go.RowKit

def cmp4 (g : Nat → Nat) (j : Nat) : Nat := if j < 4 then 18446744073709551615 - g j else 0
theorem cmp4_fit (g : Nat → Nat) : Fit (cmp4 g) := fun j => by unfold cmp4; split <;> omega
theorem cmp4_bt {g : Nat → Nat} (hg : Fit g) (b : Nat) : Bt (cmp4 g) b = (decide (b < 256) && !Bt g b) := by
  unfold Bt cmp4
  by_cases hb : b < 256
  · rw [if_pos (by omega)]
    have := Nat.testBit_two_pow_sub_succ (show g (b / 64) < 2 ^ 64 from hg (b / 64)) (b % 64)
    rw [show (2 : Nat) ^ 64 - (g (b / 64) + 1) = 18446744073709551615 - g (b / 64) by omega] at this
    rw [this]
    simp [hb, show b % 64 < 64 by omega]
  · rw [if_neg (by omega)]
    simp [hb]

theorem xor_all {a : Nat} (h : a < 18446744073709551616) : 18446744073709551615 ^^^ a = 18446744073709551615 - a := by
  apply Nat.eq_of_testBit_eq
  intro i
  have h1 := Nat.testBit_two_pow_sub_one 64 i
  have h2 := Nat.testBit_two_pow_sub_succ (show a < 2 ^ 64 from h) i
  rw [show (2 : Nat) ^ 64 - 1 = 18446744073709551615 by decide] at h1
  rw [show (2 : Nat) ^ 64 - (a + 1) = 18446744073709551615 - a by omega] at h2
  rw [Nat.testBit_xor, h1, h2]
  by_cases hi : i < 64
  · simp [hi]
  · have : a.testBit i = false := Nat.testBit_lt_two_pow (Nat.lt_of_lt_of_le h (by
      have : (2 : Nat) ^ 64 ≤ 2 ^ i := Nat.pow_le_pow_right (by decide) (by omega)
      exact this))
    simp [hi, this]
theorem xor_u64 {a : Nat} (h : a < 18446744073709551616) : bits BinOp.xor IntKind.u64 (if IntKind.u64.signed = true then -1 else IntKind.u64.max) (a : Int) = ((18446744073709551615 - a : Nat) : Int) := by
  rw [← xor_all h]
  exact bits_xor_u64_nat 18446744073709551615 a (by decide) h

set_option maxHeartbeats 2000000 in
set_option maxRecDepth 100000 in
theorem complement_w (g : Nat → Nat) (w : World) (hg : Fit g) : Calls Tryd.prog 62 #[ws4 g] w fun e w' => e = .returned (ws4 (cmp4 g)) ∧ Below w.heap.size w w' := by
  unfold ws4
  have Hg := hide hg
  clear hg
  go_enter Tryd.func62, Tryd.ntmps62
  go_wp2
  go_loopw [4] (fun iv wr => ∃ i : Nat, i ≤ 4 ∧ iv = .int .i64 i ∧ wr.rowIs w.heap.size 68 4 (fun j => .int .u64 ((if j < i then cmp4 g j else g j : Nat) : Int)) ∧ (∃ g : Nat → Value, wr.rowIs (w.heap.size + 1) 68 4 g) ∧ Below w.heap.size w wr) (fun iv _ => 4 - (intOf iv).toNat)
  case atStart =>
    refine ⟨0, by omega, rfl, ((four_row w _ g).alloc _).congr (fun j hj => by simp), ⟨fun j => .int .u64 ((fun _ => 0 : Nat → Nat) j : Nat), ?_⟩, below2 w _ _⟩
    have h := zero_row (w.alloc (.cells #[.int .u64 (g 0 : Nat), .int .u64 (g 1 : Nat), .int .u64 (g 2 : Nat), .int .u64 (g 3 : Nat)] 68)) 68
    rw [sz_alloc] at h; exact h
  case round =>
    obtain ⟨i, hi, rfl, hrow, ⟨g2, hrow2⟩, hb⟩ := hrel
    by_cases hlt : i < 4
    · have hlt' : (i : Int) < 4 := by omega
      have c0 := hrow.cell hlt
      rw [if_neg (Nat.lt_irrefl _)] at c0
      have f0 := hrow.frozen i
      have hgi := unhide Hg i
      have Hrow := hide hrow
      have Hrow2 := hide hrow2
      clear hrow hrow2
      have hx := xor_u64 hgi
      have HX := hide hx
      clear hx
      go_wp2
      rw [unhide HX]
      refine ⟨⟨i + 1, by omega, by go_num, ?_, ⟨g2, ?_⟩, ?_⟩, by simp [intOf]; omega⟩
      · refine ((unhide Hrow).set i _).congr (fun j hj => ?_)
        by_cases e : j = i
        · subst e; simp [cmp4, hlt]
        · have e2 : (j < i + 1) ↔ j < i := by omega
          simp [e, e2]
      · exact (unhide Hrow2).setOther (by show w.heap.size + 1 ≠ w.heap.size; omega) _
      · exact bput hb (Nat.le_refl _) _
    · obtain rfl : i = 4 := by omega
      have c0 := hrow.cell (i := 0) (by omega)
      have c1 := hrow.cell (i := 1) (by omega)
      have c2 := hrow.cell (i := 2) (by omega)
      have c3 := hrow.cell (i := 3) (by omega)
      rw [if_pos (by omega)] at c0 c1 c2 c3
      have d0 := hrow2.cell (i := 0) (by omega)
      have d1 := hrow2.cell (i := 1) (by omega)
      have d2 := hrow2.cell (i := 2) (by omega)
      have d3 := hrow2.cell (i := 3) (by omega)
      have f0 := hrow2.frozen 0
      have f1 := hrow2.frozen 1
      have f2 := hrow2.frozen 2
      have f3 := hrow2.frozen 3
      clear hrow hrow2
      go_wp2
      refine bodyPost_ret (v := .agg #[.int .u64 (cmp4 g 0 : Nat), .int .u64 (cmp4 g 1 : Nat), .int .u64 (cmp4 g 2 : Nat), .int .u64 (cmp4 g 3 : Nat)]) (by simp [results, Tryd.results62, go_sem, d0, d1, d2, d3]) rfl ⟨rfl, ?_⟩
      exact bput (bput (bput (bput hb (by omega) _) (by omega) _) (by omega) _) (by omega) _

theorem zero_fit : Fit (fun _ => 0) := fun _ => by show 0 < 18446744073709551616; omega
theorem zero_bt (b : Nat) : Bt (fun _ => 0) b = false := by simp [Bt]
theorem canon_all : Canon [0, 255] := ⟨rfl, fun i hi => by
    match i, hi with
    | 0, _ => simp
    | 1, _ => simp, fun m hm => by
    obtain rfl : m = 0 := by simp at hm; omega
    simp [PairOk]⟩
theorem canon_dot : Canon [0, 9, 11, 255] := ⟨rfl, fun i hi => by
    match i, hi with
    | 0, _ => simp
    | 1, _ => simp
    | 2, _ => simp
    | 3, _ => simp, fun m hm => by
    have : m = 0 ∨ m = 1 := by simp at hm; omega
    rcases this with rfl | rfl <;> simp [PairOk]⟩

theorem words_all : WordsOf [0, 255] (cmp4 (fun _ => 0)) := ⟨cmp4_fit _, fun b => by
  rw [cmp4_bt zero_fit, zero_bt]
  show (decide (b < 256) && !false) = (false || decide ((0 : Int) ≤ (b : Int) ∧ (b : Int) ≤ 255))
  simp
  omega⟩
theorem words_dot {g : Nat → Nat} (hf : Fit g) (h : ∀ b : Nat, Bt g b = (false || decide ((10 : Int) ≤ (b : Int) ∧ (b : Int) ≤ 10))) : WordsOf [0, 9, 11, 255] (cmp4 g) := ⟨cmp4_fit _, fun b => by
  rw [cmp4_bt hf, h]
  show (decide (b < 256) && !(false || decide ((10 : Int) ≤ (b : Int) ∧ (b : Int) ≤ 10))) = ((false || decide ((0 : Int) ≤ (b : Int) ∧ (b : Int) ≤ 9)) || decide ((11 : Int) ≤ (b : Int) ∧ (b : Int) ≤ 255))
  rw [Bool.eq_iff_iff]
  simp
  omega⟩

theorem box4 {w w1 : World} {t : TypeId} (hb : Below (w.heap.size + 1) (w.alloc (.cells #[.int .u64 0, .int .u64 0, .int .u64 0, .int .u64 0] t)) w1) : w1.rowIs w.heap.size t 4 (fun j => .int .u64 ((fun _ => 0 : Nat → Nat) j : Nat)) :=
  World.rowIs.of_block (zero_row w t) (hb.block _ (Nat.lt_succ_self _))

set_option maxHeartbeats 2000000 in
set_option maxRecDepth 100000 in
theorem allBytes_w (w : World) : Calls Tryd.prog 44 #[] w fun e w' => (∃ g, e = .returned (ws4 g) ∧ WordsOf [0, 255] g) ∧ Below w.heap.size w w' := by
  have hB0 := below1 w (.cells #[.int .u64 0, .int .u64 0, .int .u64 0, .int .u64 0] 68)
  go_enter Tryd.func44, Tryd.ntmps44
  go_wp2_with fail
  refine (complement_w (fun _ => 0) _ zero_fit).mono ?_
  rintro e w1 ⟨rfl, hb1⟩
  have hrow := box4 (hb1.mono (by rw [sz_alloc]; omega))
  have hB1 : Below w.heap.size w w1 := hB0.trans (hb1.mono (by rw [sz_alloc]; omega))
  have d0 := hrow.cell (i := 0) (by omega)
  have d1 := hrow.cell (i := 1) (by omega)
  have d2 := hrow.cell (i := 2) (by omega)
  have d3 := hrow.cell (i := 3) (by omega)
  have f0 := hrow.frozen 0
  have f1 := hrow.frozen 1
  have f2 := hrow.frozen 2
  have f3 := hrow.frozen 3
  have HW := hide words_all
  clear hrow hb1
  generalize cmp4 (fun _ => 0) = q at *
  unfold ws4
  go_wp2
  refine bodyPost_ret (v := .agg #[.int .u64 (q 0 : Nat), .int .u64 (q 1 : Nat), .int .u64 (q 2 : Nat), .int .u64 (q 3 : Nat)]) (by simp [results, Tryd.results44, go_sem, d0, d1, d2, d3]) rfl ⟨⟨q, rfl, unhide HW⟩, ?_⟩
  exact bput (bput (bput (bput hB1 (by omega) _) (by omega) _) (by omega) _) (by omega) _

end Go.Proofs.YtijejbdpagbmpaaDoor

namespace Go.Proofs.YtijejbdpagbmpaaDoor
open Go.RowKit

theorem Boxed.under {w w' : World} {B m : Nat} {t : TypeId} {v : Value} (h : Boxed w B t v) (hb : Below m w w') (hm : B < m) : Boxed w' B t v := (hb.block B hm).trans h

/-- A list that lies in one block, and where. -/
structure Cl (α : Type) where
  v : Value
  xs : List α
  b : Nat

/-- p's value reads as p's list, in p's block, whose cells are of type e. -/
def Cl.ok {α : Type} (mk : α → Value) (d : α) (e : TypeId) (w : World) (p : Cl α) : Prop :=
  ∃ a cap, p.v = .slice a p.xs.length cap ∧ (p.xs.length ≤ cap ∧ cap ≤ maxLen) ∧ (0 < p.xs.length → ∃ off, a = some ⟨p.b, off, none⟩ ∧ (∃ c, w.heap[p.b]? = some (.cells c e (0, 0))) ∧ ∀ i : Nat, i < p.xs.length → w.cell? ⟨p.b, off + i, none⟩ = some (mk (p.xs[i]?.getD d)))
theorem Cl.ok.same {α : Type} {mk : α → Value} {d : α} {e : TypeId} {w w' : World} {p : Cl α} (h : p.ok mk d e w) (hs : 0 < p.xs.length → w'.heap[p.b]? = w.heap[p.b]?) : p.ok mk d e w' := by
  obtain ⟨a, cap, e1, hl, hc⟩ := h
  refine ⟨a, cap, e1, hl, fun hp => ?_⟩
  obtain ⟨off, e2, ⟨c, h1⟩, h2⟩ := hc hp
  exact ⟨off, e2, ⟨c, (hs hp).trans h1⟩, fun i hi => by rw [World.cell?_of_block (w := w) (a := ⟨p.b, off + i, none⟩) (hs hp)]; exact h2 i hi⟩
theorem Cl.ok.lt {α : Type} {mk : α → Value} {d : α} {e : TypeId} {w : World} {p : Cl α} (h : p.ok mk d e w) (hp : 0 < p.xs.length) : p.b < w.heap.size := by
  obtain ⟨a, cap, e1, hl, hc⟩ := h
  obtain ⟨off, e2, ⟨c, h1⟩, h2⟩ := hc hp
  exact (Array.getElem?_eq_some_iff.1 h1).1
theorem Cl.ok.below {α : Type} {mk : α → Value} {d : α} {e : TypeId} {m : Nat} {w w' : World} {p : Cl α} (h : p.ok mk d e w) (hb : Below m w w') (hm : w.heap.size ≤ m) : p.ok mk d e w' := h.same (fun hp => hb.block _ (by have := h.lt hp; omega))
theorem Cl.ok.at {α : Type} {mk : α → Value} {d : α} {e : TypeId} {w : World} {p : Cl α} (h : p.ok mk d e w) : SlAt mk d 0 w.heap.size w p.v p.xs := by
  obtain ⟨a, cap, e1, hl, hc⟩ := id h
  refine ⟨a, cap, e1, by omega, fun hp => ?_⟩
  obtain ⟨off, e2, -, h2⟩ := hc hp
  exact ⟨p.b, off, e2, Nat.zero_le _, h.lt hp, h2⟩
theorem Cl.ok.cap {α : Type} {mk : α → Value} {d : α} {e : TypeId} {w : World} {p : Cl α} (h : p.ok mk d e w) : CapOk p.v := by
  obtain ⟨a, cap, e1, hl, hc⟩ := h
  rw [e1]
  exact CapOk.mk hl.1 hl.2
theorem Cl.ok.foot {α : Type} {mk : α → Value} {d : α} {e : TypeId} {w : World} {p : Cl α} (h : p.ok mk d e w) : SlF mk d (fun k => 0 < p.xs.length ∧ k = p.b) w p.v p.xs := by
  obtain ⟨a, cap, e1, hl, hc⟩ := h
  by_cases hp : 0 < p.xs.length
  · refine ⟨p.b, p.b + 1, ⟨a, cap, e1, by omega, fun _ => ?_⟩, fun k h1 h2 => ⟨hp, by omega⟩⟩
    obtain ⟨off, e2, ⟨c, h1⟩, h2⟩ := hc hp
    exact ⟨p.b, off, e2, Nat.le_refl _, Nat.lt_succ_self _, ⟨c, e, h1⟩, h2⟩
  · exact ⟨0, 0, ⟨a, cap, e1, by omega, fun h => absurd h hp⟩, fun k h1 h2 => by omega⟩
theorem Cl.ok.one {α : Type} {mk : α → Value} {d : α} {e : TypeId} {w : World} {p : Cl α} (h : p.ok mk d e w) : p.v.oneCell' = true := by
  obtain ⟨a, cap, e1, -⟩ := h
  rw [e1]
  rfl

/-- What owns its row is such a list. -/
theorem own_cl {mk : Int → Value} {base e n : Nat} {w : World} {v : Value} {xs : List Int} (h : w.ownsRow base e 1 v n (xs.map mk)) : ∃ b, Cl.ok mk 0 e w ⟨v, xs, b⟩ ∧ (0 < xs.length → base ≤ b) := by
  have hlen := h.1
  rw [List.length_map, Nat.mul_one] at hlen
  rcases h.2 with ⟨rfl, hz⟩ | ⟨g, cap, cur, rfl, hbg, hg, hnc, hcm, hcs, htake⟩
  · exact ⟨0, ⟨none, 0, by show Value.slice none 0 0 = _; rw [hlen, hz], by show xs.length ≤ 0 ∧ _; exact ⟨by omega, Nat.zero_le _⟩, fun hp => by have : 0 < xs.length := hp; omega⟩, fun hp => by omega⟩
  · refine ⟨g, ⟨some ⟨g, 0, none⟩, cap, by rw [hlen], ⟨by show xs.length ≤ cap; omega, hcm⟩, fun hp => ⟨0, rfl, ⟨cur, hg⟩, fun i hi => ?_⟩⟩, fun _ => hbg⟩
    have hi' : i < xs.length := hi
    show w.cell? ⟨g, 0 + i, none⟩ = some (mk (xs[i]?.getD 0))
    rw [Nat.zero_add, h.cellAt i (by omega), List.getElem?_map, List.getElem?_eq_getElem hi']
    rfl

def ApartC {α : Type} (ps : List (Cl α)) : Prop := ps.Pairwise (fun p q => 0 < p.xs.length → 0 < q.xs.length → p.b ≠ q.b)

/-- v is a row of its own of such lists, ps, which lie apart. -/
structure LL {α : Type} (mk : α → Value) (d : α) (e te : TypeId) (base : Nat) (w : World) (v : Value) (ps : List (Cl α)) : Prop where
  own : w.ownsRow base te 1 v ps.length (ps.map Cl.v)
  ok : ∀ p ∈ ps, p.ok mk d e w
  lo : ∀ p ∈ ps, 0 < p.xs.length → base ≤ p.b
  apart : ApartC ps
theorem LL.nil {α : Type} {mk : α → Value} {d : α} {e te : TypeId} {base : Nat} {w : World} : LL mk d e te base w (.slice none 0 0) [] := ⟨World.ownsRow_nil _ _ _ _, by simp, by simp, List.Pairwise.nil⟩
theorem LL.keep {α : Type} {mk : α → Value} {d : α} {e te : TypeId} {base m : Nat} {w w' : World} {v : Value} {ps : List (Cl α)} (h : LL mk d e te base w v ps) (hb : Below m w w') (hm : w.heap.size ≤ m) : LL mk d e te base w' v ps :=
  ⟨own_keep h.own hb hm, fun p hp => (h.ok p hp).below hb hm, h.lo, h.apart⟩

/-- The row's own block is none of the lists' blocks. -/
theorem LL.not_row {α : Type} {mk : α → Value} {d : α} {e te : TypeId} {base : Nat} {w : World} {v : Value} {ps : List (Cl α)} (hte : te ≠ e) (h : LL mk d e te base w v ps) {p : Cl α} {q : Cl α} (hq : q.ok mk d e w) (_ : p = q) (hp : 0 < q.xs.length) : some q.b ≠ v.ownBlock := by
  intro e1
  obtain ⟨a, cap, -, -, hc⟩ := hq
  obtain ⟨off, -, ⟨c, h1⟩, -⟩ := hc hp
  rcases h.own.2 with ⟨rfl, _⟩ | ⟨g, cap', cur, rfl, _, hgb, _⟩
  · simp [Value.ownBlock] at e1
  · obtain rfl : q.b = g := by simpa [Value.ownBlock] using e1
    rw [h1] at hgb
    simp at hgb
    exact hte hgb.2.symm

theorem pushd_alloc (w : World) (o : Obj) : Pushd w (w.alloc o) o := ⟨rfl, rfl, rfl, rfl⟩

/-- One list more. -/
theorem LL.app {α : Type} {mk : α → Value} {d : α} {e te : TypeId} {base : Nat} {w W w' : World} {v v' : Value} {ps : List (Cl α)} {p : Cl α} {o : Obj} (hte : te ≠ e) (h : LL mk d e te base w v ps) (hbase : base ≤ w.heap.size) (hp : p.ok mk d e w) (hplo : 0 < p.xs.length → base ≤ p.b)
    (hnew : ∀ q ∈ ps, 0 < q.xs.length → 0 < p.xs.length → q.b ≠ p.b) (hP : Pushd w W o) (h1 : w'.ownsRow base te 1 v' (ps.length + 1) (ps.map Cl.v ++ [p.v])) (hg : W.grownBy w' v.ownBlock) : LL mk d e te base w' v' (ps ++ [p]) ∧ Below base w w' := by
  have hk : ∀ q : Cl α, q.ok mk d e w → q.ok mk d e w' := fun q hq => by
    refine hq.same (fun hq0 => ?_)
    have hlt := hq.lt hq0
    rw [hg.block q.b (by rw [hP.size]; omega) (h.not_row hte hq rfl hq0), hP.old hlt]
  refine ⟨⟨by rw [List.length_append, List.map_append]; exact h1, fun q hq => ?_, fun q hq hq0 => ?_, ?_⟩, (hP.below.mono hbase).grown hg (by rw [hP.size]; omega) (fun k hk => (h.own.lt k hk).1)⟩
  · rcases List.mem_append.1 hq with hq | hq
    · exact hk q (h.ok q hq)
    · rw [List.mem_singleton] at hq
      subst hq
      exact hk q hp
  · rcases List.mem_append.1 hq with hq | hq
    · exact h.lo q hq hq0
    · rw [List.mem_singleton] at hq
      subst hq
      exact hplo hq0
  · refine List.pairwise_append.2 ⟨h.apart, List.pairwise_singleton _ _, fun q hq r hr => ?_⟩
    rw [List.mem_singleton] at hr
    subst hr
    exact hnew q hq

/-- As the laws' functions want it. -/
theorem LL.foot {α : Type} {mk : α → Value} {d : α} {e te : TypeId} {base : Nat} {w : World} {v : Value} {ps : List (Cl α)} (hte : te ≠ e) (h : LL mk d e te base w v ps) (hl : ps.length ≤ maxLen) : SsF mk d (Rng base w.heap.size) w v (ps.map Cl.xs) := by
  have hlen := h.own.1
  rcases h.own.2 with ⟨rfl, hz⟩ | ⟨g, cap, cur, rfl, hbg, hg, hnc, hcm, hcs, htake⟩
  · have : ps = [] := List.eq_nil_of_length_eq_zero hz
    subst this
    exact SsF.nil _ _ _ _ _ _ (Nat.zero_le _)
  · have hgl : g < w.heap.size := (h.own.lt g rfl).2
    have hget : ∀ i : Nat, i < ps.length → ∃ p, ps[i]? = some p ∧ p ∈ ps := fun i hi => ⟨ps[i], by simp [hi], List.getElem_mem hi⟩
    refine ⟨some ⟨g, 0, none⟩, cap, by rw [List.length_map], ⟨by rw [List.length_map]; exact hnc, hcm⟩, fun _ => ⟨g, 0, fun i => ((ps[i]?).map Cl.v).getD undef, fun i k => ∃ p, ps[i]? = some p ∧ 0 < p.xs.length ∧ k = p.b, rfl, ⟨hbg, hgl⟩, ⟨cur, te, hg⟩, fun i hi => ?_, fun i hi => ?_, fun i hi k hk => ?_, fun i j hi hj hne k hk hk' => ?_⟩⟩
    · rw [List.length_map] at hi
      obtain ⟨p, hp, -⟩ := hget i hi
      show w.cell? ⟨g, 0 + i, none⟩ = some (((ps[i]?).map Cl.v).getD undef)
      rw [Nat.zero_add, h.own.cellAt i (by omega), List.getElem?_map, hp]
      rfl
    · rw [List.length_map] at hi
      obtain ⟨p, hp, hm⟩ := hget i hi
      have e1 : ((ps[i]?).map Cl.v).getD undef = p.v := by rw [hp]; rfl
      have e2 : ((ps.map Cl.xs)[i]?).getD [] = p.xs := by rw [List.getElem?_map, hp]; rfl
      show SlF mk d _ w (((ps[i]?).map Cl.v).getD undef) (((ps.map Cl.xs)[i]?).getD []) ∧ CapOk (((ps[i]?).map Cl.v).getD undef)
      rw [e1, e2]
      exact ⟨(h.ok p hm).foot.mono (fun k hk => ⟨p, hp, hk.1, hk.2⟩), (h.ok p hm).cap⟩
    · obtain ⟨p, hp, hp0, rfl⟩ := hk
      have hm : p ∈ ps := List.mem_of_getElem? hp
      refine ⟨⟨h.lo p hm hp0, (h.ok p hm).lt hp0⟩, fun e1 => ?_⟩
      exact h.not_row hte (h.ok p hm) rfl hp0 (by rw [e1]; rfl)
    · obtain ⟨p, hp, hp0, rfl⟩ := hk
      obtain ⟨q, hq, hq0, e1⟩ := hk'
      rw [List.length_map] at hi hj
      have hpair := List.pairwise_iff_getElem.1 h.apart
      have ep : ps[i]'hi = p := by rw [List.getElem?_eq_getElem hi] at hp; exact Option.some.inj hp
      have eq : ps[j]'hj = q := by rw [List.getElem?_eq_getElem hj] at hq; exact Option.some.inj hq
      rcases Nat.lt_or_gt_of_ne hne with hlt | hlt
      · exact hpair i j hi hj hlt (by rw [ep]; exact hp0) (by rw [eq]; exact hq0) (by rw [ep, eq]; exact e1)
      · exact hpair j i hj hi hlt (by rw [eq]; exact hq0) (by rw [ep]; exact hp0) (by rw [ep, eq]; exact e1.symm)

/-- One store into a row of its own. -/
theorem own_set {base e g n cap k : Nat} {w : World} {xs : List Value} {u : Value} (h : w.ownsRow base e 1 (.slice (some ⟨g, 0, none⟩) n cap) n xs) (_ : k < n) : (w.setCell ⟨g, k, none⟩ u).ownsRow base e 1 (.slice (some ⟨g, 0, none⟩) n cap) n (xs.set k u) := by
  have hlen := h.1
  rcases h.2 with ⟨e0, _⟩ | ⟨g', cap', cur, e0, hb, hg, hn, hm, hs, ht⟩
  · cases e0
  · cases e0
    refine ⟨by rw [List.length_set]; exact hlen, .inr ⟨g, cap, cur.setIfInBounds k u, rfl, hb, ?_, hn, hm, by rw [Array.size_setIfInBounds]; exact hs, ?_⟩⟩
    · simp [World.setCell, Array.getElem?_modify, hg]
    · rw [Array.toList_setIfInBounds, ← ht]
      rw [List.take_set]

end Go.Proofs.YtijejbdpagbmpaaDoor
