import Derived.Test.YtinhliecfjlocaaGreatPk7
import Derived.Test.YtinhliecfjlocaaGreatW4
import Derived.Test.YtinhliecfjlocaaGreatPk10
import Derived.Test.YtinhliecfjlocaaGreatPk13
import Derived.Test.YtinhliecfjlocaaGreatPk6
import Derived.Test.YtinhliecfjlocaaGreatPk14
import Derived.RangeFuncBox
import Derived.RangeFuncLeaves
import Derived.RangeFuncCalls
import Derived.Shelf.Abstract
import Derived.OwnWalkIn
import Derived.TacticsInMore
import Derived.LoopNIn
import Derived.LoopIn
import Derived.Sort.QuietIn
import Derived.Maps.AppendAt
import Derived.Test.YtinhliecfjlocaaGreatPk2
import Derived.Test.YtinhliecfjlocaaGreatPk8
import Derived.ShutString
import Derived.ChangeOld
import Derived.Test.YtinhliecfjlocaaGreatPk4
namespace Go.Proofs.YtinhliecfjlocaaGreat
open Go.RowKit
def mem256 (P : Int → Bool) : Nat → List Int
  | 0 => []
  | n + 1 => if P n then mem256 P n ++ [(n : Int)] else mem256 P n
def bytesOf (set : List Int) (n : Nat) : List Int := mem256 (fun b => InP set (set.length / 2) b.toNat) n
theorem inPs_iff (set : List Int) (b : Nat) : inPs set b ↔ InP set (set.length / 2) b = true := by
  rw [inP_iff]
  unfold inPs
  constructor
  · rintro ⟨i, h1, h2⟩; exact ⟨i, by omega, h2⟩
  · rintro ⟨i, h1, h2⟩; exact ⟨i, by omega, h2⟩
theorem bytes_in {set : List Int} {n : Nat} (h : inPs set n) : bytesOf set (n + 1) = bytesOf set n ++ [(n : Int)] := by
  unfold bytesOf
  simp only [mem256]
  rw [if_pos]
  exact (inPs_iff set n).1 h
theorem bytes_out {set : List Int} {n : Nat} (h : ¬ inPs set n) : bytesOf set (n + 1) = bytesOf set n := by
  unfold bytesOf
  simp only [mem256]
  rw [if_neg]
  exact fun q => h ((inPs_iff set n).2 q)
theorem bytes_len (set : List Int) : ∀ n : Nat, (bytesOf set n).length ≤ n
  | 0 => Nat.le_refl _
  | n + 1 => by
    by_cases h : inPs set n
    · rw [bytes_in h, List.length_append, List.length_singleton]; have := bytes_len set n; omega
    · rw [bytes_out h]; have := bytes_len set n; omega
theorem single_next {bs : List Int} {i : Nat} (h : i < bs.length) : (bs.take (i + 1)).map (fun b => [b]) = (bs.take i).map (fun b => [b]) ++ [[bs[i]?.getD 0]] := by
  rw [List.take_add_one, List.map_append, List.getElem?_eq_getElem h]
  rfl
def leafS (set : List Int) : List (List Int) := if 8 < (bytesOf set 256).length then [[256]] else (bytesOf set 256).map (fun b => [b])
def insL (x : List Int) : List (List Int) → List (List Int)
  | [] => [x]
  | d :: D => if lexc d x < 0 then d :: insL x D else if lexc d x = 0 then d :: D else x :: d :: D
theorem insL_ok (x : List Int) : ∀ D : List (List Int), LAsc D → LAsc (insL x D) ∧ ∀ z, z ∈ insL x D ↔ z ∈ D ∨ z = x
  | [], _ => ⟨List.pairwise_singleton _ _, by simp [insL]⟩
  | d :: D, h => by
    obtain ⟨h1, h2⟩ := List.pairwise_cons.1 h
    obtain ⟨k1, k2⟩ := insL_ok x D h2
    rw [insL]
    by_cases g : lexc d x < 0
    · rw [if_pos g]
      refine ⟨List.pairwise_cons.2 ⟨fun z hz => ?_, k1⟩, fun z => by simp only [List.mem_cons, k2, or_assoc]⟩
      rcases (k2 z).1 hz with m | rfl
      · exact h1 z m
      · exact g
    · rw [if_neg g]
      by_cases e : lexc d x = 0
      · rw [if_pos e]
        obtain rfl := lexc_zero.1 e
        exact ⟨h, fun z => ⟨Or.inl, fun m => m.elim id (fun e => by rw [e]; exact List.mem_cons_self)⟩⟩
      · rw [if_neg e]
        have g2 : lexc x d < 0 := by
          rcases lexc_tri d x with q | q | q
          · exact absurd q g
          · exact absurd (lexc_zero.2 q) e
          · exact q
        refine ⟨List.pairwise_cons.2 ⟨fun z hz => ?_, h⟩, fun z => by simp only [List.mem_cons]; constructor <;> (rintro (h | h | h) <;> simp [h])⟩
        rcases List.mem_cons.1 hz with rfl | m
        · exact g2
        · exact lexc_trans g2 (h1 z m)
def lscF : List (List Int) → List (List Int)
  | [] => []
  | x :: L => insL x (lscF L)
theorem lscF_ok : ∀ L : List (List Int), LAsc (lscF L) ∧ ∀ z, z ∈ lscF L ↔ z ∈ L
  | [] => ⟨List.Pairwise.nil, fun z => Iff.rfl⟩
  | x :: L => by
    obtain ⟨h1, h2⟩ := lscF_ok L
    obtain ⟨k1, k2⟩ := insL_ok x (lscF L) h1
    exact ⟨k1, fun z => by rw [lscF, k2, h2, List.mem_cons, or_comm]⟩
def cutf (L : List (List Int)) : List (List Int) := if 50 < (lscF L).length ∨ (lscF L).any (fun x => decide (60 < x.length)) = true then [[256]] else lscF L
theorem cutf_ok (L : List (List Int)) : CutR L (cutf L) := by
  obtain ⟨h1, h2⟩ := lscF_ok L
  have h3 : (50 < (lscF L).length ∨ (lscF L).any (fun x => decide (60 < x.length)) = true) ↔ Ovr (lscF L) := by
    unfold Ovr
    rw [List.any_eq_true]
    simp only [decide_eq_true_eq]
  unfold cutf
  by_cases g : 50 < (lscF L).length ∨ (lscF L).any (fun x => decide (60 < x.length)) = true
  · rw [if_pos g]; exact ⟨_, h1, h2, Or.inl ⟨h3.1 g, rfl⟩⟩
  · rw [if_neg g]; exact ⟨_, h1, h2, Or.inr ⟨fun q => g (h3.2 q), rfl⟩⟩
def repK (o : List (List Int)) (mn : Int) : List (List Int) := if mn = 0 then [[256]] else cutf (o ++ prd (o.map (fun a => jn2 a [256])) o)
def kPush (st : List (List (List Int))) (x : El) : List (List (List Int)) :=
  if x.kind = 0 then [[]] :: st else if x.kind = 1 then leafS x.set :: st else
  match st with
  | [] => []
  | [o] => if x.kind = 4 then [repK o x.mn] else [o]
  | r :: l :: b => if x.kind = 4 then repK r x.mn :: l :: b else if x.kind = 2 then cutf (prd l r) :: b else cutf (l ++ r) :: b
def kRun (st : List (List (List Int))) : List El → List (List (List Int))
  | [] => st
  | x :: r => kRun (kPush st x) r
theorem kRun_append (st : List (List (List Int))) (a b : List El) : kRun st (a ++ b) = kRun (kRun st a) b := by
  induction a generalizing st with
  | nil => rfl
  | cons x r ih => simp [kRun, ih]
def SegK (seg : List El) (S : List (List Int)) : Prop := ∀ st, kRun st seg = S :: st
theorem SegK.one {a : List El} {S S' : List (List Int)} (h : SegK a S) (k : SegK a S') : S = S' := by
  have := (h []).symm.trans (k [])
  simpa using this
theorem SegK.e : SegK [⟨0, [], 0, 0⟩] [[]] := fun st => by simp [kRun, kPush]
theorem SegK.s (xs : List Int) : SegK [⟨1, xs, 0, 0⟩] (leafS xs) := fun st => by simp [kRun, kPush]
theorem SegK.cat {a b : List El} {A B : List (List Int)} (ha : SegK a A) (hb : SegK b B) : SegK (a ++ b ++ [⟨2, [], 0, 0⟩]) (cutf (prd A B)) := fun st => by
  rw [kRun_append, kRun_append, ha, hb]
  simp [kRun, kPush]
theorem SegK.alt {a b : List El} {A B : List (List Int)} (ha : SegK a A) (hb : SegK b B) : SegK (a ++ b ++ [⟨3, [], 0, 0⟩]) (cutf (A ++ B)) := fun st => by
  rw [kRun_append, kRun_append, ha, hb]
  simp [kRun, kPush]
theorem SegK.rep {a : List El} {A : List (List Int)} (ha : SegK a A) (mn mx : Int) : SegK (a ++ [⟨4, [], mn, mx⟩]) (repK A mn) := fun st => by
  rw [kRun_append, ha]
  cases st with
  | nil => simp [kRun, kPush]
  | cons q st => simp [kRun, kPush]
theorem tb_ee (x : Value) (w : World) : Sem.run Tryz.prog (Instr.typeAssert (.iface 124 x) 82 124 true) w = .ok (.tuple #[x, .bool true]) w := by kernel_rfl
theorem tb_se (x : Value) (w : World) : Sem.run Tryz.prog (Instr.typeAssert (.iface 128 x) 82 124 true) w = .ok (.tuple #[.agg #[], .bool false]) w := by kernel_rfl
theorem tb_ss (x : Value) (w : World) : Sem.run Tryz.prog (Instr.typeAssert (.iface 128 x) 82 128 true) w = .ok (.tuple #[x, .bool true]) w := by kernel_rfl
theorem tb_ce (x : Value) (w : World) : Sem.run Tryz.prog (Instr.typeAssert (.iface 132 x) 82 124 true) w = .ok (.tuple #[.agg #[], .bool false]) w := by kernel_rfl
theorem tb_cs (x : Value) (w : World) : Sem.run Tryz.prog (Instr.typeAssert (.iface 132 x) 82 128 true) w = .ok (.tuple #[.agg #[.int .u64 0, .int .u64 0, .int .u64 0, .int .u64 0], .bool false]) w := by kernel_rfl
theorem tb_cc (x : Value) (w : World) : Sem.run Tryz.prog (Instr.typeAssert (.iface 132 x) 82 132 true) w = .ok (.tuple #[x, .bool true]) w := by kernel_rfl
theorem tb_ae (x : Value) (w : World) : Sem.run Tryz.prog (Instr.typeAssert (.iface 134 x) 82 124 true) w = .ok (.tuple #[.agg #[], .bool false]) w := by kernel_rfl
theorem tb_as (x : Value) (w : World) : Sem.run Tryz.prog (Instr.typeAssert (.iface 134 x) 82 128 true) w = .ok (.tuple #[.agg #[.int .u64 0, .int .u64 0, .int .u64 0, .int .u64 0], .bool false]) w := by kernel_rfl
theorem tb_ac (x : Value) (w : World) : Sem.run Tryz.prog (Instr.typeAssert (.iface 134 x) 82 132 true) w = .ok (.tuple #[.agg #[.nilIface, .nilIface], .bool false]) w := by kernel_rfl
theorem tb_aa (x : Value) (w : World) : Sem.run Tryz.prog (Instr.typeAssert (.iface 134 x) 82 134 true) w = .ok (.tuple #[x, .bool true]) w := by kernel_rfl
theorem tb_re (x : Value) (w : World) : Sem.run Tryz.prog (Instr.typeAssert (.iface 136 x) 82 124 true) w = .ok (.tuple #[.agg #[], .bool false]) w := by kernel_rfl
theorem tb_rs (x : Value) (w : World) : Sem.run Tryz.prog (Instr.typeAssert (.iface 136 x) 82 128 true) w = .ok (.tuple #[.agg #[.int .u64 0, .int .u64 0, .int .u64 0, .int .u64 0], .bool false]) w := by kernel_rfl
theorem tb_rc (x : Value) (w : World) : Sem.run Tryz.prog (Instr.typeAssert (.iface 136 x) 82 132 true) w = .ok (.tuple #[.agg #[.nilIface, .nilIface], .bool false]) w := by kernel_rfl
theorem tb_ra (x : Value) (w : World) : Sem.run Tryz.prog (Instr.typeAssert (.iface 136 x) 82 134 true) w = .ok (.tuple #[.agg #[.nilIface, .nilIface], .bool false]) w := by kernel_rfl
theorem tb_rr (x : Value) (w : World) : Sem.run Tryz.prog (Instr.typeAssert (.iface 136 x) 82 136 true) w = .ok (.tuple #[x, .bool true]) w := by kernel_rfl
def SkP (w : World) (S : List (List Int)) (e : Ending) (w' : World) : Prop := ∃ lv ps c, e = .returned (.agg #[lv, .bool c]) ∧ LL mI 0 3 34 w.heap.size w' lv ps ∧ ps.map Cl.xs = S ∧ Below w.heap.size w w'
def SkV (u : Value) (S : List (List Int)) : Prop := (∃ T x, u = .iface T x) ∧ ∀ w, Calls Tryz.prog 43 #[u] w fun e w' => SkP w S e w'
theorem LL.belowput {base B o : Nat} {w : World} {v u : Value} {ps : List (Cl Int)} (h : LL mI 0 3 34 base w v ps) (hB : B < base) : LL mI 0 3 34 base (w.setCell ⟨B, o, none⟩ u) v ps := by
  refine ⟨⟨h.own.1, ?_⟩, fun p hp => (h.ok p hp).same (fun hp0 => Below.heap_setCell _ _ _ _ (by have := h.lo p hp hp0; show p.b ≠ B; omega)), h.lo, h.apart⟩
  rcases h.own.2 with q | ⟨g, cap, cur, e1, e2, e3, e4⟩
  · exact Or.inl q
  · exact Or.inr ⟨g, cap, cur, e1, e2, (Below.heap_setCell _ _ _ _ (by show g ≠ B; omega)).trans e3, e4⟩
theorem LL.base {b b' : Nat} {w : World} {v : Value} {ps : List (Cl Int)} (h : LL mI 0 3 34 b w v ps) (hl : b' ≤ b) : LL mI 0 3 34 b' w v ps := ⟨own_low h.own hl, h.ok, fun p hp h0 => Nat.le_trans hl (h.lo p hp h0), h.apart⟩
theorem sk_fin {w w' : World} {R B : Nat} {lv : Value} {L S : List (List Int)} {ps : List (Cl Int)} {c : Bool} (hs : SkB B w' lv L ps c) (hw : Below w.heap.size w w') (hR : w.heap.size ≤ R) (hRB : R < B) (hS : CutR L S) : SkP w S (.returned (.agg #[lv, .bool c])) ((w'.setCell ⟨R, 0, none⟩ lv).setCell ⟨R, 1, none⟩ (.bool c)) :=
  ⟨lv, ps, c, rfl, ((hs.row.belowput (by omega)).belowput (by omega)).base (by omega), hs.add.cut.uniq hS, ⟨hw.os, hw.tape, hw.output, by rw [sz_put, sz_put]; exact hw.size, fun k hk => by rw [Below.heap_setCell _ _ _ _ (by show k ≠ R; omega), Below.heap_setCell _ _ _ _ (by show k ≠ R; omega)]; exact hw.block k hk⟩⟩
abbrev zS : Obj := .cells #[.slice none 0 0, .bool false] 86
theorem sk_start (w : World) : SkB (w.heap.size + 1) ((w.alloc zS).alloc zS) (.slice none 0 0) [] [] false ∧ Bx2 ((w.alloc zS).alloc zS) w.heap.size 86 (.slice none 0 0) (.bool false) ∧ Below w.heap.size w ((w.alloc zS).alloc zS) := by
  have h1 := Bx2.new (w.alloc zS) 86 (.slice none 0 0) (.bool false)
  rw [sz_alloc] at h1
  exact ⟨⟨h1, LL.nil, AddS.nil⟩, (Bx2.new w _ _ _).alloc _, below2 w _ _⟩
set_option maxHeartbeats 1000000 in
theorem SkV.e : SkV eV [[]] := by
  refine ⟨⟨_, _, rfl⟩, fun w => ?_⟩
  unfold eV
  have t1 := tb_ee
  obtain ⟨h1, h2, h3⟩ := sk_start w
  have H1 := hide h1
  have H2 := hide h2
  have H3 := hide h3
  clear h1 h2 h3
  go_enter Tryz.func43, Tryz.ntmps43
  go_wp2_with fail
  have H4 := hide ((unhide H1).keep (below1 _ (.cells #[] 124)) (Nat.le_refl _))
  have H5 := hide ((unhide H2).alloc (.cells #[] 124))
  have H6 := hide ((unhide H3).alloc (by rw [sz_alloc, sz_alloc]; omega) (.cells #[] 124))
  generalize (((w.alloc zS).alloc zS).alloc (.cells #[] 124)) = w2 at *
  refine (add_any (w.heap.size + 1) _ [] [] false ⟨.slice none 0 0, [], 0⟩ w2 (unhide H4) ⟨none, 0, rfl, ⟨Nat.le_refl _, Nat.zero_le _⟩, fun h => by cases h⟩ (fun h => by cases h) (fun q hq => by cases hq)).mono ?_
  rintro e w3 ⟨rfl, lv, ps, c, hs, -, hf, -⟩
  obtain ⟨y0, y1, y2, y3⟩ := hs.box.facts4
  obtain ⟨z0, z1, z2, z3⟩ := ((unhide H5).blk (hf.block w.heap.size (World.rowIs.lt (unhide H5)) (by omega) (by intro h; cases h))).facts4
  have hR := sk_fin (S := [[]]) (R := w.heap.size) hs ((unhide H6).trans ⟨hf.os, hf.tape, hf.output, hf.size, fun k hk => hf.block k (by have := (unhide H6).size; omega) (by omega) (by intro h; cases h)⟩) (Nat.le_refl _) (by omega) ⟨[[]], List.pairwise_singleton _ _, by simp, Or.inr ⟨fun h => by rcases h with h | ⟨x, h, h2⟩ <;> simp at h; subst h; simp at h2, rfl⟩⟩
  have HRR := hide hR
  obtain ⟨la, lc, rfl⟩ := own_is hs.row.own
  clear hR hs hf
  go_wp2
  refine bodyPost_ret (v := .agg #[.slice la ps.length lc, .bool c]) (by simp [results, Tryz.results43, go_sem, z0, z1]) rfl (unhide HRR)
open Go.RowKit Go.Shelf
attribute [local go_sem] Oper.semAt_some
def KpI (n Bs : Nat) (W W' : World) : Prop := Below n W W' ∧ ∀ v, Boxed W Bs 34 v → Boxed W' Bs 34 v
theorem KpI.trans {n Bs : Nat} {A B C : World} (h : KpI n Bs A B) (k : KpI n Bs B C) : KpI n Bs A C := ⟨h.1.trans k.1, fun v hv => k.2 v (h.2 v hv)⟩
theorem KpI.putObj {n Bs : Nat} {w : World} (hn : n ≤ w.heap.size) (W : World) (l : Nat) (o o' : Obj) (hl : w.heap.size ≤ l) (h : W.heap[l]? = some o) (hc : o.isCells = false) (hw : o.isWalk = false) : KpI n Bs W (W.putObj l o') :=
  ⟨belowK_b hn W l o o' hl h hc hw, fun v hv => hv.kept (grownBy_putObj' W l o') (fun e => by
    cases e
    rw [show W.heap[Bs]? = _ from hv] at h
    cases h
    cases hc)⟩
theorem triI_same (x y z : Int) : (x * 256 + y) * 256 + z = x * 65536 + y * 256 + z := by omega
set_option maxRecDepth 100000 in
set_option maxHeartbeats 2000000 in
theorem pieces1I_in (n : Nat) (hn : 1 ≤ n) (l Bs n₀ cap : Nat) (a : Option Addr) (bs : List Int) (hlen : bs.length ≤ 1048576) (hbb : ∀ i : Nat, 0 ≤ bs[i]?.getD 0 ∧ bs[i]?.getD 0 ≤ 256) (J Jx : List Int → World → Prop) (hJd : ∀ pre W q, J pre W → J pre (W.drewN q))
    (hY : ∀ pre x W, J pre W → pre.length < bs.length → YieldAt Fence.wide (n - 1) Tryz.prog l #[.int .i64 x] W fun e W' =>
      (e = .returned (.bool true) ∧ J (pre ++ [x]) W' ∧ KpI n₀ Bs W W') ∨ (e = .returned (.bool false) ∧ Jx (pre ++ [x]) W'))
    (W : World) (hBs : Boxed W Bs 34 (.slice a bs.length cap)) (hc : 0 < bs.length → ∃ b off, a = some ⟨b, off, none⟩ ∧ b < n₀ ∧ ∀ i : Nat, i < bs.length → W.cell? ⟨b, off + i, none⟩ = some (.int .i64 (bs[i]?.getD 0))) (h0 : J [] W) :
    CallsIn Fence.wide n Tryz.prog 84 #[.func (.yield l) #[] #[], .pointer (some ⟨Bs, 0, none⟩)] W fun e W' => (∃ v, e = .returned v) ∧
      ((∃ ys, ys = gtr bs (bs.length - 2) ∧ J ys W') ∨ (∃ pre, (∃ k, pre = gtr bs k) ∧ Jx pre W')) := by
  have hcB := hBs.cell
  refine callsIn_of_wp Tryz.func84 rfl trivial ?_ rfl
  simp only [Tryz.ntmps84, List.size_toArray, List.length_cons, List.length_nil, Nat.reduceAdd, Nat.reduceSub, Array.replicate_succ, Array.replicate_zero, List.push_toArray, List.append_toArray, List.nil_append, List.cons_append]
  gi_wp2
  gi_loopw [11] (fun i wr => ∃ k : Nat, k ≤ bs.length - 2 ∧ i = .int .i64 k ∧ J (gtr bs k) wr ∧ KpI n₀ Bs W wr) (fun i _ => bs.length - (intOf i).toNat)
  case atStart => exact ⟨0, Nat.zero_le _, rfl, h0, Below.refl _ _, fun _ h => h⟩
  case round =>
    obtain ⟨k, hk, rfl, hJs, hkp⟩ := hrel
    have hcB := (hkp.2 _ hBs).cell
    by_cases hlt : k + 2 < bs.length
    · have hlt2 : (k : Int) < (bs.length : Int) - 3 + 1 := by omega
      have hlt' : (k : Int) + 2 < (bs.length : Int) := by omega
      have hlt1 : (k : Int) + 1 < (bs.length : Int) := by omega
      have hlt0 : (k : Int) < (bs.length : Int) := by omega
      have hp1 : (0 : Int) ≤ (k : Int) + 1 := by omega
      have hp2 : (0 : Int) ≤ (k : Int) + 2 := by omega
      obtain ⟨b, off, rfl, hbn, hcell⟩ := hc (by omega)
      have hx0 : wr.cell? ⟨b, off + k, none⟩ = some (.int .i64 (bs[k]?.getD 0)) := by rw [hkp.1.cell (p := ⟨b, off + k, none⟩) hbn]; exact hcell k (by omega)
      have hx1 : wr.cell? ⟨b, off + (k + 1), none⟩ = some (.int .i64 (bs[k + 1]?.getD 0)) := by rw [hkp.1.cell (p := ⟨b, off + (k + 1), none⟩) hbn]; exact hcell (k + 1) (by omega)
      have hx2 : wr.cell? ⟨b, off + (k + 2), none⟩ = some (.int .i64 (bs[k + 2]?.getD 0)) := by rw [hkp.1.cell (p := ⟨b, off + (k + 2), none⟩) hbn]; exact hcell (k + 2) (by omega)
      have q0 := hbb k
      have q1 := hbb (k + 1)
      have q2 := hbb (k + 2)
      have HG : Hid (gap3 bs k ↔ (bs[k]?.getD 0 = 256 ∨ bs[k + 1]?.getD 0 = 256 ∨ bs[k + 2]?.getD 0 = 256)) := Iff.rfl
      have HT : Hid (tri3 bs k = bs[k]?.getD 0 * 65536 + bs[k + 1]?.getD 0 * 256 + bs[k + 2]?.getD 0) := rfl
      have Hc := hide hc
      have Hbb := hide hbb
      clear hcell hc hbb
      generalize bs[k]?.getD 0 = x0 at *
      generalize bs[k + 1]?.getD 0 = x1 at *
      generalize bs[k + 2]?.getD 0 = x2 at *
      have HY := hide hY
      have HJ := hide hJs
      have HJd := hide hJd
      clear hY hJs hJd
      have k1 : IntKind.i64.wrap ((k : Int) + 2) = (k : Int) + 2 := k64i (by omega) (by omega)
      have k2 : IntKind.i64.wrap ((k : Int) + 1) = (k : Int) + 1 := k64i (by omega) (by omega)
      have k3 : IntKind.i64.wrap x0 = x0 := k64i (by omega) (by omega)
      have k4 : IntKind.i64.wrap x1 = x1 := k64i (by omega) (by omega)
      have k5 : IntKind.i64.wrap x2 = x2 := k64i (by omega) (by omega)
      gi_wp2_with fail
      gi_quiet (fail)
      have hkd : KpI n₀ Bs W (wr.drewN nq) := ⟨below_drewN hkp.1 nq, fun v hv => hkp.2 v hv⟩
      have hJw := hide (unhide HJd _ _ nq (unhide HJ))
      clear hcB hx0 hx1 hx2
      generalize wr.drewN nq = wd at *
      by_cases hg : x0 = 256 ∨ x1 = 256 ∨ x2 = 256
      · have HE := hide (gtr_no ((unhide HG).2 hg))
        by_cases e0 : x0 = 256
        · have g0 : (x0 == 256) = true := by simpa using e0
          clear hg e0
          gi_wp2
          go_roundw
          case rel => exact ⟨k + 1, by omega, by go_num, by rw [unhide HE]; exact unhide hJw, hkd⟩
          case measure => simp [intOf]; omega
        · have g0 : (x0 == 256) = false := by simpa using e0
          by_cases e1 : x1 = 256
          · have g1 : (x1 == 256) = true := by simpa using e1
            clear hg e0 e1
            gi_wp2
            go_roundw
            case rel => exact ⟨k + 1, by omega, by go_num, by rw [unhide HE]; exact unhide hJw, hkd⟩
            case measure => simp [intOf]; omega
          · have g1 : (x1 == 256) = false := by simpa using e1
            have g2 : (x2 == 256) = true := by simp; omega
            clear hg e0 e1
            gi_wp2
            go_roundw
            case rel => exact ⟨k + 1, by omega, by go_num, by rw [unhide HE]; exact unhide hJw, hkd⟩
            case measure => simp [intOf]; omega
      · have HNG : Hid (¬ gap3 bs k) := fun q => hg ((unhide HG).1 q)
        have g0 : (x0 == 256) = false := by simp; omega
        have g1 : (x1 == 256) = false := by simp; omega
        have g2 : (x2 == 256) = false := by simp; omega
        clear hg
        obtain ⟨fn, tmps, assign, body, hy, hR⟩ := unhide HY (gtr bs k) ((x0 * 256 + x1) * 256 + x2) wd (unhide hJw) (by have := gtr_len bs k; omega)
        gi_wp2_with fail
        refine hR.mono ?_
        rintro e W3 (⟨rfl, hJ3, hk3⟩ | ⟨rfl, hJx3⟩)
        · have HJ3 := hide hJ3
          clear hJ3 hR hy
          gi_wp2
          go_roundw
          case rel => exact ⟨k + 1, by omega, by go_num, by rw [gtr_yes (unhide HNG), unhide HT, ← triI_same]; exact unhide HJ3, hkd.trans hk3⟩
          case measure => simp [intOf]; omega
        · have HJ3 := hide hJx3
          clear hJx3 hR hy
          gi_wp2
          refine bodyPost_ret (results_none rfl _ _ _) rfl ?_
          exact ⟨⟨_, rfl⟩, .inr ⟨_, ⟨k + 1, by rw [gtr_yes (unhide HNG), unhide HT, ← triI_same]⟩, unhide HJ3⟩⟩
    · have hlt2 : ¬ (k : Int) < (bs.length : Int) - 3 + 1 := by omega
      have hz : Hid (k = bs.length - 2) := by show k = bs.length - 2; omega
      gi_wp2
      go_end0
      exact ⟨⟨_, rfl⟩, .inl (by rw [← unhide hz]; exact hJs)⟩
set_option maxHeartbeats 1000000 in
theorem piecesI_in (n : Nat) (sv : Value) (hone : sv.oneCell' = true) (w : World) :
    CallsIn Fence.wide n Tryz.prog 45 #[sv] w fun e w' => e = .returned (.func (.func 84) #[] #[.pointer (some ⟨w.heap.size, 0, none⟩)]) ∧ w' = w.alloc (.cells #[sv] 34) := by
  refine callsIn_of_wp Tryz.func45 rfl trivial ?_ rfl
  simp only [Tryz.ntmps45, List.size_toArray, List.length_cons, List.length_nil, Nat.reduceAdd, Nat.reduceSub, Array.replicate_succ, Array.replicate_zero, List.push_toArray, List.append_toArray, List.nil_append, List.cons_append]
  gi_wp2
  go_ret
  exact ⟨rfl, rfl⟩
theorem piecesI_stops (n : Nat) (hn : 1 ≤ n) (Bs n₀ cap : Nat) (a : Option Addr) (bs : List Int) (hlen : bs.length ≤ 1048576) (hbb : ∀ i : Nat, 0 ≤ bs[i]?.getD 0 ∧ bs[i]?.getD 0 ≤ 256) (w : World) (hBs : Boxed w Bs 34 (.slice a bs.length cap)) (hn₀ : n₀ ≤ w.heap.size)
    (hc : 0 < bs.length → ∃ b off, a = some ⟨b, off, none⟩ ∧ b < n₀ ∧ ∀ i : Nat, i < bs.length → w.cell? ⟨b, off + i, none⟩ = some (.int .i64 (bs[i]?.getD 0))) :
    SeqStopsK Fence.wide n Tryz.prog 84 #[.pointer (some ⟨Bs, 0, none⟩)] (fun x : Int => #[Value.int .i64 x]) (KpI n₀ Bs) (fun ys => ys = gtr bs (bs.length - 2)) (fun pre => ∃ k, pre = gtr bs k) bs.length w := fun l J Jx W hW hJ _ hY h0 =>
  pieces1I_in n hn l Bs n₀ cap a bs hlen hbb J Jx (fun pre V q hp => hJ pre V _ none hp ⟨rfl, rfl, rfl, Nat.le_refl _, fun _ _ _ => rfl⟩ (fun r e => by cases e)) hY W ((hW.block Bs hBs.lt).trans hBs)
    (fun hp => by
      obtain ⟨b, off, e, h1, h2⟩ := hc hp
      exact ⟨b, off, e, h1, fun i hi => (hW.cell (p := ⟨b, off + i, none⟩) (by show b < w.heap.size; omega)).trans (h2 i hi)⟩) h0
attribute [local go_sem] Oper.semAt_some
set_option maxRecDepth 100000 in
set_option maxHeartbeats 2000000 in
theorem numbersI_any (sv : Value) (bs : List Int) (w : World) (hv : SlAt mI 0 0 w.heap.size w sv bs) (hbb : ∀ i : Nat, 0 ≤ bs[i]?.getD 0 ∧ bs[i]?.getD 0 ≤ 256) (hl : bs.length ≤ 1048576) :
    Calls Tryz.prog 17 #[sv] w fun e w' => OrdOwn e w w' (gtr bs (bs.length - 2)) ∧ Below w.heap.size w w' := by
  obtain ⟨a, cap, rfl, hml, hc⟩ := hv
  obtain ⟨i0, hi, hz0, hz1, hz2⟩ := info_parts Tryz.zinInt
  refine (callsIn_wide (n := 5)).1 ?_
  refine callsIn_of_wp_marks Tryz.func17 rfl trivial ?_ rfl
  simp only [Tryz.ntmps17, List.size_toArray, List.length_cons, List.length_nil, Nat.reduceAdd, Nat.reduceSub, Array.replicate_succ, Array.replicate_zero, List.push_toArray, List.append_toArray, List.nil_append, List.cons_append]
  gi_wp2_with (refine ⟨trivial, ?_⟩; gi_at_call 45; refine (piecesI_in _ _ rfl _).mono ?_; rintro e w' ⟨rfl, rfl⟩)
  have bO := Boxed.new w 34 (.slice none 0 0)
  have bN := Boxed.new (w.alloc (.cells #[.slice none 0 0] 34)) 34 (.slice a bs.length cap)
  rw [World.size_alloc] at bN
  have hB0 : Below w.heap.size w ((w.alloc (.cells #[.slice none 0 0] 34)).alloc (.cells #[.slice a bs.length cap] 34)) := ((Below.refl _ w).alloc (Nat.le_refl _) _).alloc (by simp) _
  refine wpIn_rangeFunc_ownG rfl (by omega) (gf := 84) (lb := #[.pointer (some ⟨w.heap.size + 1, 0, none⟩)]) rfl trivial (enters_of Tryz.func84 (by kernel_rfl) rfl)
    (piecesI_stops 4 (by omega) (w.heap.size + 1) w.heap.size cap a bs hl hbb _ bN (by simp; omega) (fun hp => by
      obtain ⟨b, off, e, -, h1, h2⟩ := hc hp
      exact ⟨b, off, e, h1, fun i hi => (hB0.cell (p := ⟨b, off + i, none⟩) h1).trans (h2 i hi)⟩)) KpI.trans (KpI.putObj (by simp; omega)) (Below.refl _ _) (fun _ => rfl)
    (fun (pre : List Int) W => (∃ v, Boxed W w.heap.size 34 v ∧ W.ownsRow w.heap.size 3 1 v pre.length (pre.map mI) ∧ True) ∧ Below w.heap.size w W)
    (fun _ _ _ => False)
    (OwnFrom.and (Own.from (holdsRow_own w.heap.size w.heap.size 34 3 1 (fun pre : List Int => pre.length) (fun pre : List Int => pre.map mI) (fun _ _ => True)) _) (ownFrom_below (Nat.le_refl _) (by simp; omega)))
    (fun _ _ _ _ _ hs _ _ => hs)
    ⟨⟨_, bO.alloc _, World.ownsRow_nil _ _ _ _, trivial⟩, hB0⟩
    (fun x => { tmps := #[.slice a bs.length cap, undef, .slice none 0 0, .pointer (some ⟨w.heap.size, 0, none⟩), .int .i64 x, .slice a bs.length cap, .func (.func 84) #[] #[.pointer (some ⟨w.heap.size + 1, 0, none⟩)], .int .i64 x, undef, undef, undef, undef, undef, undef], defers := [] }) ?assign ?body ?done ?stop
  case assign =>
    intro l x W K hK
    gi_wp2
    exact hK
  case body =>
    rintro l pre x W ⟨⟨v, hv, hrow, -⟩, hB⟩ hlt
    have hcv := hv.cell
    have hszB := hB.size
    gi_wp2_with (gi_at_builtin; refine wpListIn_append_own _ rfl _ _ 34 rfl w.heap.size 3 i0 (.int .i64 0) 1 8 Tryz.underlying34 hi hz0 hz1 hz2 rfl (by decide) _ _ _ rfl (hrow.alloc _) ⟨W.heap.size, 0, none⟩ 1 1 [.int .i64 x] rfl rfl (cell_one_new _ _ _) (by simp [Value.oneCell']) (by unfold maxLen; omega) (by omega) (by simp; omega) ?_; intro v' w1 hown' hgrow _; obtain ⟨g', cap', rfl⟩ := ownsRow_succ hown'; obtain ⟨hv1, hv2, hr2, hk2, hb2⟩ := hv.appended (by decide) hrow hB.size (Nat.le_refl _) hown' hgrow; have hc1 := hv1.cell; have hf1 := hv1.frozen)
    exact ⟨hk2.from _, ⟨hb2, fun u hu => (Below.heap_setCell _ _ _ _ (by show w.heap.size + 1 ≠ w.heap.size; omega)).trans ((hu.alloc _).kept hgrow (hu.not_row (by decide) hrow))⟩, ⟨_, hv2, by simpa [mI] using hr2, trivial⟩, hB.trans hb2⟩
  case done =>
    rintro D ys W hD hys ⟨⟨v, hv, hrow, -⟩, hB⟩ hK
    have hyl : ys.length ≤ 1048576 := by rw [hys]; have := gtr_len bs (bs.length - 2); omega
    have Hys := hide hys
    clear hys
    have hcv := hv.cell
    have hne : some D ≠ v.ownBlock := fun e => by
      rcases hrow.2 with ⟨rfl, _⟩ | ⟨g, cap, cur, rfl, _, hgb, _⟩
      · cases e
      · obtain rfl : D = g := by simpa [Value.ownBlock] using e
        rw [hgb] at hK
        cases hK
    have hDl : D < W.heap.size := (Array.getElem?_eq_some_iff.1 hK).1
    have Hrow := hide hrow
    obtain ⟨oa, oc, rfl⟩ := own_is hrow
    clear hrow
    gi_wp2_with fail
    refine ⟨trivial, ?_⟩
    refine (callsIn_wide.2 (ascending_any w.heap.size _ _ _ (unhide Hrow) hB.size (by omega))).mono ?_
    rintro e w2 ⟨v2, zs, rfl, ho, hle, hown2, hb2, hg2⟩
    have hK2 : w2.heap[D]? = some (.deferred (some [])) := (hg2.block D hDl hne).trans hK
    have Hown2 := hide hown2
    obtain ⟨pa, pc, rfl⟩ := own_is hown2
    clear hown2
    gi_wp2
    refine ⟨by simp, .inl ⟨_, _, rfl, run_takeDeferred hK2, ?_⟩⟩
    refine ⟨_, results_tmp rfl _ _ _, ⟨_, zs, rfl, by rw [← unhide Hys]; exact ho, by rw [← unhide Hys]; exact hle, ?_⟩, ?_⟩
    · exact ownsRow_putObj (unhide Hown2) _ hK2 rfl
    · exact (hB.trans hb2).trans (belowK_b (w := w) (Nat.le_refl _) w2 D _ _ (by simp at hD; omega) hK2 rfl rfl)
  case stop =>
    rintro D c pre W _ _ h _
    exact h.elim
attribute [local go_sem] Oper.semAt_some
set_option maxRecDepth 100000 in
set_option maxHeartbeats 2000000 in
theorem numbersOf_any (sv : Value) (bs : List Int) (w : World) (hv : SlAt mB 0 0 w.heap.size w sv bs) (hbb : ∀ i : Nat, 0 ≤ bs[i]?.getD 0 ∧ bs[i]?.getD 0 ≤ 255) (hl : bs.length ≤ 1048576) :
    Calls Tryz.prog 23 #[sv] w fun e w' => OrdRet e w w' (tris bs (bs.length - 2)) ∧ Below w.heap.size w w' := by
  obtain ⟨a, cap, rfl, hml, hc⟩ := hv
  obtain ⟨i0, hi, hz0, hz1, hz2⟩ := info_parts Tryz.zinInt
  refine (callsIn_wide (n := 5)).1 ?_
  refine callsIn_of_wp_marks Tryz.func23 rfl trivial ?_ rfl
  simp only [Tryz.ntmps23, List.size_toArray, List.length_cons, List.length_nil, Nat.reduceAdd, Nat.reduceSub, Array.replicate_succ, Array.replicate_zero, List.push_toArray, List.append_toArray, List.nil_append, List.cons_append]
  gi_wp2_with (refine ⟨trivial, ?_⟩; gi_at_call 54; refine (pieces_in _ _ rfl _).mono ?_; rintro e w' ⟨rfl, rfl⟩)
  have bO := Boxed.new w 34 (.slice none 0 0)
  have bN := Boxed.new (w.alloc (.cells #[.slice none 0 0] 34)) 22 (.slice a bs.length cap)
  rw [World.size_alloc] at bN
  have hB0 : Below w.heap.size w ((w.alloc (.cells #[.slice none 0 0] 34)).alloc (.cells #[.slice a bs.length cap] 22)) := ((Below.refl _ w).alloc (Nat.le_refl _) _).alloc (by simp) _
  refine wpIn_rangeFunc_ownG rfl (by omega) (gf := 90) (lb := #[.pointer (some ⟨w.heap.size + 1, 0, none⟩)]) rfl trivial (enters_of Tryz.func90 (by kernel_rfl) rfl)
    (pieces_stops 4 (by omega) (w.heap.size + 1) w.heap.size cap a bs hl hbb _ bN (by simp; omega) (fun hp => by
      obtain ⟨b, off, e, -, h1, h2⟩ := hc hp
      exact ⟨b, off, e, h1, fun i hi => (hB0.cell (p := ⟨b, off + i, none⟩) h1).trans (h2 i hi)⟩)) KpX.trans (KpX.putObj (by simp; omega)) (Below.refl _ _) (fun _ => rfl)
    (fun (pre : List Int) W => (∃ v, Boxed W w.heap.size 34 v ∧ W.ownsRow w.heap.size 3 1 v pre.length (pre.map mI) ∧ True) ∧ Below w.heap.size w W)
    (fun _ _ _ => False)
    (OwnFrom.and (Own.from (holdsRow_own w.heap.size w.heap.size 34 3 1 (fun pre : List Int => pre.length) (fun pre : List Int => pre.map mI) (fun _ _ => True)) _) (ownFrom_below (Nat.le_refl _) (by simp; omega)))
    (fun _ _ _ _ _ hs _ _ => hs)
    ⟨⟨_, bO.alloc _, World.ownsRow_nil _ _ _ _, trivial⟩, hB0⟩
    (fun x => { tmps := #[.slice a bs.length cap, undef, .slice none 0 0, .pointer (some ⟨w.heap.size, 0, none⟩), .int .i64 x, .slice a bs.length cap, .func (.func 90) #[] #[.pointer (some ⟨w.heap.size + 1, 0, none⟩)], .int .i64 x, undef, undef, undef, undef, undef, undef], defers := [] }) ?assign ?body ?done ?stop
  case assign =>
    intro l x W K hK
    gi_wp2
    exact hK
  case body =>
    rintro l pre x W ⟨⟨v, hv, hrow, -⟩, hB⟩ hlt
    have hcv := hv.cell
    have hszB := hB.size
    gi_wp2_with (gi_at_builtin; refine wpListIn_append_own _ rfl _ _ 34 rfl w.heap.size 3 i0 (.int .i64 0) 1 8 Tryz.underlying34 hi hz0 hz1 hz2 rfl (by decide) _ _ _ rfl (hrow.alloc _) ⟨W.heap.size, 0, none⟩ 1 1 [.int .i64 x] rfl rfl (cell_one_new _ _ _) (by simp [Value.oneCell']) (by unfold maxLen; omega) (by omega) (by simp; omega) ?_; intro v' w1 hown' hgrow _; obtain ⟨g', cap', rfl⟩ := ownsRow_succ hown'; obtain ⟨hv1, hv2, hr2, hk2, hb2⟩ := hv.appended (by decide) hrow hB.size (Nat.le_refl _) hown' hgrow; have hc1 := hv1.cell; have hf1 := hv1.frozen)
    exact ⟨hk2.from _, ⟨hb2, fun u hu => (Below.heap_setCell _ _ _ _ (by show w.heap.size + 1 ≠ w.heap.size; omega)).trans ((hu.alloc _).kept hgrow (hu.not_row (by decide) hrow))⟩, ⟨_, hv2, by simpa [mI] using hr2, trivial⟩, hB.trans hb2⟩
  case done =>
    rintro D ys W hD hys ⟨⟨v, hv, hrow, -⟩, hB⟩ hK
    have hyl : ys.length ≤ 1048576 := by rw [hys, tris_len]; omega
    have Hys := hide hys
    clear hys
    have hcv := hv.cell
    have hne : some D ≠ v.ownBlock := fun e => by
      rcases hrow.2 with ⟨rfl, _⟩ | ⟨g, cap, cur, rfl, _, hgb, _⟩
      · cases e
      · obtain rfl : D = g := by simpa [Value.ownBlock] using e
        rw [hgb] at hK
        cases hK
    have hDl : D < W.heap.size := (Array.getElem?_eq_some_iff.1 hK).1
    have Hrow := hide hrow
    obtain ⟨oa, oc, rfl⟩ := own_is hrow
    clear hrow
    gi_wp2_with fail
    refine ⟨trivial, ?_⟩
    refine (callsIn_wide.2 (ascending_any w.heap.size _ _ _ (unhide Hrow) hB.size (by omega))).mono ?_
    rintro e w2 ⟨v2, zs, rfl, ho, hle, hown2, hb2, hg2⟩
    have hK2 : w2.heap[D]? = some (.deferred (some [])) := (hg2.block D hDl hne).trans hK
    have Hown2 := hide hown2
    obtain ⟨pa, pc, rfl⟩ := own_is hown2
    clear hown2
    gi_wp2
    refine ⟨by simp, .inl ⟨_, _, rfl, run_takeDeferred hK2, ?_⟩⟩
    refine ⟨_, results_tmp rfl _ _ _, ⟨_, zs, rfl, by rw [← unhide Hys]; exact ho, by rw [← unhide Hys]; exact hle, ?_⟩, ?_⟩
    · exact own_slw (ownsRow_putObj (unhide Hown2) _ hK2 rfl) (Nat.le_refl _) (by unfold maxLen; omega)
    · exact (hB.trans hb2).trans (belowK_b (w := w) (Nat.le_refl _) w2 D _ _ (by simp at hD; omega) hK2 rfl rfl)
  case stop =>
    rintro D c pre W _ _ h _
    exact h.elim
set_option maxHeartbeats 1000000 in
theorem implTri_any (sv : Value) (bs : List Int) (w : World) (hv : SlAt mB 0 0 w.heap.size w sv bs) (hbb : ∀ i : Nat, 0 ≤ bs[i]?.getD 0 ∧ bs[i]?.getD 0 ≤ 255) (hl : bs.length ≤ 1048576) :
    Calls Tryz.prog 8 #[sv] w fun e w' => OrdRet e w w' (tris bs (bs.length - 2)) ∧ Below w.heap.size w w' := by
  have Hv := hide hv
  obtain ⟨a, cap, rfl, hml, hc⟩ := hv
  clear hc
  go_enter Tryz.func8, Tryz.ntmps8
  go_wp2_with fail
  refine (numbersOf_any _ bs _ (unhide Hv) hbb hl).mono ?_
  rintro e w1 ⟨⟨v1, ys, rfl, h1, h2, h3⟩, hb1⟩
  have H3 := hide h3
  obtain ⟨_, _, rfl, -⟩ := h3
  go_wp2_with fail
  go_ret
  exact ⟨⟨_, ys, rfl, h1, h2, unhide H3⟩, hb1⟩
open Go.ChangeShapes Go.WideShapes Go.ChangeAt Go.RowKit
theorem Tryz.own : ownKnob Tryz.prog.godebug = none := by kernel_rfl
theorem Tryz.laidOut : laidOutB Tryz.prog = true := by kernel_rfl
theorem Tryz.cells5 : Tryz.prog.cellsOf 5 = 1 := by kernel_rfl
theorem IntsAt.sl {lo n : Nat} {w : World} {v : Value} {xs : List Int} (h : IntsAt lo n w v xs) : SlAt mI 0 lo n w v xs ∧ ∀ i : Nat, In64 (xs[i]?.getD 0) := by
  obtain ⟨a, cap, rfl, hl, hr, hc⟩ := h
  exact ⟨⟨a, cap, rfl, hl, hc⟩, hr⟩
section
variable {H : Type} {enc : TypeId × Value → H} {W : World}
theorem bytes_of {n : Nat} {v : Value} {y : DataW H × List MemPlace} (h : DataW.trod enc Tryz.prog W 0 (fun _ => true) true n 22 [v] = some y) : ∃ bs, SlAt mB 0 0 W.heap.size W v bs ∧ Bytes bs := by
  rcases open_ints Tryz.underlying22 Tryz.underlying5 Tryz.cells5 h with ⟨hcs, -⟩ | ⟨a, len, cap, zs, hcs, -, hl, hm, hz, -, hcell, hwz⟩
  · simp only [List.cons.injEq, and_true] at hcs
    subst hcs
    exact ⟨[], ⟨none, 0, rfl, by simp, by simp⟩, by intro i; simp⟩
  · simp only [List.cons.injEq, and_true] at hcs
    subst hcs
    simp only [if_true] at hz
    have hlen : (zs.take len).length = len := by rw [List.length_take]; omega
    refine ⟨zs.take len, ⟨some a, cap, by rw [hlen], by omega, fun hp => ?_⟩, fun i => ?_⟩
    · obtain ⟨b, off, rfl, hc⟩ := ints_at hcell (by omega)
      refine ⟨b, off, rfl, Nat.zero_le _, World.block_lt_of_cell? _ _ (hc 0 (by omega)), fun i hi => ?_⟩
      rw [hlen] at hi
      rw [hc i (by omega), List.getElem?_take_of_lt hi]
      rfl
    · by_cases hi : i < (zs.take len).length
      · rw [List.getElem?_eq_getElem hi]
        have := hwz _ (List.mem_of_mem_take (List.getElem_mem hi))
        simpa [Lit.wf, IntKind.min, IntKind.max, IntKind.signed, IntKind.bits] using this
      · rw [List.getElem?_eq_none (by omega)]
        simp
end
section
variable {H : Type} {enc : TypeId × Value → H} {W : World}
end
section
variable {H : Type} {enc : TypeId × Value → H} {W : World}
theorem bytes_cap {n : Nat} {v : Value} {y : DataW H × List MemPlace} (h : DataW.trod enc Tryz.prog W 0 (fun _ => true) true n 22 [v] = some y) : ∃ xs, SlAt mB 0 0 W.heap.size W v xs ∧ CapOk v ∧ Bytes xs := by
  obtain ⟨xs, h1, h2⟩ := bytes_of h
  refine ⟨xs, h1, ?_, h2⟩
  rcases open_ints Tryz.underlying22 Tryz.underlying5 Tryz.cells5 h with ⟨hcs, -⟩ | ⟨a, len, cap, zs, hcs, -, hl, hm, -⟩
  · simp only [List.cons.injEq, and_true] at hcs
    subst hcs
    exact CapOk.mk (Nat.le_refl _) (Nat.zero_le _)
  · simp only [List.cons.injEq, and_true] at hcs
    subst hcs
    exact CapOk.mk hl hm
end
end Go.Proofs.YtinhliecfjlocaaGreat
