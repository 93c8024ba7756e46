import Derived.Test.YtpkghafpelilfaaEn2
import Derived.Test.YtpkghafpelilfaaK1
import Derived.ArgAppend
namespace Go.Proofs.Ytpkghafpelilfaa
open Go.RowKit

theorem grownBy_refl (w : World) (r : Option Nat) : w.grownBy w r := ⟨rfl, rfl, rfl, Nat.le_refl _, fun _ _ _ => rfl⟩

/-- A whole list of bytes behind a row of one's own, and what else is as it was. -/
theorem app_moreG {w : World} {ops : Array Oper} {rest : List Oper} {o : Oper} {a : Act} {Q : Exit → Act → World → Prop} (hgd : o.guard = none) (s x : Operand)
    (ho : o.op = .call { callee := .builtin .append, args := #[s, x], argTypes := #[28, 28] }) (base : Nat) (ov : Value) (hs : a.eval s = ov) (os : List Int) (hown : w.ownsRow base 5 1 ov os.length (os.map mB)) (hbase : base ≤ w.heap.size)
    (sv : Value) (hx : a.eval x = sv) (xs : List Int) (hv : SlAt mB 0 0 w.heap.size w sv xs) (hlen : os.length + xs.length ≤ 1073741824)
    (h : ∀ v' w', w.grownBy w' ov.ownBlock → w'.ownsRow base 5 1 v' (os ++ xs).length ((os ++ xs).map mB) → v'.oneCell' = true → wpList Try.prog ops Q rest (a.put o.dst v') w') : wpList Try.prog ops Q (o :: rest) a w := by
  obtain ⟨i0, hi, hz0, hz1, hz2⟩ := info_parts Try.zinByte
  obtain ⟨sa, sc, rfl, hl, hc⟩ := hv
  cases sa with
  | none =>
    have h0 : xs.length = 0 := by
      by_cases q : 0 < xs.length
      · obtain ⟨b, off, e, -⟩ := hc q; simp at e
      · omega
    rw [h0] at hx
    refine wpList_append_none_c hgd s x 28 ho base 5 i0 1 Try.underlying28 hi _ os.length (os.map mB) hs hown sc hx (h _ w (grownBy_refl _ _) (by rw [List.eq_nil_of_length_eq_zero h0, List.append_nil]; exact hown) ?_)
    obtain ⟨oa, oc, rfl⟩ := own_is hown
    rfl
  | some ad =>
    refine wpList_append_own_at w hgd s x 28 ho base 5 i0 (.int .u8 0) 1 1 Try.underlying28 hi hz0 hz1 hz2 rfl (by decide) _ os.length (os.map mB) hs hown ad xs.length sc (xs.map mB) hx (by simp) ?_ ?_ (by unfold maxLen; omega) (by omega) hbase ?_
    · intro j u hu
      have hj : j < xs.length := by
        have := (List.getElem?_eq_some_iff.1 hu).1
        simpa using this
      obtain ⟨b, off, e, -, -, hcell⟩ := hc (by omega)
      simp only [Option.some.injEq] at e
      subst e
      rw [List.getElem?_map, getD_of_lt hj] at hu
      simp only [Option.map_some, Option.some.injEq] at hu
      subst hu
      have e3 : (⟨b, off, none⟩ : Addr).add j = ⟨b, off + j, none⟩ := by cases j <;> rfl
      rw [e3]
      exact hcell j hj
    · intro u hu
      obtain ⟨y, -, rfl⟩ := List.mem_map.1 hu
      rfl
    · intro v' w' h1 hg _ _
      have h2 : w'.ownsRow base 5 1 v' (os ++ xs).length ((os ++ xs).map mB) := by rw [List.length_append, List.map_append]; exact h1
      obtain ⟨oa, oc, rfl⟩ := own_is h2
      exact h _ w' hg h2 rfl

/-- ov is os: a row of one's own, or a whole one of which nothing more can be used. -/
def OwnC (lo : Nat) (w : World) (ov : Value) (os : List Int) : Prop := w.ownsRow lo 5 1 ov os.length (os.map mB) ∨ ∃ (g : Nat) (cur : Array Value) (fz : Nat × Nat), ov = .slice (some ⟨g, 0, none⟩) os.length os.length ∧ lo ≤ g ∧ w.heap[g]? = some (.cells cur 5 fz) ∧ cur.toList = os.map mB
theorem OwnC.is {lo : Nat} {w : World} {ov : Value} {os : List Int} (h : OwnC lo w ov os) : ∃ oa oc, ov = .slice oa os.length oc := by
  rcases h with h | ⟨g, cur, fz, e, -⟩
  · exact own_is h
  · exact ⟨_, _, e⟩
theorem OwnC.blk {lo : Nat} {w : World} {ov : Value} {os : List Int} (h : OwnC lo w ov os) : ∀ k, ov.ownBlock = some k → lo ≤ k ∧ ∃ c fz, w.heap[k]? = some (.cells c 5 fz) := by
  intro k hk
  rcases h with h | ⟨g, cur, fz, rfl, h1, h2, -⟩
  · rcases h.2 with ⟨rfl, _⟩ | ⟨g, cap, cur, rfl, hb, hg, _⟩
    · simp [Value.ownBlock] at hk
    · obtain rfl : g = k := by simpa [Value.ownBlock] using hk
      exact ⟨hb, cur, _, hg⟩
  · obtain rfl : g = k := by simpa [Value.ownBlock] using hk
    exact ⟨h1, cur, fz, h2⟩
theorem OwnC.alloc {lo : Nat} {w : World} {ov : Value} {os : List Int} (h : OwnC lo w ov os) (o : Obj) : OwnC lo (w.alloc o) ov os := by
  rcases h with h | ⟨g, cur, fz, e, h1, h2, h3⟩
  · exact Or.inl (h.alloc o)
  · refine Or.inr ⟨g, cur, fz, e, h1, ?_, h3⟩
    rw [(below1 w o).block g (Array.getElem?_eq_some_iff.1 h2).1]
    exact h2
theorem grownBy_any {w w' : World} (h : w.grownBy w' none) (r : Option Nat) : w.grownBy w' r := ⟨h.os, h.tape, h.output, h.size, fun k hk _ => h.block k hk (by simp)⟩

/-- A byte behind such a row. -/
theorem app_oneC {w : World} {ops : Array Oper} {rest : List Oper} {o : Oper} {a : Act} {Q : Exit → Act → World → Prop} (hgd : o.guard = none) (s x : Operand)
    (ho : o.op = .call { callee := .builtin .append, args := #[s, x], argTypes := #[28, 28] }) (base : Nat) (ov : Value) (hs : a.eval s = ov) (os : List Int) (hown : OwnC base w ov os) (hbase : base ≤ w.heap.size)
    (b c : Nat) (hx : a.eval x = .slice (some ⟨b, 0, none⟩) 1 c) (y : Int) (hy : w.cell? ⟨b, 0, none⟩ = some (mB y)) (hlen : os.length + 1 ≤ 1073741824)
    (h : ∀ v' w', w.grownBy w' ov.ownBlock → w'.ownsRow base 5 1 v' (os ++ [y]).length ((os ++ [y]).map mB) → wpList Try.prog ops Q rest (a.put o.dst v') w') : wpList Try.prog ops Q (o :: rest) a w := by
  obtain ⟨i0, hi, hz0, hz1, hz2⟩ := info_parts Try.zinByte
  have hnews : ∀ (j : Nat) (u : Value), [mB y][j]? = some u → w.cell? ((⟨b, 0, none⟩ : Addr).add j) = some u := cell_1 hy
  have hone : ∀ u ∈ [mB y], u.oneCell' = true := fun u hu => by simp at hu; subst hu; rfl
  have e1 : (os ++ [y]).length = os.length + 1 := by simp
  rcases hown with hown | ⟨g, cur, fz, rfl, h1, h2, h3⟩
  · refine wpList_append_own_at w hgd s x 28 ho base 5 i0 (.int .u8 0) 1 1 Try.underlying28 hi hz0 hz1 hz2 rfl (by decide) _ os.length (os.map mB) hs hown ⟨b, 0, none⟩ 1 c [mB y] hx rfl hnews hone (by unfold maxLen; omega) (by omega) hbase ?_
    intro v' w' h1 hg _ _
    exact h v' w' hg (by rw [e1, List.map_append]; exact h1)
  · have hcl : cur.size = os.length := by have := congrArg List.length h3; simpa using this
    refine wpList_append_grows w hgd s x 28 ho 5 i0 (.int .u8 0) 1 1 Try.underlying28 hi hz0 hz1 hz2 rfl (by decide) (some ⟨g, 0, none⟩) os.length os.length (os.map mB) hs (fun e => by cases e) (by simp) ?_ ⟨b, 0, none⟩ 1 c [mB y] hx rfl hnews hone (by omega) (by unfold maxLen; omega) (by omega) ?_
    · intro bb eb j u hu
      cases eb
      have e3 : (⟨g, 0, none⟩ : Addr).add j = ⟨g, j, none⟩ := by cases j <;> simp [Addr.add]
      rw [e3]
      simp only [World.cell?, h2]
      rw [← h3] at hu
      simpa using hu
    · intro v' w' h4 h5
      refine h v' w' (grownBy_any h5 _) ?_
      rw [e1, List.map_append]
      exact own_low h4 hbase

/-- The encoder in the box B has gathered os. -/
def EncAt (lo B : Nat) (w : World) (os : List Int) : Prop := lo ≤ B ∧ ∃ ov, Boxed w B 64 ov ∧ w.ownsRow lo 5 1 ov os.length (os.map mB)
/-- The same, ahead of the first byte that is put. -/
def EncAny (lo B : Nat) (w : World) (os : List Int) : Prop := lo ≤ B ∧ ∃ ov, Boxed w B 64 ov ∧ OwnC lo w ov os
theorem EncAt.any {lo B : Nat} {w : World} {os : List Int} (h : EncAt lo B w os) : EncAny lo B w os := by
  obtain ⟨hB, ov, h1, h2⟩ := h
  exact ⟨hB, ov, h1, Or.inl h2⟩
/-- Lists that aren't the encoder's are as they were. -/
def Keep (t : TypeId) (w w' : World) : Prop := ∀ (k : Nat) (c : Array Value), w.heap[k]? = some (Obj.cells c t (0, 0)) → w'.heap[k]? = w.heap[k]?
theorem Keep.refl (t : TypeId) (w : World) : Keep t w w := fun _ _ _ => rfl
theorem Keep.trans {t : TypeId} {a b c : World} (h : Keep t a b) (k : Keep t b c) : Keep t a c := fun i x hx => (k i x ((h i x hx).trans hx)).trans (h i x hx)

/-- The bytes xs, which lie in V, behind those of the encoder. -/
theorem enc_app {lo B : Nat} {t : TypeId} {w V w3 : World} {ov v3 : Value} {os : List Int} {zs : List Int} (hB : lo ≤ B) (hbx : Boxed w B 64 ov) (hown : OwnC lo w ov os) (hV : w.grownBy V none)
    (hg : V.grownBy w3 ov.ownBlock) (h3 : w3.ownsRow lo 5 1 v3 zs.length (zs.map mB)) (t1 : t ≠ 5) (t2 : t ≠ 64) :
    Boxed w3 B 64 ov ∧ EncAt lo B (w3.setCell ⟨B, 0, none⟩ v3) zs ∧ Below lo w (w3.setCell ⟨B, 0, none⟩ v3) ∧ Keep t w (w3.setCell ⟨B, 0, none⟩ v3) := by
  have hbV : Boxed V B 64 ov := hbx.kept hV (by simp)
  have hnr : some B ≠ ov.ownBlock := fun e => by
    obtain ⟨-, c, fz, hc⟩ := hown.blk B e.symm
    rw [show w.heap[B]? = _ from hbx] at hc
    simp at hc
  have hb3 : Boxed w3 B 64 ov := hbV.kept hg hnr
  have hBl := hbx.lt
  refine ⟨hb3, ⟨hB, v3, hb3.set v3, h3.kept (grownBy_setCell' w3 B v3) (.inr (hb3.not_row (by decide) h3).symm)⟩, ?_, ?_⟩
  · have b1 : Below lo w V := ⟨hV.os, hV.tape, hV.output, hV.size, fun k hk => hV.block k (by omega) (by simp)⟩
    have b2 : Below lo w w3 := b1.grown hg (by have := hV.size; omega) (fun j ej => (hown.blk j ej).1)
    exact bput b2 hB v3
  · intro k c hk
    have hkl : k < w.heap.size := (Array.getElem?_eq_some_iff.1 hk).1
    have e1 : V.heap[k]? = w.heap[k]? := hV.block k hkl (by simp)
    have hne : some k ≠ ov.ownBlock := fun e => by
      obtain ⟨-, c', fz, hc⟩ := hown.blk k e.symm
      rw [hk] at hc
      simp at hc
      exact t1 hc.2.1
    have e2 : w3.heap[k]? = V.heap[k]? := hg.block k (Nat.lt_of_lt_of_le hkl hV.size) hne
    have hkB : k ≠ B := fun e => by
      subst e
      rw [show w.heap[k]? = _ from hbx] at hk
      simp at hk
      exact t2 hk.2.symm
    rw [Below.heap_setCell _ _ _ _ (by exact hkB), e2, e1]

theorem app1_len (ts : List Int) (x : Int) : (ts ++ [x]).length = ts.length + 1 := by simp
theorem lit_cell (w : World) (x : Int) : (w.alloc (.cells #[.int .u8 x] 5)).cell? ⟨w.heap.size, 0, none⟩ = some (mB x) := (Boxed.new w 5 (.int .u8 x)).cell

theorem or128 (n : Int) : bits .or .u8 (n % 256) 128 = n % 128 + 128 := by
  have e0 : ∀ x : Fin 256, (BitVec.ofNat 8 x.val ||| 128#8).toNat = x.val % 128 + 128 := by decide +kernel
  have e1 : (BitVec.ofInt 8 (n % 256)) = BitVec.ofNat 8 (n % 256).toNat := by
    apply BitVec.eq_of_toNat_eq
    rw [BitVec.toNat_ofInt, BitVec.toNat_ofNat]
    omega
  have e2 := e0 ⟨(n % 256).toNat, by omega⟩
  show IntKind.u8.wrap ((BitVec.ofInt 8 (n % 256) ||| BitVec.ofInt 8 128).toNat : Int) = n % 128 + 128
  rw [e1, show BitVec.ofInt 8 128 = 128#8 from rfl, e2]
  show ((n % 256).toNat % 128 + 128 : Nat) % (256 : Int) = _
  omega

theorem vis_len : ∀ ns : List Int, (∀ x ∈ ns, x ≤ 9223372036854775807) → (ns.flatMap vi).length ≤ 9 * ns.length
  | [], _ => by simp
  | x :: r, h => by
    have h1 := vis_len r (fun y hy => h y (List.mem_cons_of_mem _ hy))
    have h2 := vi_len9 (h x (List.mem_cons_self ..))
    simp only [List.flatMap_cons, List.length_append, List.length_cons]
    omega
theorem flat_vi {ns : List Int} {k : Nat} (h : k < ns.length) : (ns.take (k + 1)).flatMap vi = (ns.take k).flatMap vi ++ vi (ns[k]?.getD 0) := by
  rw [List.take_add_one, List.flatMap_append, List.getElem?_eq_getElem h]
  simp
theorem in64_mem {ns : List Int} (h : ∀ i : Nat, In64 (ns[i]?.getD 0)) : ∀ x ∈ ns, x ≤ 9223372036854775807 := fun x hx => by
  obtain ⟨i, hi, rfl⟩ := List.getElem_of_mem hx
  have := (h i).2
  rw [List.getElem?_eq_getElem hi] at this
  exact this

set_option maxHeartbeats 4000000 in
set_option maxRecDepth 100000 in
theorem putVarints_any (lo B nb : Nat) (ns : List Int) (os : List Int) (w : World) (he : EncAny lo B w os) (hlo : lo ≤ w.heap.size) (hn : w.rowIs nb 3 ns.length (fun i => mI (ns[i]?.getD 0))) (h64 : ∀ i : Nat, In64 (ns[i]?.getD 0)) (hl : ns.length ≤ 16) (hl0 : 0 < ns.length) (hos : os.length ≤ 536870912) :
    Calls Try.prog 50 #[.pointer (some ⟨B, 0, none⟩), .slice (some ⟨nb, 0, none⟩) ns.length ns.length] w fun e w' => (∃ v, e = .returned v) ∧ EncAt lo B w' (os ++ ns.flatMap vi) ∧ Below lo w w' ∧ Keep 3 w w' := by
  have HE := hide he
  have HN := hide hn
  have H64 := hide h64
  clear he hn h64
  go_enter Try.func50, Try.ntmps50
  go_wp2_with fail
  go_loopw [8] (fun iv wr => ∃ k : Nat, k ≤ ns.length ∧ iv = .int .i64 k ∧ EncAny lo B wr (os ++ (ns.take k).flatMap vi) ∧ (0 < k → EncAt lo B wr (os ++ (ns.take k).flatMap vi)) ∧ Below lo w wr ∧ Keep 3 w wr) (fun iv _ => ns.length - (intOf iv).toNat)
  case atStart => exact ⟨0, Nat.zero_le _, rfl, by simpa using unhide HE, fun h => absurd h (Nat.lt_irrefl _), Below.refl _ _, Keep.refl _ _⟩
  case round =>
    obtain ⟨k, hk, rfl, henc, hat, hb, hkp⟩ := hrel
    have hz := hb.size
    by_cases hlt : k < ns.length
    · have hlt' : (k : Int) < (ns.length : Int) := by omega
      have hrow : wr.rowIs nb 3 ns.length (fun i => mI (ns[i]?.getD 0)) := by
        obtain ⟨c, hc, hr⟩ := unhide HN
        exact (unhide HN).of_block (hkp nb c hc)
      have hx := hrow.cell hlt
      unfold mI at hx
      have h64 := unhide H64 k
      have Hfl := hide (flat_vi hlt)
      have hln : ((ns.take k).flatMap vi).length ≤ 9 * 16 := by
        have h1 := vis_len (ns.take k) (fun x hx => in64_mem (unhide H64) x (List.mem_of_mem_take hx))
        rw [List.length_take] at h1
        omega
      have hln2 := vi_len9 h64.2
      have Henc := hide henc
      have Hkp := hide hkp
      clear hrow henc hkp hat
      generalize ns[k]?.getD 0 = n at *
      generalize (ns.take k).flatMap vi = gs at *
      obtain ⟨VV, hVV⟩ : ∃ VV, VV = wr := ⟨_, rfl⟩
      rw [← hVV] at hb hz Henc Hkp hx ⊢
      clear hVV
      go_wp2_with fail
      go_loopw [5] (fun nv wr => ∃ (m : Int) (ds : List Int), nv = .int .i64 m ∧ vi n = ds ++ vi m ∧ EncAny lo B wr (os ++ gs ++ ds) ∧ Below lo w wr ∧ Keep 3 w wr ∧ m ≤ 9223372036854775807 ∧ -9223372036854775808 ≤ m) (fun nv _ => (intOf nv).toNat)
      case atStart => exact ⟨n, [], rfl, rfl, by simpa using unhide Henc, hb, unhide Hkp, h64.2, h64.1⟩
      case round =>
        obtain ⟨m, ds, rfl, hds, henc, hb2, hkp2, hm1, hm0⟩ := hrel
        have hz2 := hb2.size
        have Hds := hide hds
        have hdl : ds.length ≤ 9 := by have := congrArg List.length hds; rw [List.length_append] at this; omega
        obtain ⟨hB, ov, hbx, hown⟩ := henc
        have Hbx := hide hbx
        have Hown := hide hown
        have Hkp2 := hide hkp2
        have c0 := hbx.cell
        have z0 := hbx.frozen
        obtain ⟨oa, oc, rfl⟩ := hown.is
        clear hbx hown hds hkp2
        have hol : (os ++ gs ++ ds).length + 1 ≤ 1073741824 := by simp only [List.length_append]; omega
        obtain ⟨ts, hts⟩ : ∃ ts, ts = os ++ gs ++ ds := ⟨_, rfl⟩
        rw [← hts] at Hown Hbx hol c0
        have Hts := hide hts
        clear hts
        by_cases hm : m < 128
        · have hm' : ¬ (128 : Int) ≤ m := by omega
          have HV := hide (vi_lo hm)
          go_wp2_with (at_builtin; refine app_oneC rfl _ _ rfl lo _ rfl ts (by exact (unhide Hown).alloc _) (by rw [sz_alloc]; omega) _ 1 rfl (m % 256) (by exact lit_cell _ _) hol ?_; intro v3 w3 hg3 ho3; obtain ⟨hb3, henc3, hbel3, hkeep3⟩ := enc_app (t := 3) hB (unhide Hbx) (unhide Hown) (World.grownBy_alloc _ _ _) hg3 ho3 (by decide) (by decide); have c3 := hb3.cell; have z3 := hb3.frozen; have He3 := hide henc3; have Hk3 := hide hkeep3; rw [app1_len] at ho3; obtain ⟨oa3, oc3, rfl⟩ := own_is ho3; clear hg3 ho3 hb3 henc3 hkeep3)
          have e2 : os ++ (ns.take (k + 1)).flatMap vi = ts ++ [m % 256] := by rw [unhide Hfl, unhide Hds, unhide HV, unhide Hts]; simp
          exact ⟨⟨k + 1, by omega, by go_num, by rw [e2]; exact (unhide He3).any, fun _ => by rw [e2]; exact unhide He3, hb2.trans hbel3, (unhide Hkp2).trans (unhide Hk3)⟩, by simp [intOf]; omega⟩
        · have hm' : (128 : Int) ≤ m := by omega
          have e1 := or128 m
          have HV := hide (vi_hi hm)
          go_wp2_with (at_builtin; refine app_oneC rfl _ _ rfl lo _ rfl ts (by exact (unhide Hown).alloc _) (by rw [sz_alloc]; omega) _ 1 rfl (m % 128 + 128) (by exact lit_cell _ _) hol ?_; intro v3 w3 hg3 ho3; obtain ⟨hb3, henc3, hbel3, hkeep3⟩ := enc_app (t := 3) hB (unhide Hbx) (unhide Hown) (World.grownBy_alloc _ _ _) hg3 ho3 (by decide) (by decide); have c3 := hb3.cell; have z3 := hb3.frozen; have He3 := hide henc3; have Hk3 := hide hkeep3; rw [app1_len] at ho3; obtain ⟨oa3, oc3, rfl⟩ := own_is ho3; clear hg3 ho3 hb3 henc3 hkeep3)
          have e2 : ts ++ [m % 128 + 128] = os ++ gs ++ (ds ++ [m % 128 + 128]) := by rw [unhide Hts]; simp
          refine ⟨⟨m / 128, ds ++ [m % 128 + 128], rfl, by rw [unhide Hds, unhide HV]; simp, by rw [← e2]; exact (unhide He3).any, hb2.trans hbel3, (unhide Hkp2).trans (unhide Hk3), by omega, by omega⟩, by simp [intOf]; omega⟩
    · obtain rfl : k = ns.length := by omega
      have henc := hat hl0
      rw [List.take_length] at henc
      go_wp2
      go_end0
      exact ⟨⟨_, rfl⟩, henc, hb, hkp⟩

end Go.Proofs.Ytpkghafpelilfaa
