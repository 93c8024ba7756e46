import Derived.Test.YtmhafibngbojcaaDoorP9
import Derived.Deep.RegionLaw
namespace Go.Proofs.YtmhafibngbojcaaDoor
open Go.RowKit

theorem tp_ee (x : Value) (w : World) : Sem.run Tryd.prog (Instr.typeAssert (.iface 64 x) 42 64 true) w = .ok (.tuple #[x, .bool true]) w := by kernel_rfl
theorem tp_es (x : Value) (w : World) : Sem.run Tryd.prog (Instr.typeAssert (.iface 64 x) 42 69 true) w = .ok (.tuple #[.agg #[.int .u64 0, .int .u64 0, .int .u64 0, .int .u64 0], .bool false]) w := by kernel_rfl
theorem tp_ec (x : Value) (w : World) : Sem.run Tryd.prog (Instr.typeAssert (.iface 64 x) 42 72 true) w = .ok (.tuple #[.agg #[.nilIface, .nilIface], .bool false]) w := by kernel_rfl
theorem tp_ea (x : Value) (w : World) : Sem.run Tryd.prog (Instr.typeAssert (.iface 64 x) 42 74 true) w = .ok (.tuple #[.agg #[.nilIface, .nilIface], .bool false]) w := by kernel_rfl
theorem tp_er (x : Value) (w : World) : Sem.run Tryd.prog (Instr.typeAssert (.iface 64 x) 42 76 true) w = .ok (.tuple #[.agg #[.nilIface, .int .i64 0, .int .i64 0], .bool false]) w := by kernel_rfl
theorem tp_se (x : Value) (w : World) : Sem.run Tryd.prog (Instr.typeAssert (.iface 69 x) 42 64 true) w = .ok (.tuple #[.agg #[], .bool false]) w := by kernel_rfl
theorem tp_ss (x : Value) (w : World) : Sem.run Tryd.prog (Instr.typeAssert (.iface 69 x) 42 69 true) w = .ok (.tuple #[x, .bool true]) w := by kernel_rfl
theorem tp_sc (x : Value) (w : World) : Sem.run Tryd.prog (Instr.typeAssert (.iface 69 x) 42 72 true) w = .ok (.tuple #[.agg #[.nilIface, .nilIface], .bool false]) w := by kernel_rfl
theorem tp_sa (x : Value) (w : World) : Sem.run Tryd.prog (Instr.typeAssert (.iface 69 x) 42 74 true) w = .ok (.tuple #[.agg #[.nilIface, .nilIface], .bool false]) w := by kernel_rfl
theorem tp_sr (x : Value) (w : World) : Sem.run Tryd.prog (Instr.typeAssert (.iface 69 x) 42 76 true) w = .ok (.tuple #[.agg #[.nilIface, .int .i64 0, .int .i64 0], .bool false]) w := by kernel_rfl
theorem tp_ce (x : Value) (w : World) : Sem.run Tryd.prog (Instr.typeAssert (.iface 72 x) 42 64 true) w = .ok (.tuple #[.agg #[], .bool false]) w := by kernel_rfl
theorem tp_cs (x : Value) (w : World) : Sem.run Tryd.prog (Instr.typeAssert (.iface 72 x) 42 69 true) w = .ok (.tuple #[.agg #[.int .u64 0, .int .u64 0, .int .u64 0, .int .u64 0], .bool false]) w := by kernel_rfl
theorem tp_cc (x : Value) (w : World) : Sem.run Tryd.prog (Instr.typeAssert (.iface 72 x) 42 72 true) w = .ok (.tuple #[x, .bool true]) w := by kernel_rfl
theorem tp_ca (x : Value) (w : World) : Sem.run Tryd.prog (Instr.typeAssert (.iface 72 x) 42 74 true) w = .ok (.tuple #[.agg #[.nilIface, .nilIface], .bool false]) w := by kernel_rfl
theorem tp_cr (x : Value) (w : World) : Sem.run Tryd.prog (Instr.typeAssert (.iface 72 x) 42 76 true) w = .ok (.tuple #[.agg #[.nilIface, .int .i64 0, .int .i64 0], .bool false]) w := by kernel_rfl
theorem tp_ae (x : Value) (w : World) : Sem.run Tryd.prog (Instr.typeAssert (.iface 74 x) 42 64 true) w = .ok (.tuple #[.agg #[], .bool false]) w := by kernel_rfl
theorem tp_as (x : Value) (w : World) : Sem.run Tryd.prog (Instr.typeAssert (.iface 74 x) 42 69 true) w = .ok (.tuple #[.agg #[.int .u64 0, .int .u64 0, .int .u64 0, .int .u64 0], .bool false]) w := by kernel_rfl
theorem tp_ac (x : Value) (w : World) : Sem.run Tryd.prog (Instr.typeAssert (.iface 74 x) 42 72 true) w = .ok (.tuple #[.agg #[.nilIface, .nilIface], .bool false]) w := by kernel_rfl
theorem tp_aa (x : Value) (w : World) : Sem.run Tryd.prog (Instr.typeAssert (.iface 74 x) 42 74 true) w = .ok (.tuple #[x, .bool true]) w := by kernel_rfl
theorem tp_ar (x : Value) (w : World) : Sem.run Tryd.prog (Instr.typeAssert (.iface 74 x) 42 76 true) w = .ok (.tuple #[.agg #[.nilIface, .int .i64 0, .int .i64 0], .bool false]) w := by kernel_rfl
theorem tp_re (x : Value) (w : World) : Sem.run Tryd.prog (Instr.typeAssert (.iface 76 x) 42 64 true) w = .ok (.tuple #[.agg #[], .bool false]) w := by kernel_rfl
theorem tp_rs (x : Value) (w : World) : Sem.run Tryd.prog (Instr.typeAssert (.iface 76 x) 42 69 true) w = .ok (.tuple #[.agg #[.int .u64 0, .int .u64 0, .int .u64 0, .int .u64 0], .bool false]) w := by kernel_rfl
theorem tp_rc (x : Value) (w : World) : Sem.run Tryd.prog (Instr.typeAssert (.iface 76 x) 42 72 true) w = .ok (.tuple #[.agg #[.nilIface, .nilIface], .bool false]) w := by kernel_rfl
theorem tp_ra (x : Value) (w : World) : Sem.run Tryd.prog (Instr.typeAssert (.iface 76 x) 42 74 true) w = .ok (.tuple #[.agg #[.nilIface, .nilIface], .bool false]) w := by kernel_rfl
theorem tp_rr (x : Value) (w : World) : Sem.run Tryd.prog (Instr.typeAssert (.iface 76 x) 42 76 true) w = .ok (.tuple #[x, .bool true]) w := by kernel_rfl

/-- How tightly the text of a node of this kind holds together. -/
def tgt (k : Int) : Int := if k = 3 then 0 else if k = 2 then 1 else if k = 4 then 2 else 3
/-- What the program writes at a node. -/
def TxV (u : Value) (t : Tx) : Prop := (∃ T x, u = .iface T x) ∧ (∀ w, Calls Tryd.prog 54 #[u] w fun e w' => e = .returned (.int .i64 (tgt t.1)) ∧ w' = w) ∧ AppK 18 (fun v => #[v, u]) t.2

theorem box_bk {base : Nat} {w w1 : World} {o : Obj} (h : BK base (w.alloc o) w1) (ho : ∀ c fz, o ≠ .cells c 5 fz) : w1.heap[w.heap.size]? = some o := h.o w.heap.size o (World.alloc_heap_new w o) (by simp) ho
theorem cell_blk {w1 : World} {b i : Nat} {c : Array Value} {t : TypeId} {v : Value} (h : w1.heap[b]? = some (.cells c t)) (hi : c[i]? = some v) : w1.cell? ⟨b, i, none⟩ = some v := by simp [World.cell?, h, hi]

set_option maxHeartbeats 2000000 in
set_option maxRecDepth 100000 in
theorem appendOperand_any {u : Value} {t : Tx} (h : TxV u t) (least : Int) : AppK 32 (fun v => #[v, u, .int .i64 least]) (grp (tgt t.1 < least) t.2) := by
  intro base ov os w hown hbase htb hlen
  obtain ⟨⟨T0, x0, rfl⟩, ht, ha⟩ := h
  have Hown := hide hown
  have Htb := hide htb
  obtain ⟨oa, oc, rfl⟩ := own_is hown
  have HA := hide ha
  have HT := hide (ht w)
  have HLen := hide hlen
  have hl : os.length ≤ 100000000 := by omega
  obtain ⟨Z, hZ⟩ : ∃ Z, Z = os ++ grp (tgt t.1 < least) t.2 := ⟨_, rfl⟩
  rw [← hZ]
  have HZ := hide hZ
  clear hown htb ha ht hlen hZ
  generalize tgt t.1 = k at *
  go_enter Tryd.func32, Tryd.ntmps32
  go_wp2_with fail
  refine (unhide HT).mono ?_
  rintro e w1 ⟨rfl, rfl⟩
  by_cases g : least ≤ k
  · have HE : Hid (Z = os ++ t.2) := by show Z = _; rw [unhide HZ]; unfold grp; rw [if_neg (by omega)]
    have HL2 : Hid (os.length + t.2.length ≤ 100000000) := by
      have h1 := congrArg List.length ((unhide HZ).symm.trans (unhide HE))
      have h2 := unhide HLen
      rw [List.length_append, List.length_append] at h1
      show os.length + t.2.length ≤ 100000000
      omega
    go_wp2_with fail
    refine (unhide HA base _ os _ (unhide Hown) hbase (unhide Htb) (unhide HL2)).mono ?_
    rintro e w2 ⟨v2, rfl, ho2, hb2⟩
    rw [← unhide HE] at ho2
    have Ho2 := hide ho2
    obtain ⟨a2, c2, rfl⟩ := own_is ho2
    clear ho2
    go_wp2
    go_ret
    exact ⟨_, rfl, unhide Ho2, hb2⟩
  · have HE : Hid (Z = os ++ [40] ++ t.2 ++ [41]) := by show Z = _; rw [unhide HZ]; unfold grp; rw [if_pos (by omega)]; simp
    have HL2 : Hid (os.length + 1 + t.2.length + 1 ≤ 100000000) := by
      have h1 := congrArg List.length ((unhide HZ).symm.trans (unhide HE))
      have h2 := unhide HLen
      simp only [List.length_append, List.length_singleton] at h1
      show os.length + 1 + t.2.length + 1 ≤ 100000000
      omega
    go_wp2_with (at_builtin; refine app_litB (w := w1) _ rfl _ _ rfl base _ rfl os (unhide Hown) hbase [40] rfl rfl (by simp) (by simp; omega) ?_; intro v2 w2 hb2 ho2 hv2; obtain ⟨Y, hY⟩ : ∃ Y, Y = os ++ [40] := ⟨_, rfl⟩; rw [← hY] at ho2; have HY := hide hY; have Ho2 := hide ho2; obtain ⟨a2, c2, rfl⟩ := own_is ho2; have hz2 := hb2.size; clear ho2 hY hv2)
    refine (unhide HA base _ Y _ (unhide Ho2) (by omega) (Lib.TabBelow.on (unhide Htb) hb2.b) (by rw [unhide HY, List.length_append, List.length_singleton]; have := unhide HL2; omega)).mono ?_
    rintro e w3 ⟨v3, rfl, ho3, hb3⟩
    obtain ⟨X, hX⟩ : ∃ X, X = Y ++ t.2 := ⟨_, rfl⟩
    rw [← hX] at ho3
    have hxl : X.length ≤ 100000000 := by rw [hX, unhide HY, List.length_append, List.length_append, List.length_singleton]; have := unhide HL2; omega
    have HX := hide hX
    have Ho3 := hide ho3
    obtain ⟨a3, c3, rfl⟩ := own_is ho3
    have hz3 := hb3.size
    clear ho3 hX
    go_wp2_with (at_builtin; refine app_litB (w := w3) _ rfl _ _ rfl base _ rfl X (unhide Ho3) (by omega) [41] rfl rfl (by simp) (by rw [List.length_singleton]; omega) ?_; intro v4 w4 hb4 ho4 hv4)
    go_ret
    exact ⟨_, rfl, by rw [unhide HE, ← unhide HY, ← unhide HX]; exact ho4, hb2.trans (hb3.trans hb4)⟩

end Go.Proofs.YtmhafibngbojcaaDoor
