import Derived.Test.YtijejbdpagbmpaaDoorPa1
namespace Go.Proofs.YtijejbdpagbmpaaDoor
open Go.RowKit

/-- Outside one block nothing has changed. -/
structure Obk (g : Nat) (w w' : World) : Prop where
  os : w'.os = w.os
  tape : w'.tape = w.tape
  output : w'.output = w.output
  size : w'.heap.size = w.heap.size
  block : ∀ k, k ≠ g → w'.heap[k]? = w.heap[k]?
theorem Obk.trans {g : Nat} {a b c : World} (h : Obk g a b) (k : Obk g b c) : Obk g a c := ⟨k.os.trans h.os, k.tape.trans h.tape, k.output.trans h.output, k.size.trans h.size, fun i hi => (k.block i hi).trans (h.block i hi)⟩
theorem Obk.refl (g : Nat) (w : World) : Obk g w w := ⟨rfl, rfl, rfl, rfl, fun _ _ => rfl⟩
theorem obk_put {w : World} {b : Nat} (o : Nat) (u : Value) : Obk b w (w.setCell ⟨b, o, none⟩ u) := ⟨rfl, rfl, rfl, by simp [World.setCell], fun k hk => Below.heap_setCell _ _ _ _ (by show k ≠ b; exact hk)⟩
theorem Obk.drew {g : Nat} {a b : World} (h : Obk g a b) : Obk g a b.drew := ⟨h.os, h.tape, h.output, h.size, h.block⟩

def wd (g : Nat → Nat) (j : Nat) : Value := .int .u64 (g j : Nat)
def putW (g : Nat → Nat) (k : Nat) : Nat → Nat := fun j => if j = k / 64 then g (k / 64) ||| 2 ^ (k % 64) else g j
theorem fit_put {g : Nat → Nat} (h : Fit g) (k : Nat) : Fit (putW g k) := fun j => by
  unfold putW
  split
  · exact or_lt _ _ (h _) (by omega)
  · exact h j
def orW (g h : Nat → Nat) : Nat → Nat := fun j => g j ||| h j
theorem fit_or {g h : Nat → Nat} (a : Fit g) (b : Fit h) : Fit (orW g h) := fun j => by
  have h1 : g j < 2 ^ 64 := a j
  have h2 : h j < 2 ^ 64 := b j
  exact Nat.or_lt_two_pow h1 h2
theorem bt_or (g h : Nat → Nat) (b : Nat) : Bt (orW g h) b = (Bt g b || Bt h b) := by unfold Bt orW; rw [Nat.testBit_or]

set_option maxHeartbeats 1000000 in
theorem put_any (b i : Nat) (g : Nat → Nat) (w : World) (hg : Fit g) (hi : i < 512) (hrow : w.rowIs b 59 8 (wd g)) :
    Calls Tryd.prog 73 #[.pointer (some ⟨b, 0, none⟩), .int .i64 i] w fun e w' => e = .returned (.tuple #[]) ∧ w'.rowIs b 59 8 (wd (putW g i)) ∧ Obk b w w' := by
  have hq : i / 64 < 8 := by omega
  have c0 := hrow.cell hq
  have f0 := hrow.frozen (i / 64)
  unfold wd at c0
  have hq' : ((i / 64 : Nat) : Int) < 8 := by omega
  have hq2 : (i : Int) / 64 < 8 := by omega
  have hq3 : 0 ≤ (i : Int) / 64 := by omega
  have hor := or_bit (g (i / 64)) (i % 64) (hg _) (by omega)
  have Hor := hide hor
  have HR := hide hrow
  clear hrow hor hg
  go_enter Tryd.func73, Tryd.ntmps73
  go_region
  go_wp2
  rw [unhide Hor]
  first | (refine bodyPost_ret (results_none rfl _ _ _) rfl ?_) | (refine bodyPost_end (results_none rfl _ _ _) rfl ?_)
  exact ⟨rfl, (((unhide HR).set (i / 64) _).congr (fun j _ => by unfold wd putW; by_cases e : j = i / 64 <;> simp [e])).drew, (obk_put _ _).drew⟩

set_option maxHeartbeats 2000000 in
theorem join_any (b o n c p m : Nat) (t t' : TypeId) (F F' : Nat → Value) (g h : Nat → Nat) (w : World) (hg : Fit g) (hh : Fit h) (hbc : b ≠ c) (hrow : w.rowIs b t n F) (hF : ∀ j, j < 8 → F (o + j) = wd g j) (ho : o + 8 ≤ n)
    (hrow' : w.rowIs c t' m F') (hF' : ∀ j, j < 8 → F' (p + j) = wd h j) (hp : p + 8 ≤ m) :
    Calls Tryd.prog 74 #[.pointer (some ⟨b, o, none⟩), .pointer (some ⟨c, p, none⟩)] w fun e w' => e = .returned (.tuple #[]) ∧ w'.rowIs b t n (fun k => if o ≤ k ∧ k < o + 8 then wd (orW g h) (k - o) else F k) ∧ Obk b w w' := by
  have HG := hide hg
  have HH := hide hh
  have HF := hide hF
  have HF' := hide hF'
  have HR := hide hrow
  have HR' := hide hrow'
  clear hg hh hF hF' hrow hrow'
  go_enter Tryd.func74, Tryd.ntmps74
  go_wp2_with fail
  go_loopw [5] (fun iv wr => ∃ i : Nat, i ≤ 8 ∧ iv = .int .i64 i ∧ wr.rowIs b t n (fun k => if o ≤ k ∧ k < o + i then wd (orW g h) (k - o) else F k) ∧ Obk b w wr) (fun iv _ => 8 - (intOf iv).toNat)
  case atStart => exact ⟨0, by omega, rfl, (unhide HR).congr (fun k _ => by rw [if_neg (by omega)]), ⟨rfl, rfl, rfl, rfl, fun _ _ => rfl⟩⟩
  case round =>
    obtain ⟨i, hi, rfl, hr, hb⟩ := hrel
    by_cases hlt : i < 8
    · have hlt' : (i : Int) < 8 := by omega
      have c0 : wr.cell? ⟨b, o + i, none⟩ = some (.int .u64 (g i : Nat)) := by
        rw [hr.cell (by omega), if_neg (by omega), unhide HF i hlt]; rfl
      have f0 := hr.frozen (o + i)
      have c1 : wr.cell? ⟨c, p + i, none⟩ = some (.int .u64 (h i : Nat)) := by
        rw [World.cell?_of_block (w := w) (a := ⟨c, p + i, none⟩) (hb.block c (fun e => hbc e.symm)), (unhide HR').cell (by omega), unhide HF' i hlt]; rfl
      have hor := bits_or_u64_nat (g i) (h i) (unhide HG i) (unhide HH i)
      have HR2 : Hid ((wr.setCell ⟨b, o + i, none⟩ (.int .u64 ((g i ||| h i : Nat) : Int))).rowIs b t n (fun k => if o ≤ k ∧ k < o + (i + 1) then wd (orW g h) (k - o) else F k)) := (hr.set (o + i) _).congr (fun k hk => by
        by_cases e : k = o + i
        · subst e; rw [if_pos rfl, if_pos (by omega), show o + i - o = i by omega]; rfl
        · rw [if_neg e]
          by_cases e2 : o ≤ k ∧ k < o + i
          · rw [if_pos e2, if_pos (by omega)]
          · rw [if_neg e2, if_neg (by omega)])
      have HB2 : Hid (Obk b w (wr.setCell ⟨b, o + i, none⟩ (.int .u64 ((g i ||| h i : Nat) : Int)))) := hb.trans (obk_put _ _)
      have Hor := hide hor
      clear hr hor
      go_wp2_with fail
      go_region
      all_goals
        go_wp2
        rw [unhide Hor]
        go_roundw
        case rel => exact ⟨i + 1, by omega, by go_num, unhide HR2, ⟨(unhide HB2).os, (unhide HB2).tape, (unhide HB2).output, (unhide HB2).size, (unhide HB2).block⟩⟩
        case measure => simp [intOf]; omega
    · obtain rfl : i = 8 := by omega
      have HR2 := hide hr
      clear hr
      go_wp2
      first | (refine bodyPost_ret (results_none rfl _ _ _) rfl ?_) | (refine bodyPost_end (results_none rfl _ _ _) rfl ?_)
      exact ⟨rfl, unhide HR2, hb⟩

end Go.Proofs.YtijejbdpagbmpaaDoor
