import Derived.Test.YtfdkdjngeomcdaaDoorE2
import Derived.Test.YtfdkdjngeomcdaaDoorD2
namespace Go.Proofs.YtfdkdjngeomcdaaDoor
open Go.RowKit

theorem own_len {base n : Nat} {w : World} {v : Value} {vals : List Value} (hown : w.ownsRow base 40 1 v n vals) (h : 0 < n) : ∃ g cap, v = .slice (some ⟨g, 0, none⟩) n cap ∧ n ≤ cap ∧ cap ≤ maxLen := by
  rcases hown.2 with ⟨rfl, hn⟩ | ⟨g, cap, cur, rfl, hbg, hg, hnc, hcm, hcs, htake⟩
  · omega
  · exact ⟨g, cap, rfl, hnc, hcm⟩

theorem pushElement_any (base : Nat) (v sv : Value) (vals : List Value) (st : List (List El × Int)) (x : El) (w : World) (hown : w.ownsRow base 40 1 v vals.length vals) (hst : NVals st vals) (hbase : base ≤ w.heap.size) (hlen : vals.length ≤ 3000)
    (hv : IntsAt 0 w.heap.size w sv x.set) (ok : ElOk x) (hcnt : cnt x.kind ≤ vals.length) :
    Calls Tryd.prog 45 #[v, .agg #[.int .i64 x.kind, sv, .int .i64 x.mn, .int .i64 x.mx]] w fun e w' => Pushed base w w' e st x := by
  obtain ⟨k, xs, mn, mx⟩ := x
  have hsl := hst.len
  rcases ok with ⟨q1, q2, q3, q4⟩ | ⟨q1, q2, q3, q4⟩ | ⟨q1, q2, q3⟩
  · simp only at q1 q2 q3 q4 hv
    subst q1 q3 q4
    rcases hown.2 with ⟨rfl, hn⟩ | ⟨g, cap, cur, rfl, hbg, hg, hnc, hcm, hcs, htake⟩
    · obtain rfl : vals = [] := List.eq_nil_of_length_eq_zero hn
      obtain rfl : st = [] := List.eq_nil_of_length_eq_zero (by simpa using hsl)
      exact push_s_nil base sv xs w hown hbase hv q2
    · exact push_s base g cap vals st sv xs w hown hst hbase hlen hnc hcm hv q2
  · simp only at q1 q2 q3 q4 hv
    subst q3 q4
    obtain rfl := List.eq_nil_of_length_eq_zero q2
    obtain ⟨a, cp, rfl, -, -, -⟩ := hv
    rcases q1 with rfl | rfl | rfl
    · rcases hown.2 with ⟨rfl, hn⟩ | ⟨g, cap, cur, rfl, hbg, hg, hnc, hcm, hcs, htake⟩
      · obtain rfl : vals = [] := List.eq_nil_of_length_eq_zero hn
        obtain rfl : st = [] := List.eq_nil_of_length_eq_zero (by simpa using hsl)
        exact push_e_nil base w hown hbase a cp
      · exact push_e base g cap vals st w hown hst hbase hlen hnc a cp
    · have hc2 : (2 : Int) ≤ vals.length := hcnt
      obtain ⟨b, l, r, rfl⟩ := snoc2 (st := st) (by omega)
      obtain ⟨u, z, rfl, hu, hz⟩ := hst.split
      obtain ⟨y1, y2, rfl, h1, h2⟩ := hz.two
      obtain ⟨T, y, rfl⟩ := h1.iface
      obtain ⟨T', y', rfl⟩ := h2.iface
      obtain ⟨g, cap, rfl, hnc, hcm⟩ := own_len hown (by omega)
      simp only [List.length_append, List.length_cons, List.length_nil] at hown hlen hnc ⊢
      exact push_cat base g cap u T T' y y' b l r w hown hu h1 h2 hbase hlen hnc a cp
    · have hc2 : (2 : Int) ≤ vals.length := hcnt
      obtain ⟨b, l, r, rfl⟩ := snoc2 (st := st) (by omega)
      obtain ⟨u, z, rfl, hu, hz⟩ := hst.split
      obtain ⟨y1, y2, rfl, h1, h2⟩ := hz.two
      obtain ⟨T, y, rfl⟩ := h1.iface
      obtain ⟨T', y', rfl⟩ := h2.iface
      obtain ⟨g, cap, rfl, hnc, hcm⟩ := own_len hown (by omega)
      simp only [List.length_append, List.length_cons, List.length_nil] at hown hlen hnc ⊢
      exact push_alt base g cap u T T' y y' b l r w hown hu h1 h2 hbase hlen hnc a cp
  · simp only at q1 q2 q3 hv
    subst q1
    obtain rfl := List.eq_nil_of_length_eq_zero q2
    obtain ⟨a, cp, rfl, -, -, -⟩ := hv
    have hc1 : (1 : Int) ≤ vals.length := hcnt
    obtain ⟨b, o, rfl⟩ := snoc1 (st := st) (by omega)
    obtain ⟨u, z, rfl, hu, hz⟩ := hst.split
    obtain ⟨y1, rfl, h1⟩ := hz.one
    obtain ⟨T, y, rfl⟩ := h1.iface
    obtain ⟨g, cap, rfl, hnc, hcm⟩ := own_len hown (by simp)
    simp only [List.length_append, List.length_cons, List.length_nil] at hown hlen hnc ⊢
    exact push_rep base g cap u T y b o mn mx w hown hu h1 q3.1 q3.2.1 q3.2.2 hbase hlen hnc a cp

end Go.Proofs.YtfdkdjngeomcdaaDoor
