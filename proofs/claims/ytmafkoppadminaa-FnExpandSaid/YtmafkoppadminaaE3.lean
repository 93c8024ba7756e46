import Derived.Test.YtmafkoppadminaaE2
import Derived.Test.YtmafkoppadminaaD2
namespace Go.Proofs.Ytmafkoppadminaa
open Go.RowKit
theorem own_len {base n : Nat} {w : World} {v : Value} {vals : List Value} (hown : w.ownsRow base 42 1 v n vals) (h : 0 < n) : ∃ g cap, v = .slice (some ⟨g, 0, none⟩) n cap ∧ n ≤ cap ∧ cap ≤ maxLen := by
  rcases hown.2 with ⟨rfl, hn⟩ | ⟨g, cap, cur, rfl, hbg, hg, hnc, hcm, hcs, htake⟩
  · omega
  · exact ⟨g, cap, rfl, hnc, hcm⟩
end Go.Proofs.Ytmafkoppadminaa
