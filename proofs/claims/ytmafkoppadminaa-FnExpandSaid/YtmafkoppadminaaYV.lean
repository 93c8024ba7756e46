import Derived.Test.YtmafkoppadminaaW1
namespace Go.Proofs.Ytmafkoppadminaa
open Go.RowKit
/-! The values of the nodes. -/
def eV : Value := .iface 78 (.agg #[])
def sV (g : Nat → Nat) : Value := .iface 84 (ws4 g)
def cV (u v : Value) : Value := .iface 61 (.agg #[u, v])
def aV (u v : Value) : Value := .iface 62 (.agg #[u, v])
def rV (u : Value) (mn mx : Int) : Value := .iface 64 (.agg #[u, .int .i64 mn, .int .i64 mx])
end Go.Proofs.Ytmafkoppadminaa
