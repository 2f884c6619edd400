/-
  Ops as values: twenty cells.
-/
import Derived.Test.YtmgemgkanlpnnaaDoorOCode
namespace Go.Proofs.YtmgemgkanlpnnaaDoor
open Go.RowKit
set_option linter.unusedVariables false
set_option maxRecDepth 100000

/-- An op's cells, its cuts' slice being v. -/
abbrev opl (o : Opn) (v : Value) : Array Value :=
  #[.int .i64 o.k, .int .i64 o.ir, .int .i64 o.im, .int .i64 o.t, .int .i64 o.br, .int .i64 o.bm, .int .i64 o.pr, .int .i64 o.pm, .string o.key, .int .i64 o.sr, .int .i64 o.sm, .int .i64 o.lr, .int .i64 o.lm, .int .i64 o.li, .int .i64 o.gr, .int .i64 o.gm, .int .i64 o.gi, .string o.text, v, .bool o.flag]
abbrev opv (o : Opn) (v : Value) : Value := .agg (opl o v)
abbrev opo (o : Opn) (v : Value) : Obj := .cells (opl o v) 30

end Go.Proofs.YtmgemgkanlpnnaaDoor
