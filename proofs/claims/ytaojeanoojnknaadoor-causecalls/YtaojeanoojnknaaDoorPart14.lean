/-
  Parts of the proof, one behind the other; what each proves stands at its head.
-/
import Derived.Test.YtaojeanoojnknaaDoorPart13
import Derived.Test.YtaojeanoojnknaaDoorPart12
import Derived.BigFrame
import Derived.Deep.WholeRow

/-
  What Encode answers is proved here, for all ops whose texts are of at most 2^40 bytes: of a right one its bytes, in a row of the call's own.
-/
namespace Go.Proofs.YtaojeanoojnknaaDoor
open Go.RowKit
set_option linter.unusedVariables false
set_option maxRecDepth 100000

end Go.Proofs.YtaojeanoojnknaaDoor

/-
  What Decode answers is proved here, for all bytes of which there are at most 2^40.
-/
namespace Go.Proofs.YtaojeanoojnknaaDoor
open Go.RowKit
set_option linter.unusedVariables false
set_option maxRecDepth 100000

/-- An op of which the kind alone is told. -/
abbrev zopc (k : Int) : Array Value := #[.int .i64 k,.int .i64 0,.int .i64 0,.int .i64 0,.int .i64 0,.int .i64 0,.int .i64 0,.int .i64 0,.string ⟨#[]⟩,.int .i64 0,.int .i64 0,.int .i64 0,.int .i64 0,.int .i64 0,.int .i64 0,.int .i64 0,.int .i64 0,.string ⟨#[]⟩,.slice none 0 0,.bool false]
abbrev zop (k : Int) : Obj := .cells (zopc k) 43

/-- A load of a whole op where a guard stands ahead of it. -/
theorem wpList_load_opg {ops : Array Oper} {rest : List Oper} {p : Oper} {a : Act} {w : World} {Q : Exit → Act → World → Prop} (hgd : Region.wanted p (yielded ops a.tmps) = true) (x : Operand) (ho : p.op = .load 43 x)
    (b : Nat) (hx : a.eval x = .pointer (some ⟨b, 0, none⟩)) (o : Opn) (v : Value) (h : Ob w b o v)
    (hk : wpList Tryd.prog ops Q rest (a.put p.dst (opv o v)) w) : wpList Tryd.prog ops Q (p :: rest) a w :=
  BigFrame.wpList_want hgd fun _ hK => wp_load_row 43 x ho b hx 43 (opl o v) (0, 0) _ h Tryd.underlying43 rfl (by kernel_rfl) (hK _ _ hk)
/-- A store of a whole op. -/
theorem wpList_store_op {ops : Array Oper} {rest : List Oper} {p : Oper} {a : Act} {w : World} {Q : Exit → Act → World → Prop} (hgd : p.guard = none) (x y : Operand) (ho : p.op = .store 43 x y)
    (b : Nat) (hx : a.eval x = .pointer (some ⟨b, 0, none⟩)) (o : Opn) (v : Value) (hv : ∃ va n vc, v = .slice va n vc) (hy : a.eval y = opv o v) (o' : Opn) (v' : Value) (h : Ob w b o' v')
    (hk : wpList Tryd.prog ops Q rest (a.put p.dst undef) (w.setRow b (opl o v))) : wpList Tryd.prog ops Q (p :: rest) a w :=
  wpList_store_row hgd 43 x y ho b (opl o v) hx hy 43 (opl o' v') h (by kernel_rfl) rfl (by obtain ⟨va, n, vc, rfl⟩ := hv; simp [Value.oneCell']) hk
theorem built_zero : Tryd.prog.built 43 [] = some (zopc 0) := by kernel_rfl
theorem wpList_build_zero {ops : Array Oper} {rest : List Oper} {p : Oper} {a : Act} {w : World} {Q : Exit → Act → World → Prop} (hgd : p.guard = none) (ho : p.op = .build 43 #[])
    (hk : wpList Tryd.prog ops Q rest (a.put p.dst (.agg (zopc 0))) w) : wpList Tryd.prog ops Q (p :: rest) a w := by
  have e : (Array.map (fun ((i, x) : Nat × Operand) => (i, a.eval x)) #[]).toList = [] := by simp
  refine wpList_build hgd 43 #[] ho ?_ ?_
  · rw [e, built_zero]; rfl
  · rw [e, built_zero]; exact hk
theorem Fr.of_row (w : World) (b : Nat) (cs : Array Value) : Fr (fun k => k = b) w (w.setRow b cs) :=
  ⟨rfl, rfl, rfl, by simp [World.setRow], fun k _ hn => setRow_other w b k cs hn⟩

/-- Results: an op in a block, and a slot. -/
theorem results_op2 {fn : Func} {p u : Tmp} (h : fn.results = #[.cell p 43, .tmp u]) (tmps : Array Value) (w : World) {b : Nat} {o : Opn} {v : Value} (hp : tmps.getD p undef = .pointer (some ⟨b, 0, none⟩)) (hs : Ob w b o v) :
    (results fn tmps).run Tryd.prog w = .ok (.tuple #[opv o v, tmps.getD u undef]) w := by
  have hl := hs.load
  have hp' : tmps[p]?.getD undef = .pointer (some ⟨b, 0, none⟩) := by simpa using hp
  simp [results, h, hp', asAddr, hl]


theorem Ob.zop (w : World) (k : Int) : Ob (w.alloc (zop k)) w.heap.size { Opn.zero with k := k } (.slice none 0 0) := heap_alloc_new w _

end Go.Proofs.YtaojeanoojnknaaDoor
