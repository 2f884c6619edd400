/-
  What Add answers and leaves is proved here, of the program and of the reference, for all vectors.
-/
import Derived.Test.YtaojeanoojnknaaDoorPart15
namespace Go.Proofs.YtaojeanoojnknaaDoor
open Go.RowKit
set_option linter.unusedVariables false
set_option maxRecDepth 100000

theorem add_not {l : List Int} {r n : Int} (h : ro r n = false) : addV l r n = 10 := by unfold addV; rw [if_pos h]
theorem add_in {l : List Int} {k : Nat} {n x : Int} (h : ro k n = true) (hx : l.getD k 0 = x) : addV l k n = if n ≤ x then 12 else if n = x + 1 then 0 else 22 := by
  unfold addV
  rw [if_neg (by rw [h]; decide), Int.toNat_natCast, hx]
theorem put_not {l : List Int} {r n : Int} (h : addV l r n ≠ 0) : putV l r n = l := if_neg h
theorem put_in {l : List Int} {k : Nat} {n : Int} (h : addV l k n = 0) : putV l k n = l.set k n := by unfold putV; rw [if_pos h, Int.toNat_natCast]
def ad0 : Oper := { dst := some 14, op := Op.fieldAddr 38 (Operand.tmp 3) 1, type := 0, pos := "vec.go:44", after := #[], guard := none }
def ad1 : Oper := { dst := some 15, op := Op.load 3 (Operand.tmp 14), type := 3, pos := "vec.go:44", after := #[{ on := 0, ground := Ground.data }], guard := none }
def ad2 : Oper := { dst := some 16, op := Op.move (Operand.tmp 0), type := 31, pos := "vec.go:44", after := #[], guard := none }
def ad3 : Oper := { dst := some 17, op := Op.fieldAddr 38 (Operand.tmp 3) 0, type := 0, pos := "vec.go:44", after := #[], guard := none }
def ad4 : Oper := { dst := some 18, op := Op.load 3 (Operand.tmp 17), type := 3, pos := "vec.go:44", after := #[{ on := 3, ground := Ground.data }], guard := none }
def ad5 : Oper := { dst := some 19, op := Op.call { callee := Callee.value (Operand.func 32), args := #[Operand.tmp 16, Operand.tmp 18], argTypes := #[31, 3] }, type := 3, pos := "vec.go:44", after := #[{ on := 2, ground := Ground.data }, { on := 4, ground := Ground.data }], guard := none }
def ad6 : Oper := { dst := some 20, op := Op.binOp BinOp.neq 3 (Operand.tmp 15) (Operand.tmp 19) 3, type := 4, pos := "vec.go:44", after := #[{ on := 1, ground := Ground.data }, { on := 5, ground := Ground.data }], guard := none }
def ad7 : Oper := { dst := some 13, op := Op.assign (Operand.tmp 20), type := 4, pos := "vec.go:44", after := #[{ on := 6, ground := Ground.data }, { on := 5, ground := Ground.chain }], guard := none }
def ads : Array Oper := #[ad0, ad1, ad2, ad3, ad4, ad5, ad6, ad7]
theorem ad_lex : Region.lexB .any ads = true := by kernel_rfl
theorem ad_r (b k : Nat) (n x : Int) (l : List Int) (g : Nat) (w : World) {x1 x2 x4 x5 x6 x7 x8 x9 aa x11 x12 x13 x14 x15 x16 x17 am al ak aj ab ad ae af ag ah ai : Value} {Q : Exit → Act → World → Prop} (hk : k < 16) (hI : Idb w g k n) (hV : Vc w b l) (hx : l.getD k 0 = x) (hlt : x < 1048576)
    (hQ : ∀ W,Below w.heap.size w W → Q .normal { tmps := #[.pointer (some ⟨b,0,none⟩),x1,x2,.pointer (some ⟨g,0,none⟩),x4,x5,x6,x7,x8,x9,aa,x11,x12,.bool (n != x + 1),.pointer (some ⟨g,1,none⟩),.int .i64 n,.pointer (some ⟨b,0,none⟩),.pointer (some ⟨g,0,none⟩),.int .i64 k,.int .i64 (x + 1),.bool (n != x + 1),aj,ab,ad,ae,af,ag,ah,ai],defers := [] } W) : (Code.region 5 ads true).wp Tryd.prog Q { tmps := #[.pointer (some ⟨b,0,none⟩),x1,x2,.pointer (some ⟨g,0,none⟩),x4,x5,x6,x7,x8,x9,aa,x11,x12,x13,x14,x15,x16,x17,am,al,ak,aj,ab,ad,ae,af,ag,ah,ai],defers := [] } w := by
  refine wp_region_quiet (C := fun W => Below w.heap.size w W) (by kernel_rfl) ad_lex (Below.refl _ _).drew ?_
  change wpQuiet _ _ _ _ [ad0, ad1, ad2, ad3, ad4, ad5, ad6, ad7] _
  refine Wq.out ?_
  refine wq_val (.pointer (some ⟨g,1,none⟩)) { tmps := #[.pointer (some ⟨b,0,none⟩),x1,x2,.pointer (some ⟨g,0,none⟩),x4,x5,x6,x7,x8,x9,aa,x11,x12,x13,.pointer (some ⟨g,1,none⟩),x15,x16,x17,am,al,ak,aj,ab,ad,ae,af,ag,ah,ai],defers := [] } (by kernel_rfl) (fun W hW => by kernel_rfl) (by kernel_rfl) ?_
  refine wq_val (.int .i64 n) { tmps := #[.pointer (some ⟨b,0,none⟩),x1,x2,.pointer (some ⟨g,0,none⟩),x4,x5,x6,x7,x8,x9,aa,x11,x12,x13,.pointer (some ⟨g,1,none⟩),.int .i64 n,x16,x17,am,al,ak,aj,ab,ad,ae,af,ag,ah,ai],defers := [] } (by kernel_rfl) (fun W hW => run_ldnum rfl rfl (hI.below hW).c1) (by kernel_rfl) ?_
  refine wq_val (.pointer (some ⟨b,0,none⟩)) { tmps := #[.pointer (some ⟨b,0,none⟩),x1,x2,.pointer (some ⟨g,0,none⟩),x4,x5,x6,x7,x8,x9,aa,x11,x12,x13,.pointer (some ⟨g,1,none⟩),.int .i64 n,.pointer (some ⟨b,0,none⟩),x17,am,al,ak,aj,ab,ad,ae,af,ag,ah,ai],defers := [] } (by kernel_rfl) (fun W hW => by kernel_rfl) (by kernel_rfl) ?_
  refine wq_val (.pointer (some ⟨g,0,none⟩)) { tmps := #[.pointer (some ⟨b,0,none⟩),x1,x2,.pointer (some ⟨g,0,none⟩),x4,x5,x6,x7,x8,x9,aa,x11,x12,x13,.pointer (some ⟨g,1,none⟩),.int .i64 n,.pointer (some ⟨b,0,none⟩),.pointer (some ⟨g,0,none⟩),am,al,ak,aj,ab,ad,ae,af,ag,ah,ai],defers := [] } (by kernel_rfl) (fun W hW => by kernel_rfl) (by kernel_rfl) ?_
  refine wq_val (.int .i64 k) { tmps := #[.pointer (some ⟨b,0,none⟩),x1,x2,.pointer (some ⟨g,0,none⟩),x4,x5,x6,x7,x8,x9,aa,x11,x12,x13,.pointer (some ⟨g,1,none⟩),.int .i64 n,.pointer (some ⟨b,0,none⟩),.pointer (some ⟨g,0,none⟩),.int .i64 k,al,ak,aj,ab,ad,ae,af,ag,ah,ai],defers := [] } (by kernel_rfl) (fun W hW => run_ldnum rfl rfl (hI.below hW).c0) (by kernel_rfl) ?_
  refine wq_call (f := 32) (args := #[.pointer (some ⟨b,0,none⟩),.int .i64 k]) (.int .i64 (x + 1)) { tmps := #[.pointer (some ⟨b,0,none⟩),x1,x2,.pointer (some ⟨g,0,none⟩),x4,x5,x6,x7,x8,x9,aa,x11,x12,x13,.pointer (some ⟨g,1,none⟩),.int .i64 n,.pointer (some ⟨b,0,none⟩),.pointer (some ⟨g,0,none⟩),.int .i64 k,.int .i64 (x + 1),ak,aj,ab,ad,ae,af,ag,ah,ai],defers := [] } (by kernel_rfl) (fun W => by kernel_rfl) (fun W hW => (next_any b l k W (hV.below hW)).mono fun e V ⟨h1,h2⟩ => ⟨by rw [h1,next_in hk hx,if_neg (by omega)],by subst h2; exact hW⟩) (by kernel_rfl) ?_
  refine wq_val (.bool (n != x + 1)) { tmps := #[.pointer (some ⟨b,0,none⟩),x1,x2,.pointer (some ⟨g,0,none⟩),x4,x5,x6,x7,x8,x9,aa,x11,x12,x13,.pointer (some ⟨g,1,none⟩),.int .i64 n,.pointer (some ⟨b,0,none⟩),.pointer (some ⟨g,0,none⟩),.int .i64 k,.int .i64 (x + 1),.bool (n != x + 1),aj,ab,ad,ae,af,ag,ah,ai],defers := [] } (by kernel_rfl) (fun W hW => by kernel_rfl) (by kernel_rfl) ?_
  refine wq_val (.bool (n != x + 1)) { tmps := #[.pointer (some ⟨b,0,none⟩),x1,x2,.pointer (some ⟨g,0,none⟩),x4,x5,x6,x7,x8,x9,aa,x11,x12,.bool (n != x + 1),.pointer (some ⟨g,1,none⟩),.int .i64 n,.pointer (some ⟨b,0,none⟩),.pointer (some ⟨g,0,none⟩),.int .i64 k,.int .i64 (x + 1),.bool (n != x + 1),aj,ab,ad,ae,af,ag,ah,ai],defers := [] } (by kernel_rfl) (fun W hW => by kernel_rfl) (by kernel_rfl) ?_
  exact wq_nil hQ
def xad0 : Oper := { dst := some 11, op := Op.fieldAddr 38 (Operand.tmp 3) 1, type := 0, pos := "ref.go:38", after := #[], guard := none }
def xad1 : Oper := { dst := some 12, op := Op.load 3 (Operand.tmp 11), type := 3, pos := "ref.go:38", after := #[{ on := 0, ground := Ground.data }], guard := none }
def xad2 : Oper := { dst := some 13, op := Op.move (Operand.tmp 0), type := 33, pos := "ref.go:38", after := #[], guard := none }
def xad3 : Oper := { dst := some 14, op := Op.fieldAddr 38 (Operand.tmp 3) 0, type := 0, pos := "ref.go:38", after := #[], guard := none }
def xad4 : Oper := { dst := some 15, op := Op.load 3 (Operand.tmp 14), type := 3, pos := "ref.go:38", after := #[{ on := 3, ground := Ground.data }], guard := none }
def xad5 : Oper := { dst := some 16, op := Op.nilCheck (Operand.tmp 13), type := 0, pos := "ref.go:38", after := #[{ on := 2, ground := Ground.data }], guard := none }
def xad6 : Oper := { dst := some 17, op := Op.fieldAddr 36 (Operand.tmp 16) 0, type := 0, pos := "ref.go:38", after := #[{ on := 5, ground := Ground.data }], guard := none }
def xad7 : Oper := { dst := some 18, op := Op.indexAddr 34 (Operand.tmp 17) (Operand.tmp 15), type := 0, pos := "ref.go:38", after := #[{ on := 6, ground := Ground.data }, { on := 4, ground := Ground.data }], guard := none }
def xad8 : Oper := { dst := some 19, op := Op.load 3 (Operand.tmp 18), type := 3, pos := "ref.go:38", after := #[{ on := 7, ground := Ground.data }], guard := none }
def xad9 : Oper := { dst := some 20, op := Op.binOp BinOp.add 3 (Operand.tmp 19) (Operand.const (Value.int IntKind.i64 1)) 3, type := 3, pos := "ref.go:38", after := #[{ on := 8, ground := Ground.data }], guard := none }
def xad10 : Oper := { dst := some 21, op := Op.binOp BinOp.gtr 3 (Operand.tmp 12) (Operand.tmp 20) 3, type := 4, pos := "ref.go:38", after := #[{ on := 1, ground := Ground.data }, { on := 9, ground := Ground.data }], guard := none }
def xads : Array Oper := #[xad0, xad1, xad2, xad3, xad4, xad5, xad6, xad7, xad8, xad9, xad10]
theorem xad_lex : Region.lexB .any xads = true := by kernel_rfl
theorem run_inc {o : Oper} {a : Act} {x : Operand} {k : Int} {W : World} (ho : o.op = .binOp .add 3 x (.const (.int .i64 1)) 3) (hx : a.eval x = .int .i64 k) (h : 0 ≤ k ∧ k ≤ 1048576) : (execOp a.eval o).run Tryd.prog W = .ok (.value (.int .i64 (k + 1))) W := by
  have hw : IntKind.i64.wrap (k + 1) = k + 1 := by rw [IntKind.wrap_i64]; omega
  unfold execOp
  simp only [ho, hx]
  simp [go_sem, Act.eval, hw]
theorem xad_r (z : Bool) (b k : Nat) (n x : Int) (l : List Int) (g : Nat) (w : World) {x1 x2 x4 x5 x6 x7 x8 x9 aa x11 x12 x13 x14 x15 x16 x17 am al ak aj ab ad ae af ag ah ai x29 : Value} {Q : Exit → Act → World → Prop} (hk : k < 16) (hI : Idb w g k n) (hV : Vc w b l) (hx : l.getD k 0 = x) (hb : 0 ≤ x ∧ x ≤ 1048576) (hz : decide (x + 1 < n) = z)
    (hQ : ∀ W,Below w.heap.size w W → Q .normal { tmps := #[.pointer (some ⟨b,0,none⟩),x1,x2,.pointer (some ⟨g,0,none⟩),x4,x5,x6,x7,x8,x9,aa,.pointer (some ⟨g,1,none⟩),.int .i64 n,.pointer (some ⟨b,0,none⟩),.pointer (some ⟨g,0,none⟩),.int .i64 k,.pointer (some ⟨b,0,none⟩),.pointer (some ⟨b,0,none⟩),.pointer (some ⟨b,k,none⟩),.int .i64 x,.int .i64 (x + 1),.bool z,ab,ad,ae,af,ag,ah,ai,x29],defers := [] } W) : (Code.region 5 xads true).wp Tryd.prog Q { tmps := #[.pointer (some ⟨b,0,none⟩),x1,x2,.pointer (some ⟨g,0,none⟩),x4,x5,x6,x7,x8,x9,aa,x11,x12,x13,x14,x15,x16,x17,am,al,ak,aj,ab,ad,ae,af,ag,ah,ai,x29],defers := [] } w := by
  refine wp_region_quiet (C := fun W => Below w.heap.size w W) (by kernel_rfl) xad_lex (Below.refl _ _).drew ?_
  change wpQuiet _ _ _ _ [xad0, xad1, xad2, xad3, xad4, xad5, xad6, xad7, xad8, xad9, xad10] _
  refine Wq.out ?_
  refine wq_val (.pointer (some ⟨g,1,none⟩)) { tmps := #[.pointer (some ⟨b,0,none⟩),x1,x2,.pointer (some ⟨g,0,none⟩),x4,x5,x6,x7,x8,x9,aa,.pointer (some ⟨g,1,none⟩),x12,x13,x14,x15,x16,x17,am,al,ak,aj,ab,ad,ae,af,ag,ah,ai,x29],defers := [] } (by kernel_rfl) (fun W hW => by kernel_rfl) (by kernel_rfl) ?_
  refine wq_val (.int .i64 n) { tmps := #[.pointer (some ⟨b,0,none⟩),x1,x2,.pointer (some ⟨g,0,none⟩),x4,x5,x6,x7,x8,x9,aa,.pointer (some ⟨g,1,none⟩),.int .i64 n,x13,x14,x15,x16,x17,am,al,ak,aj,ab,ad,ae,af,ag,ah,ai,x29],defers := [] } (by kernel_rfl) (fun W hW => run_ldnum rfl rfl (hI.below hW).c1) (by kernel_rfl) ?_
  refine wq_val (.pointer (some ⟨b,0,none⟩)) { tmps := #[.pointer (some ⟨b,0,none⟩),x1,x2,.pointer (some ⟨g,0,none⟩),x4,x5,x6,x7,x8,x9,aa,.pointer (some ⟨g,1,none⟩),.int .i64 n,.pointer (some ⟨b,0,none⟩),x14,x15,x16,x17,am,al,ak,aj,ab,ad,ae,af,ag,ah,ai,x29],defers := [] } (by kernel_rfl) (fun W hW => by kernel_rfl) (by kernel_rfl) ?_
  refine wq_val (.pointer (some ⟨g,0,none⟩)) { tmps := #[.pointer (some ⟨b,0,none⟩),x1,x2,.pointer (some ⟨g,0,none⟩),x4,x5,x6,x7,x8,x9,aa,.pointer (some ⟨g,1,none⟩),.int .i64 n,.pointer (some ⟨b,0,none⟩),.pointer (some ⟨g,0,none⟩),x15,x16,x17,am,al,ak,aj,ab,ad,ae,af,ag,ah,ai,x29],defers := [] } (by kernel_rfl) (fun W hW => by kernel_rfl) (by kernel_rfl) ?_
  refine wq_val (.int .i64 k) { tmps := #[.pointer (some ⟨b,0,none⟩),x1,x2,.pointer (some ⟨g,0,none⟩),x4,x5,x6,x7,x8,x9,aa,.pointer (some ⟨g,1,none⟩),.int .i64 n,.pointer (some ⟨b,0,none⟩),.pointer (some ⟨g,0,none⟩),.int .i64 k,x16,x17,am,al,ak,aj,ab,ad,ae,af,ag,ah,ai,x29],defers := [] } (by kernel_rfl) (fun W hW => run_ldnum rfl rfl (hI.below hW).c0) (by kernel_rfl) ?_
  refine wq_val (.pointer (some ⟨b,0,none⟩)) { tmps := #[.pointer (some ⟨b,0,none⟩),x1,x2,.pointer (some ⟨g,0,none⟩),x4,x5,x6,x7,x8,x9,aa,.pointer (some ⟨g,1,none⟩),.int .i64 n,.pointer (some ⟨b,0,none⟩),.pointer (some ⟨g,0,none⟩),.int .i64 k,.pointer (some ⟨b,0,none⟩),x17,am,al,ak,aj,ab,ad,ae,af,ag,ah,ai,x29],defers := [] } (by kernel_rfl) (fun W hW => by kernel_rfl) (by kernel_rfl) ?_
  refine wq_val (.pointer (some ⟨b,0,none⟩)) { tmps := #[.pointer (some ⟨b,0,none⟩),x1,x2,.pointer (some ⟨g,0,none⟩),x4,x5,x6,x7,x8,x9,aa,.pointer (some ⟨g,1,none⟩),.int .i64 n,.pointer (some ⟨b,0,none⟩),.pointer (some ⟨g,0,none⟩),.int .i64 k,.pointer (some ⟨b,0,none⟩),.pointer (some ⟨b,0,none⟩),am,al,ak,aj,ab,ad,ae,af,ag,ah,ai,x29],defers := [] } (by kernel_rfl) (fun W hW => by kernel_rfl) (by kernel_rfl) ?_
  refine wq_val (.pointer (some ⟨b,k,none⟩)) { tmps := #[.pointer (some ⟨b,0,none⟩),x1,x2,.pointer (some ⟨g,0,none⟩),x4,x5,x6,x7,x8,x9,aa,.pointer (some ⟨g,1,none⟩),.int .i64 n,.pointer (some ⟨b,0,none⟩),.pointer (some ⟨g,0,none⟩),.int .i64 k,.pointer (some ⟨b,0,none⟩),.pointer (some ⟨b,0,none⟩),.pointer (some ⟨b,k,none⟩),al,ak,aj,ab,ad,ae,af,ag,ah,ai,x29],defers := [] } (by kernel_rfl) (fun W hW => run_ixarr rfl rfl rfl hk) (by kernel_rfl) ?_
  refine wq_val (.int .i64 x) { tmps := #[.pointer (some ⟨b,0,none⟩),x1,x2,.pointer (some ⟨g,0,none⟩),x4,x5,x6,x7,x8,x9,aa,.pointer (some ⟨g,1,none⟩),.int .i64 n,.pointer (some ⟨b,0,none⟩),.pointer (some ⟨g,0,none⟩),.int .i64 k,.pointer (some ⟨b,0,none⟩),.pointer (some ⟨b,0,none⟩),.pointer (some ⟨b,k,none⟩),.int .i64 x,ak,aj,ab,ad,ae,af,ag,ah,ai,x29],defers := [] } (by kernel_rfl) (fun W hW => run_ldnum rfl rfl (by rw [← hx]; exact (hV.below hW).cell hk)) (by kernel_rfl) ?_
  refine wq_val (.int .i64 (x + 1)) { tmps := #[.pointer (some ⟨b,0,none⟩),x1,x2,.pointer (some ⟨g,0,none⟩),x4,x5,x6,x7,x8,x9,aa,.pointer (some ⟨g,1,none⟩),.int .i64 n,.pointer (some ⟨b,0,none⟩),.pointer (some ⟨g,0,none⟩),.int .i64 k,.pointer (some ⟨b,0,none⟩),.pointer (some ⟨b,0,none⟩),.pointer (some ⟨b,k,none⟩),.int .i64 x,.int .i64 (x + 1),aj,ab,ad,ae,af,ag,ah,ai,x29],defers := [] } (by kernel_rfl) (fun W hW => run_inc rfl rfl hb) (by kernel_rfl) ?_
  refine wq_val (.bool z) { tmps := #[.pointer (some ⟨b,0,none⟩),x1,x2,.pointer (some ⟨g,0,none⟩),x4,x5,x6,x7,x8,x9,aa,.pointer (some ⟨g,1,none⟩),.int .i64 n,.pointer (some ⟨b,0,none⟩),.pointer (some ⟨g,0,none⟩),.int .i64 k,.pointer (some ⟨b,0,none⟩),.pointer (some ⟨b,0,none⟩),.pointer (some ⟨b,k,none⟩),.int .i64 x,.int .i64 (x + 1),.bool z,ab,ad,ae,af,ag,ah,ai,x29],defers := [] } (by kernel_rfl) (fun W hW => by rw [← hz]; kernel_rfl) (by kernel_rfl) ?_
  exact wq_nil hQ

set_option maxHeartbeats 1000000 in
theorem add_any (b : Nat) (l : List Int) (r n : Int) (w : World) (h : Vc w b l) :
    Calls Tryd.prog 19 #[.pointer (some ⟨b, 0, none⟩), idv r n] w fun e w' => e = .returned (.int .i64 (addV l r n)) ∧ Vc w' b (putV l r n) ∧ Fr (fun i => i = b) w w' := by
  have HV := hid (h.below (ba w (ido 38 r n)))
  have HI := hid (show Idb (w.alloc (ido 38 r n)) w.heap.size r n from ⟨_, heap_alloc_new w _⟩)
  have HB := hid (ba w (ido 38 r n))
  cases hro : ro r n
  · have e1 := add_not (l := l) hro
    have e2 : putV l r n = l := put_not (by rw [e1]; decide)
    rw [e1, e2]
    clear h e1 e2
    go_enter Tryd.func19, Tryd.ntmps19
    go_wp2_with (go_at_call 47; refine (ro_any _ _ _).mono ?_; rintro e w2 ⟨rfl, rfl⟩; rw [hro])
    go_ret
    exact ⟨rfl, HV.out.below (ba _ _), Fr.of_below (bt HB.out (ba _ _))⟩
  · have hq := ro_iff.1 hro
    obtain ⟨k, rfl⟩ := Int.eq_ofNat_of_zero_le hq.1
    have hk : k < 16 := by omega
    obtain ⟨x, hx⟩ : ∃ x, l.getD k 0 = x := ⟨_, rfl⟩
    have HX := hid hx
    have hh := has_in (n := n) hro hx
    have HA := hid (add_in hro hx)
    have HRO := hid hro
    have HBX := hid (show 0 ≤ x ∧ x ≤ 1048576 by rw [← hx]; exact h.1.2 k)
    have HM := hid (show 1 ≤ n ∧ n ≤ 1048576 by omega)
    clear h hro hx hq
    cases hd : decide (n ≤ x)
    · have hlt : ¬ n ≤ x := by simpa using hd
      have HHA := hid (show hasV l k n = false by rw [hh, hd])
      have HLT := hid (show x < 1048576 by have := HM.out; omega)
      clear hh hd
      cases hd : decide (n = x + 1)
      · have hne : ¬ n = x + 1 := by simpa using hd
        have e1 : addV l k n = 22 := by rw [HA.out, if_neg hlt, if_neg hne]
        have e2 : putV l k n = l := put_not (by rw [e1]; decide)
        rw [e1, e2]
        clear e1 e2 hne hlt
        have hd2 : (n != x + 1) = true := by simpa using hd
        clear hd
        go_enter Tryd.func19, Tryd.ntmps19
        go_wp2_with (first
          | (go_at_call 47; refine (ro_any _ _ _).mono ?_; rintro e w2 ⟨rfl, rfl⟩; rw [HRO.out])
          | (go_at_call 34; refine (has_any b l k n _ (HV.out.below (ba _ _))).mono ?_; rintro e w3 ⟨rfl, hb3⟩; rw [HHA.out]; have HB3 := hid (bt (ba _ (ido 38 k n)) hb3); clear hb3)
          | (refine ad_r b k n x l w.heap.size _ hk (HI.out.below HB3.out) (HV.out.below HB3.out) HX.out HLT.out ?_; intro w4 hb4; have HB4 := hid (bt HB3.out hb4); clear hb4))
        go_ret
        exact ⟨rfl, HV.out.below HB4.out, Fr.of_below (bt HB.out HB4.out)⟩
      · have hne : n = x + 1 := by simpa using hd
        have e1 : addV l k n = 0 := by rw [HA.out, if_neg hlt, if_pos hne]
        have HE2 := hid (put_in e1)
        rw [e1]
        clear e1 hne hlt
        have hd2 : (n != x + 1) = false := by simpa using hd
        clear hd
        go_enter Tryd.func19, Tryd.ntmps19
        go_wp2_with (first
          | (go_at_call 47; refine (ro_any _ _ _).mono ?_; rintro e w2 ⟨rfl, rfl⟩; rw [HRO.out])
          | (go_at_call 34; refine (has_any b l k n _ (HV.out.below (ba _ _))).mono ?_; rintro e w3 ⟨rfl, hb3⟩; rw [HHA.out]; have HB3 := hid (bt (ba _ (ido 38 k n)) hb3); clear hb3)
          | (refine ad_r b k n x l w.heap.size _ hk (HI.out.below HB3.out) (HV.out.below HB3.out) HX.out HLT.out ?_; intro w4 hb4; have HB4 := hid (bt HB3.out hb4); have HV4 := hid (HV.out.below HB4.out); have q0 := (HI.out.below HB4.out).c0; have q1 := (HI.out.below HB4.out).c1; have hfz := HV4.out.frozen k; have hcc := HV4.out.cell hk; clear hb4)
          | go_region)
        go_ret
        rw [HE2.out]
        have hp := HV4.out.put hk n (by have := HM.out; omega)
        exact ⟨rfl, hp.1, (Fr.of_below (bt HB.out HB4.out)).trans (hp.2.drewN 1) (fun i _ h => h)⟩
    · have HHA := hid (show hasV l k n = true by rw [hh, hd])
      have hle : n ≤ x := by simpa using hd
      have e1 : addV l k n = 12 := by rw [HA.out, if_pos hle]
      have e2 : putV l k n = l := put_not (by rw [e1]; decide)
      rw [e1, e2]
      clear e1 e2 hle hd hh
      go_enter Tryd.func19, Tryd.ntmps19
      go_wp2_with (first
        | (go_at_call 47; refine (ro_any _ _ _).mono ?_; rintro e w2 ⟨rfl, rfl⟩; rw [HRO.out])
        | (go_at_call 34; refine (has_any b l k n _ (HV.out.below (ba _ _))).mono ?_; rintro e w3 ⟨rfl, hb3⟩; rw [HHA.out]; have HB3 := hid (bt (ba _ (ido 38 k n)) hb3); clear hb3))
      go_ret
      exact ⟨rfl, HV.out.below HB3.out, Fr.of_below (bt HB.out HB3.out)⟩

set_option maxHeartbeats 1000000 in
theorem xadd_any (b : Nat) (l : List Int) (r n : Int) (w : World) (h : Vc w b l) :
    Calls Tryd.prog 20 #[.pointer (some ⟨b, 0, none⟩), idv r n] w fun e w' => e = .returned (.int .i64 (addV l r n)) ∧ Vc w' b (putV l r n) ∧ Fr (fun i => i = b) w w' := by
  have HV := hid (h.below (ba w (ido 38 r n)))
  have HI := hid (show Idb (w.alloc (ido 38 r n)) w.heap.size r n from ⟨_, heap_alloc_new w _⟩)
  have HB := hid (ba w (ido 38 r n))
  cases hro : ro r n
  · have e1 := add_not (l := l) hro
    have e2 : putV l r n = l := put_not (by rw [e1]; decide)
    rw [e1, e2]
    clear h e1 e2
    go_enter Tryd.func20, Tryd.ntmps20
    go_wp2_with (go_at_call 48; refine (xro_any _ _ _).mono ?_; rintro e w2 ⟨rfl, rfl⟩; rw [hro])
    go_ret
    exact ⟨rfl, HV.out.below (ba _ _), Fr.of_below (bt HB.out (ba _ _))⟩
  · have hq := ro_iff.1 hro
    obtain ⟨k, rfl⟩ := Int.eq_ofNat_of_zero_le hq.1
    have hk : k < 16 := by omega
    obtain ⟨x, hx⟩ : ∃ x, l.getD k 0 = x := ⟨_, rfl⟩
    have HX := hid hx
    have hh := has_in (n := n) hro hx
    have HA := hid (add_in hro hx)
    have HRO := hid hro
    have HBX := hid (show 0 ≤ x ∧ x ≤ 1048576 by rw [← hx]; exact h.1.2 k)
    have HM := hid (show 1 ≤ n ∧ n ≤ 1048576 by omega)
    clear h hro hx hq
    cases hd : decide (n ≤ x)
    · have hlt : ¬ n ≤ x := by simpa using hd
      have HHA := hid (show hasV l k n = false by rw [hh, hd])
      have HLT := hid (show x < 1048576 by have := HM.out; omega)
      clear hh hd
      cases hd : decide (n ≤ x + 1)
      · have hne : ¬ n = x + 1 := by simp at hd; omega
        have e1 : addV l k n = 22 := by rw [HA.out, if_neg hlt, if_neg hne]
        have e2 : putV l k n = l := put_not (by rw [e1]; decide)
        rw [e1, e2]
        clear e1 e2 hne hlt
        have hd2 : decide (x + 1 < n) = true := by simp at hd ⊢; omega
        clear hd
        go_enter Tryd.func20, Tryd.ntmps20
        go_wp2_with (first
          | (go_at_call 48; refine (xro_any _ _ _).mono ?_; rintro e w2 ⟨rfl, rfl⟩; rw [HRO.out])
          | (go_at_call 43; refine (xhas_any b l k n _ (HV.out.below (ba _ _))).mono ?_; rintro e w3 ⟨rfl, hb3⟩; rw [HHA.out]; have HB3 := hid (bt (ba _ (ido 38 k n)) hb3); clear hb3)
          | (refine xad_r true b k n x l w.heap.size _ hk (HI.out.below HB3.out) (HV.out.below HB3.out) HX.out HBX.out hd2 ?_; intro w4 hb4; have HB4 := hid (bt HB3.out hb4); clear hb4))
        go_ret
        exact ⟨rfl, HV.out.below HB4.out, Fr.of_below (bt HB.out HB4.out)⟩
      · have hne : n = x + 1 := by simp at hd; omega
        have e1 : addV l k n = 0 := by rw [HA.out, if_neg hlt, if_pos hne]
        have HE2 := hid (put_in e1)
        rw [e1]
        clear e1 hne hlt
        have hd2 : decide (x + 1 < n) = false := by simp at hd ⊢; omega
        clear hd
        go_enter Tryd.func20, Tryd.ntmps20
        go_wp2_with (first
          | (go_at_call 48; refine (xro_any _ _ _).mono ?_; rintro e w2 ⟨rfl, rfl⟩; rw [HRO.out])
          | (go_at_call 43; refine (xhas_any b l k n _ (HV.out.below (ba _ _))).mono ?_; rintro e w3 ⟨rfl, hb3⟩; rw [HHA.out]; have HB3 := hid (bt (ba _ (ido 38 k n)) hb3); clear hb3)
          | (refine xad_r false b k n x l w.heap.size _ hk (HI.out.below HB3.out) (HV.out.below HB3.out) HX.out HBX.out hd2 ?_; intro w4 hb4; have HB4 := hid (bt HB3.out hb4); have HV4 := hid (HV.out.below HB4.out); have q0 := (HI.out.below HB4.out).c0; have q1 := (HI.out.below HB4.out).c1; have hfz := HV4.out.frozen k; have hcc := HV4.out.cell hk; clear hb4)
          | go_region)
        go_ret
        rw [HE2.out]
        have hp := HV4.out.put hk n (by have := HM.out; omega)
        exact ⟨rfl, hp.1, (Fr.of_below (bt HB.out HB4.out)).trans (hp.2.drewN 1) (fun i _ h => h)⟩
    · have HHA := hid (show hasV l k n = true by rw [hh, hd])
      have hle : n ≤ x := by simpa using hd
      have e1 : addV l k n = 12 := by rw [HA.out, if_pos hle]
      have e2 : putV l k n = l := put_not (by rw [e1]; decide)
      rw [e1, e2]
      clear e1 e2 hle hd hh
      go_enter Tryd.func20, Tryd.ntmps20
      go_wp2_with (first
        | (go_at_call 48; refine (xro_any _ _ _).mono ?_; rintro e w2 ⟨rfl, rfl⟩; rw [HRO.out])
        | (go_at_call 43; refine (xhas_any b l k n _ (HV.out.below (ba _ _))).mono ?_; rintro e w3 ⟨rfl, hb3⟩; rw [HHA.out]; have HB3 := hid (bt (ba _ (ido 38 k n)) hb3); clear hb3))
      go_ret
      exact ⟨rfl, HV.out.below HB3.out, Fr.of_below (bt HB.out HB3.out)⟩

end Go.Proofs.YtaojeanoojnknaaDoor
