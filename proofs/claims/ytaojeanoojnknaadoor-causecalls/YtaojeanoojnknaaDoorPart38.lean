/-
  Parts of the proof, one behind the other; what each proves stands at its head.
-/
import Derived.Test.YtaojeanoojnknaaDoorPart36
import Derived.Test.YtaojeanoojnknaaDoorPart24
import Derived.Test.YtaojeanoojnknaaDoorPart35
import Derived.Test.YtaojeanoojnknaaDoorPart27
import Derived.Test.YtaojeanoojnknaaDoorPart37
import Derived.Test.YtaojeanoojnknaaDoorPart32
import Derived.Test.YtaojeanoojnknaaDoorPart30

/-
  The first region of the reference's Ready, whose order is drawn, is walked here: its two ways.
-/
namespace Go.Proofs.YtaojeanoojnknaaDoor
open Go.RowKit
set_option linter.unusedVariables false
set_option maxRecDepth 100000

/-- A vector and an op with its cuts. -/
structure Vx (W : World) (vb p : Nat) (X : List Int) (o : Opn) (u : Value) : Prop where
  vc : Vc W vb X
  ob : Ob W p o u
  cs : Cs W u o.cuts
theorem Vx.below {W W' : World} {vb p : Nat} {X : List Int} {o : Opn} {u : Value} (h : Vx W vb p X o u) (hb : Below W.heap.size W W') : Vx W' vb p X o u := ⟨h.vc.below hb, h.ob.below hb, h.cs.below hb⟩
theorem Vx.drew {W : World} {vb p : Nat} {X : List Int} {o : Opn} {u : Value} (h : Vx W vb p X o u) : Vx (World.drew W) vb p X o u := h.below (bd W 1)
theorem run_neb {o : Oper} {a : Act} {x y : Operand} {h k : Int} {d : Bool} {W : World} (ho : o.op = .binOp .neq 3 x y 3) (hx : a.eval x = .int .i64 h) (hy : a.eval y = .int .i64 k) (hd : decide (h ≠ k) = d) : (execOp a.eval o).run Tryd.prog W = .ok (.value (.bool d)) W := by
  subst hd
  unfold execOp
  simp only [ho, hx, hy]
  simp [go_sem]
  rfl

def kxr0 : Oper := { dst := some 7, op := Op.load 43 (Operand.tmp 3), type := 43, pos := "ref.go:13", after := #[], guard := none }
def kxr1 : Oper := { dst := some 8, op := Op.call { callee := Callee.value (Operand.func 42), args := #[Operand.tmp 7], argTypes := #[43] }, type := 4, pos := "ref.go:13", after := #[{ on := 0, ground := Ground.data }], guard := none }
def kxr2 : Oper := { dst := some 9, op := Op.unOp UnOp.not 4 (Operand.tmp 8), type := 4, pos := "ref.go:13", after := #[{ on := 1, ground := Ground.data }], guard := none }
def kxr3 : Oper := { dst := some 10, op := Op.move (Operand.tmp 9), type := 4, pos := "ref.go:13", after := #[{ on := 2, ground := Ground.data }, { on := 1, ground := Ground.chain }], guard := none }
def kxr4 : Oper := { dst := some 11, op := Op.move (Operand.tmp 0), type := 33, pos := "ref.go:13", after := #[{ on := 3, ground := Ground.guard }], guard := some (3, false) }
def kxr5 : Oper := { dst := some 12, op := Op.fieldAddr 43 (Operand.tmp 3) 1, type := 0, pos := "ref.go:13", after := #[{ on := 3, ground := Ground.guard }], guard := some (3, false) }
def kxr6 : Oper := { dst := some 13, op := Op.fieldAddr 38 (Operand.tmp 12) 0, type := 0, pos := "ref.go:13", after := #[{ on := 5, ground := Ground.data }, { on := 3, ground := Ground.guard }], guard := some (3, false) }
def kxr7 : Oper := { dst := some 14, op := Op.load 3 (Operand.tmp 13), type := 3, pos := "ref.go:13", after := #[{ on := 6, ground := Ground.data }, { on := 3, ground := Ground.guard }], guard := some (3, false) }
def kxr8 : Oper := { dst := some 15, op := Op.nilCheck (Operand.tmp 11), type := 0, pos := "ref.go:13", after := #[{ on := 4, ground := Ground.data }, { on := 3, ground := Ground.guard }], guard := some (3, false) }
def kxr9 : Oper := { dst := some 16, op := Op.fieldAddr 36 (Operand.tmp 15) 0, type := 0, pos := "ref.go:13", after := #[{ on := 8, ground := Ground.data }, { on := 3, ground := Ground.guard }], guard := some (3, false) }
def kxr10 : Oper := { dst := some 17, op := Op.indexAddr 34 (Operand.tmp 16) (Operand.tmp 14), type := 0, pos := "ref.go:13", after := #[{ on := 9, ground := Ground.data }, { on := 7, ground := Ground.data }, { on := 3, ground := Ground.guard }], guard := some (3, false) }
def kxr11 : Oper := { dst := some 18, op := Op.load 3 (Operand.tmp 17), type := 3, pos := "ref.go:13", after := #[{ on := 10, ground := Ground.data }, { on := 3, ground := Ground.guard }], guard := some (3, false) }
def kxr12 : Oper := { dst := some 19, op := Op.binOp BinOp.add 3 (Operand.tmp 18) (Operand.const (Value.int IntKind.i64 1)) 3, type := 3, pos := "ref.go:13", after := #[{ on := 11, ground := Ground.data }, { on := 3, ground := Ground.guard }], guard := some (3, false) }
def kxr13 : Oper := { dst := some 20, op := Op.fieldAddr 43 (Operand.tmp 3) 1, type := 0, pos := "ref.go:13", after := #[{ on := 3, ground := Ground.guard }], guard := some (3, false) }
def kxr14 : Oper := { dst := some 21, op := Op.fieldAddr 38 (Operand.tmp 20) 1, type := 0, pos := "ref.go:13", after := #[{ on := 13, ground := Ground.data }, { on := 3, ground := Ground.guard }], guard := some (3, false) }
def kxr15 : Oper := { dst := some 22, op := Op.load 3 (Operand.tmp 21), type := 3, pos := "ref.go:13", after := #[{ on := 14, ground := Ground.data }, { on := 3, ground := Ground.guard }], guard := some (3, false) }
def kxr16 : Oper := { dst := some 23, op := Op.binOp BinOp.neq 3 (Operand.tmp 19) (Operand.tmp 22) 3, type := 4, pos := "ref.go:13", after := #[{ on := 12, ground := Ground.data }, { on := 15, ground := Ground.data }, { on := 3, ground := Ground.guard }], guard := some (3, false) }
def kxr17 : Oper := { dst := some 24, op := Op.pick (Operand.tmp 10) (Operand.const (Value.bool true)) (Operand.tmp 23), type := 4, pos := "ref.go:13", after := #[{ on := 3, ground := Ground.data }, { on := 16, ground := Ground.data }], guard := none }
def kxrs : Array Oper := #[kxr0, kxr1, kxr2, kxr3, kxr4, kxr5, kxr6, kxr7, kxr8, kxr9, kxr10, kxr11, kxr12, kxr13, kxr14, kxr15, kxr16, kxr17]
theorem kxr_lit : Region.noSelect kxrs = true := by kernel_rfl

set_option maxHeartbeats 8000000 in
theorem xrdy_no {vb p : Nat} {X : List Int} {o : Opn} {u : Value} {w : World} (h : Vx w vb p X o u) (hf : o.fine) (hr : rightO o = false) {x1 x2 x4 x5 x6 x7 x8 x9 x10 x11 x12 aF aE aD aC aB aA az ay ax av au ar aa ab ad ae af ag ah ai aj ak al am ao ap aq : Value} {Q : Exit → Act → World → Prop}
    (hP : ∀ c t t' d W, Q (.panic c) { tmps := t, defers := d } W → Q (.panic c) { tmps := t', defers := d } W)
    (hQ : ∀ W,Below w.heap.size w W → Q .normal { tmps := #[.pointer (some ⟨vb,0,none⟩),x1,x2,.pointer (some ⟨p,0,none⟩),x4,x5,x6,opv o u,.bool false,.bool true,.bool true,undef,undef,undef,undef,undef,undef,undef,undef,undef,undef,undef,undef,undef,.bool true,aa,ab,ad,ae,af,ag,ah,ai,aj,ak,al,am,ao,ap,aq],defers := [] } W) : (Code.region 1 kxrs true).wp Tryd.prog Q { tmps := #[.pointer (some ⟨vb,0,none⟩),x1,x2,.pointer (some ⟨p,0,none⟩),x4,x5,x6,x7,x8,x9,x10,x11,x12,aF,aE,aD,aC,aB,aA,az,ay,ax,av,au,ar,aa,ab,ad,ae,af,ag,ah,ai,aj,ak,al,am,ao,ap,aq],defers := [] } w := by
  refine wp_region_held (S := fun W => Vx W vb p X o u) (by kernel_rfl) ?_
  change wpAnyH _ _ _ _ _ 18 _ _ (World.drew _)
  have S0 : Vx (World.drew w) vb p X o u := h.drew
  clear h
  obtain ⟨W0, hW⟩ : ∃ W, World.drew w = W := ⟨_, rfl⟩
  rw [hW] at S0 ⊢
  have BW0 : Below w.heap.size w W0 := by rw [← hW]; exact (Below.refl _ _).drew
  clear hW
  refine wpAnyH_take (i := 0) (oi := kxr0) (v := opv o u) (by kernel_rfl) kxr_lit (by kernel_rfl) (by kernel_rfl) (fun c a W h => hP c _ _ _ W h) (Or.inl ⟨by kernel_rfl, fun W hW => run_load_op rfl rfl hW.ob⟩) S0 ?_
  rw [show Act.put _ kxr0.dst _ = { tmps := #[.pointer (some ⟨vb,0,none⟩),x1,x2,.pointer (some ⟨p,0,none⟩),x4,x5,x6,opv o u,x8,x9,x10,x11,x12,aF,aE,aD,aC,aB,aA,az,ay,ax,av,au,ar,aa,ab,ad,ae,af,ag,ah,ai,aj,ak,al,am,ao,ap,aq],defers := [] } from by kernel_rfl]
  refine wpAnyH_all (rs := [1]) (by kernel_rfl) (by simp) (fun i hi => ?_)
  obtain rfl := List.mem_singleton.1 hi
  refine hb_callx (o := kxr1) (f := 42) (args := #[opv o u]) (D := fun u V => u = .bool false ∧ Below W0.heap.size W0 V) (by kernel_rfl) (by kernel_rfl) (by kernel_rfl) ((xright_any o u _ S0.cs hf).mono fun e V ⟨h1, h2⟩ => ⟨_, h1, by rw [hr], h2⟩) ?_
  rintro _ W1 ⟨rfl, b⟩
  have S1 := S0.below b
  have BW1 := bt BW0 b
  clear b
  rw [show Act.put _ kxr1.dst _ = { tmps := #[.pointer (some ⟨vb,0,none⟩),x1,x2,.pointer (some ⟨p,0,none⟩),x4,x5,x6,opv o u,.bool false,x9,x10,x11,x12,aF,aE,aD,aC,aB,aA,az,ay,ax,av,au,ar,aa,ab,ad,ae,af,ag,ah,ai,aj,ak,al,am,ao,ap,aq],defers := [] } from by kernel_rfl]
  refine ⟨S1, ?_⟩
  refine wpAnyH_take (i := 2) (oi := kxr2) (v := .bool true) (by kernel_rfl) kxr_lit (by kernel_rfl) (by kernel_rfl) (fun c a W h => hP c _ _ _ W h) (Or.inl ⟨by kernel_rfl, fun W hW => by kernel_rfl⟩) S1 ?_
  rw [show Act.put _ kxr2.dst _ = { tmps := #[.pointer (some ⟨vb,0,none⟩),x1,x2,.pointer (some ⟨p,0,none⟩),x4,x5,x6,opv o u,.bool false,.bool true,x10,x11,x12,aF,aE,aD,aC,aB,aA,az,ay,ax,av,au,ar,aa,ab,ad,ae,af,ag,ah,ai,aj,ak,al,am,ao,ap,aq],defers := [] } from by kernel_rfl]
  refine wpAnyH_take (i := 3) (oi := kxr3) (v := .bool true) (by kernel_rfl) kxr_lit (by kernel_rfl) (by kernel_rfl) (fun c a W h => hP c _ _ _ W h) (Or.inl ⟨by kernel_rfl, fun W hW => by kernel_rfl⟩) S1 ?_
  rw [show Act.put _ kxr3.dst _ = { tmps := #[.pointer (some ⟨vb,0,none⟩),x1,x2,.pointer (some ⟨p,0,none⟩),x4,x5,x6,opv o u,.bool false,.bool true,.bool true,x11,x12,aF,aE,aD,aC,aB,aA,az,ay,ax,av,au,ar,aa,ab,ad,ae,af,ag,ah,ai,aj,ak,al,am,ao,ap,aq],defers := [] } from by kernel_rfl]
  refine wpAnyH_take (i := 4) (oi := kxr4) (v := undef) (by kernel_rfl) kxr_lit (by kernel_rfl) (by kernel_rfl) (fun c a W h => hP c _ _ _ W h) (Or.inr ⟨by kernel_rfl, rfl⟩) S1 ?_
  rw [show Act.put _ kxr4.dst _ = { tmps := #[.pointer (some ⟨vb,0,none⟩),x1,x2,.pointer (some ⟨p,0,none⟩),x4,x5,x6,opv o u,.bool false,.bool true,.bool true,undef,x12,aF,aE,aD,aC,aB,aA,az,ay,ax,av,au,ar,aa,ab,ad,ae,af,ag,ah,ai,aj,ak,al,am,ao,ap,aq],defers := [] } from by kernel_rfl]
  refine wpAnyH_take (i := 5) (oi := kxr5) (v := undef) (by kernel_rfl) kxr_lit (by kernel_rfl) (by kernel_rfl) (fun c a W h => hP c _ _ _ W h) (Or.inr ⟨by kernel_rfl, rfl⟩) S1 ?_
  rw [show Act.put _ kxr5.dst _ = { tmps := #[.pointer (some ⟨vb,0,none⟩),x1,x2,.pointer (some ⟨p,0,none⟩),x4,x5,x6,opv o u,.bool false,.bool true,.bool true,undef,undef,aF,aE,aD,aC,aB,aA,az,ay,ax,av,au,ar,aa,ab,ad,ae,af,ag,ah,ai,aj,ak,al,am,ao,ap,aq],defers := [] } from by kernel_rfl]
  refine wpAnyH_take (i := 6) (oi := kxr6) (v := undef) (by kernel_rfl) kxr_lit (by kernel_rfl) (by kernel_rfl) (fun c a W h => hP c _ _ _ W h) (Or.inr ⟨by kernel_rfl, rfl⟩) S1 ?_
  rw [show Act.put _ kxr6.dst _ = { tmps := #[.pointer (some ⟨vb,0,none⟩),x1,x2,.pointer (some ⟨p,0,none⟩),x4,x5,x6,opv o u,.bool false,.bool true,.bool true,undef,undef,undef,aE,aD,aC,aB,aA,az,ay,ax,av,au,ar,aa,ab,ad,ae,af,ag,ah,ai,aj,ak,al,am,ao,ap,aq],defers := [] } from by kernel_rfl]
  refine wpAnyH_take (i := 7) (oi := kxr7) (v := undef) (by kernel_rfl) kxr_lit (by kernel_rfl) (by kernel_rfl) (fun c a W h => hP c _ _ _ W h) (Or.inr ⟨by kernel_rfl, rfl⟩) S1 ?_
  rw [show Act.put _ kxr7.dst _ = { tmps := #[.pointer (some ⟨vb,0,none⟩),x1,x2,.pointer (some ⟨p,0,none⟩),x4,x5,x6,opv o u,.bool false,.bool true,.bool true,undef,undef,undef,undef,aD,aC,aB,aA,az,ay,ax,av,au,ar,aa,ab,ad,ae,af,ag,ah,ai,aj,ak,al,am,ao,ap,aq],defers := [] } from by kernel_rfl]
  refine wpAnyH_take (i := 8) (oi := kxr8) (v := undef) (by kernel_rfl) kxr_lit (by kernel_rfl) (by kernel_rfl) (fun c a W h => hP c _ _ _ W h) (Or.inr ⟨by kernel_rfl, rfl⟩) S1 ?_
  rw [show Act.put _ kxr8.dst _ = { tmps := #[.pointer (some ⟨vb,0,none⟩),x1,x2,.pointer (some ⟨p,0,none⟩),x4,x5,x6,opv o u,.bool false,.bool true,.bool true,undef,undef,undef,undef,undef,aC,aB,aA,az,ay,ax,av,au,ar,aa,ab,ad,ae,af,ag,ah,ai,aj,ak,al,am,ao,ap,aq],defers := [] } from by kernel_rfl]
  refine wpAnyH_take (i := 9) (oi := kxr9) (v := undef) (by kernel_rfl) kxr_lit (by kernel_rfl) (by kernel_rfl) (fun c a W h => hP c _ _ _ W h) (Or.inr ⟨by kernel_rfl, rfl⟩) S1 ?_
  rw [show Act.put _ kxr9.dst _ = { tmps := #[.pointer (some ⟨vb,0,none⟩),x1,x2,.pointer (some ⟨p,0,none⟩),x4,x5,x6,opv o u,.bool false,.bool true,.bool true,undef,undef,undef,undef,undef,undef,aB,aA,az,ay,ax,av,au,ar,aa,ab,ad,ae,af,ag,ah,ai,aj,ak,al,am,ao,ap,aq],defers := [] } from by kernel_rfl]
  refine wpAnyH_take (i := 10) (oi := kxr10) (v := undef) (by kernel_rfl) kxr_lit (by kernel_rfl) (by kernel_rfl) (fun c a W h => hP c _ _ _ W h) (Or.inr ⟨by kernel_rfl, rfl⟩) S1 ?_
  rw [show Act.put _ kxr10.dst _ = { tmps := #[.pointer (some ⟨vb,0,none⟩),x1,x2,.pointer (some ⟨p,0,none⟩),x4,x5,x6,opv o u,.bool false,.bool true,.bool true,undef,undef,undef,undef,undef,undef,undef,aA,az,ay,ax,av,au,ar,aa,ab,ad,ae,af,ag,ah,ai,aj,ak,al,am,ao,ap,aq],defers := [] } from by kernel_rfl]
  refine wpAnyH_take (i := 11) (oi := kxr11) (v := undef) (by kernel_rfl) kxr_lit (by kernel_rfl) (by kernel_rfl) (fun c a W h => hP c _ _ _ W h) (Or.inr ⟨by kernel_rfl, rfl⟩) S1 ?_
  rw [show Act.put _ kxr11.dst _ = { tmps := #[.pointer (some ⟨vb,0,none⟩),x1,x2,.pointer (some ⟨p,0,none⟩),x4,x5,x6,opv o u,.bool false,.bool true,.bool true,undef,undef,undef,undef,undef,undef,undef,undef,az,ay,ax,av,au,ar,aa,ab,ad,ae,af,ag,ah,ai,aj,ak,al,am,ao,ap,aq],defers := [] } from by kernel_rfl]
  refine wpAnyH_take (i := 12) (oi := kxr12) (v := undef) (by kernel_rfl) kxr_lit (by kernel_rfl) (by kernel_rfl) (fun c a W h => hP c _ _ _ W h) (Or.inr ⟨by kernel_rfl, rfl⟩) S1 ?_
  rw [show Act.put _ kxr12.dst _ = { tmps := #[.pointer (some ⟨vb,0,none⟩),x1,x2,.pointer (some ⟨p,0,none⟩),x4,x5,x6,opv o u,.bool false,.bool true,.bool true,undef,undef,undef,undef,undef,undef,undef,undef,undef,ay,ax,av,au,ar,aa,ab,ad,ae,af,ag,ah,ai,aj,ak,al,am,ao,ap,aq],defers := [] } from by kernel_rfl]
  refine wpAnyH_take (i := 13) (oi := kxr13) (v := undef) (by kernel_rfl) kxr_lit (by kernel_rfl) (by kernel_rfl) (fun c a W h => hP c _ _ _ W h) (Or.inr ⟨by kernel_rfl, rfl⟩) S1 ?_
  rw [show Act.put _ kxr13.dst _ = { tmps := #[.pointer (some ⟨vb,0,none⟩),x1,x2,.pointer (some ⟨p,0,none⟩),x4,x5,x6,opv o u,.bool false,.bool true,.bool true,undef,undef,undef,undef,undef,undef,undef,undef,undef,undef,ax,av,au,ar,aa,ab,ad,ae,af,ag,ah,ai,aj,ak,al,am,ao,ap,aq],defers := [] } from by kernel_rfl]
  refine wpAnyH_take (i := 14) (oi := kxr14) (v := undef) (by kernel_rfl) kxr_lit (by kernel_rfl) (by kernel_rfl) (fun c a W h => hP c _ _ _ W h) (Or.inr ⟨by kernel_rfl, rfl⟩) S1 ?_
  rw [show Act.put _ kxr14.dst _ = { tmps := #[.pointer (some ⟨vb,0,none⟩),x1,x2,.pointer (some ⟨p,0,none⟩),x4,x5,x6,opv o u,.bool false,.bool true,.bool true,undef,undef,undef,undef,undef,undef,undef,undef,undef,undef,undef,av,au,ar,aa,ab,ad,ae,af,ag,ah,ai,aj,ak,al,am,ao,ap,aq],defers := [] } from by kernel_rfl]
  refine wpAnyH_take (i := 15) (oi := kxr15) (v := undef) (by kernel_rfl) kxr_lit (by kernel_rfl) (by kernel_rfl) (fun c a W h => hP c _ _ _ W h) (Or.inr ⟨by kernel_rfl, rfl⟩) S1 ?_
  rw [show Act.put _ kxr15.dst _ = { tmps := #[.pointer (some ⟨vb,0,none⟩),x1,x2,.pointer (some ⟨p,0,none⟩),x4,x5,x6,opv o u,.bool false,.bool true,.bool true,undef,undef,undef,undef,undef,undef,undef,undef,undef,undef,undef,undef,au,ar,aa,ab,ad,ae,af,ag,ah,ai,aj,ak,al,am,ao,ap,aq],defers := [] } from by kernel_rfl]
  refine wpAnyH_take (i := 16) (oi := kxr16) (v := undef) (by kernel_rfl) kxr_lit (by kernel_rfl) (by kernel_rfl) (fun c a W h => hP c _ _ _ W h) (Or.inr ⟨by kernel_rfl, rfl⟩) S1 ?_
  rw [show Act.put _ kxr16.dst _ = { tmps := #[.pointer (some ⟨vb,0,none⟩),x1,x2,.pointer (some ⟨p,0,none⟩),x4,x5,x6,opv o u,.bool false,.bool true,.bool true,undef,undef,undef,undef,undef,undef,undef,undef,undef,undef,undef,undef,undef,ar,aa,ab,ad,ae,af,ag,ah,ai,aj,ak,al,am,ao,ap,aq],defers := [] } from by kernel_rfl]
  refine wpAnyH_take (i := 17) (oi := kxr17) (v := .bool true) (by kernel_rfl) kxr_lit (by kernel_rfl) (by kernel_rfl) (fun c a W h => hP c _ _ _ W h) (Or.inl ⟨by kernel_rfl, fun W hW => by kernel_rfl⟩) S1 ?_
  rw [show Act.put _ kxr17.dst _ = { tmps := #[.pointer (some ⟨vb,0,none⟩),x1,x2,.pointer (some ⟨p,0,none⟩),x4,x5,x6,opv o u,.bool false,.bool true,.bool true,undef,undef,undef,undef,undef,undef,undef,undef,undef,undef,undef,undef,undef,.bool true,aa,ab,ad,ae,af,ag,ah,ai,aj,ak,al,am,ao,ap,aq],defers := [] } from by kernel_rfl]
  exact wpAnyH_done (by kernel_rfl) (hQ _ BW1) _

set_option maxHeartbeats 8000000 in
theorem xrdy_yes {vb p : Nat} {X : List Int} {o : Opn} {u : Value} {w : World} (h : Vx w vb p X o u) (hf : o.fine) {k : Nat} {d : Bool} (hr : rightO o = true) (hk : o.ir = (k : Int)) (hk16 : k < 16) (hd : decide (X.getD k 0 + 1 ≠ o.im) = d) {x1 x2 x4 x5 x6 x7 x8 x9 x10 x11 x12 aF aE aD aC aB aA az ay ax av au ar aa ab ad ae af ag ah ai aj ak al am ao ap aq : Value} {Q : Exit → Act → World → Prop}
    (hP : ∀ c t t' d W, Q (.panic c) { tmps := t, defers := d } W → Q (.panic c) { tmps := t', defers := d } W)
    (hQ : ∀ W,Below w.heap.size w W → Q .normal { tmps := #[.pointer (some ⟨vb,0,none⟩),x1,x2,.pointer (some ⟨p,0,none⟩),x4,x5,x6,opv o u,.bool true,.bool false,.bool false,.pointer (some ⟨vb,0,none⟩),.pointer (some ⟨p,1,none⟩),.pointer (some ⟨p,1,none⟩),.int .i64 (k : Int),.pointer (some ⟨vb,0,none⟩),.pointer (some ⟨vb,0,none⟩),.pointer (some ⟨vb,k,none⟩),.int .i64 (X.getD k 0),.int .i64 (X.getD k 0 + 1),.pointer (some ⟨p,1,none⟩),.pointer (some ⟨p,2,none⟩),.int .i64 o.im,.bool d,.bool d,aa,ab,ad,ae,af,ag,ah,ai,aj,ak,al,am,ao,ap,aq],defers := [] } W) : (Code.region 1 kxrs true).wp Tryd.prog Q { tmps := #[.pointer (some ⟨vb,0,none⟩),x1,x2,.pointer (some ⟨p,0,none⟩),x4,x5,x6,x7,x8,x9,x10,x11,x12,aF,aE,aD,aC,aB,aA,az,ay,ax,av,au,ar,aa,ab,ad,ae,af,ag,ah,ai,aj,ak,al,am,ao,ap,aq],defers := [] } w := by
  refine wp_region_held (S := fun W => Vx W vb p X o u) (by kernel_rfl) ?_
  change wpAnyH _ _ _ _ _ 18 _ _ (World.drew _)
  have S0 : Vx (World.drew w) vb p X o u := h.drew
  clear h
  obtain ⟨W0, hW⟩ : ∃ W, World.drew w = W := ⟨_, rfl⟩
  rw [hW] at S0 ⊢
  have BW0 : Below w.heap.size w W0 := by rw [← hW]; exact (Below.refl _ _).drew
  clear hW
  refine wpAnyH_take (i := 0) (oi := kxr0) (v := opv o u) (by kernel_rfl) kxr_lit (by kernel_rfl) (by kernel_rfl) (fun c a W h => hP c _ _ _ W h) (Or.inl ⟨by kernel_rfl, fun W hW => run_load_op rfl rfl hW.ob⟩) S0 ?_
  rw [show Act.put _ kxr0.dst _ = { tmps := #[.pointer (some ⟨vb,0,none⟩),x1,x2,.pointer (some ⟨p,0,none⟩),x4,x5,x6,opv o u,x8,x9,x10,x11,x12,aF,aE,aD,aC,aB,aA,az,ay,ax,av,au,ar,aa,ab,ad,ae,af,ag,ah,ai,aj,ak,al,am,ao,ap,aq],defers := [] } from by kernel_rfl]
  refine wpAnyH_all (rs := [1]) (by kernel_rfl) (by simp) (fun i hi => ?_)
  obtain rfl := List.mem_singleton.1 hi
  refine hb_callx (o := kxr1) (f := 42) (args := #[opv o u]) (D := fun u V => u = .bool true ∧ Below W0.heap.size W0 V) (by kernel_rfl) (by kernel_rfl) (by kernel_rfl) ((xright_any o u _ S0.cs hf).mono fun e V ⟨h1, h2⟩ => ⟨_, h1, by rw [hr], h2⟩) ?_
  rintro _ W1 ⟨rfl, b⟩
  have S1 := S0.below b
  have BW1 := bt BW0 b
  clear b
  rw [show Act.put _ kxr1.dst _ = { tmps := #[.pointer (some ⟨vb,0,none⟩),x1,x2,.pointer (some ⟨p,0,none⟩),x4,x5,x6,opv o u,.bool true,x9,x10,x11,x12,aF,aE,aD,aC,aB,aA,az,ay,ax,av,au,ar,aa,ab,ad,ae,af,ag,ah,ai,aj,ak,al,am,ao,ap,aq],defers := [] } from by kernel_rfl]
  refine ⟨S1, ?_⟩
  refine wpAnyH_take (i := 2) (oi := kxr2) (v := .bool false) (by kernel_rfl) kxr_lit (by kernel_rfl) (by kernel_rfl) (fun c a W h => hP c _ _ _ W h) (Or.inl ⟨by kernel_rfl, fun W hW => by kernel_rfl⟩) S1 ?_
  rw [show Act.put _ kxr2.dst _ = { tmps := #[.pointer (some ⟨vb,0,none⟩),x1,x2,.pointer (some ⟨p,0,none⟩),x4,x5,x6,opv o u,.bool true,.bool false,x10,x11,x12,aF,aE,aD,aC,aB,aA,az,ay,ax,av,au,ar,aa,ab,ad,ae,af,ag,ah,ai,aj,ak,al,am,ao,ap,aq],defers := [] } from by kernel_rfl]
  refine wpAnyH_take (i := 3) (oi := kxr3) (v := .bool false) (by kernel_rfl) kxr_lit (by kernel_rfl) (by kernel_rfl) (fun c a W h => hP c _ _ _ W h) (Or.inl ⟨by kernel_rfl, fun W hW => by kernel_rfl⟩) S1 ?_
  rw [show Act.put _ kxr3.dst _ = { tmps := #[.pointer (some ⟨vb,0,none⟩),x1,x2,.pointer (some ⟨p,0,none⟩),x4,x5,x6,opv o u,.bool true,.bool false,.bool false,x11,x12,aF,aE,aD,aC,aB,aA,az,ay,ax,av,au,ar,aa,ab,ad,ae,af,ag,ah,ai,aj,ak,al,am,ao,ap,aq],defers := [] } from by kernel_rfl]
  refine wpAnyH_take (i := 4) (oi := kxr4) (v := .pointer (some ⟨vb, 0, none⟩)) (by kernel_rfl) kxr_lit (by kernel_rfl) (by kernel_rfl) (fun c a W h => hP c _ _ _ W h) (Or.inl ⟨by kernel_rfl, fun W hW => by kernel_rfl⟩) S1 ?_
  rw [show Act.put _ kxr4.dst _ = { tmps := #[.pointer (some ⟨vb,0,none⟩),x1,x2,.pointer (some ⟨p,0,none⟩),x4,x5,x6,opv o u,.bool true,.bool false,.bool false,.pointer (some ⟨vb,0,none⟩),x12,aF,aE,aD,aC,aB,aA,az,ay,ax,av,au,ar,aa,ab,ad,ae,af,ag,ah,ai,aj,ak,al,am,ao,ap,aq],defers := [] } from by kernel_rfl]
  refine wpAnyH_take (i := 5) (oi := kxr5) (v := .pointer (some ⟨p, 1, none⟩)) (by kernel_rfl) kxr_lit (by kernel_rfl) (by kernel_rfl) (fun c a W h => hP c _ _ _ W h) (Or.inl ⟨by kernel_rfl, fun W hW => by kernel_rfl⟩) S1 ?_
  rw [show Act.put _ kxr5.dst _ = { tmps := #[.pointer (some ⟨vb,0,none⟩),x1,x2,.pointer (some ⟨p,0,none⟩),x4,x5,x6,opv o u,.bool true,.bool false,.bool false,.pointer (some ⟨vb,0,none⟩),.pointer (some ⟨p,1,none⟩),aF,aE,aD,aC,aB,aA,az,ay,ax,av,au,ar,aa,ab,ad,ae,af,ag,ah,ai,aj,ak,al,am,ao,ap,aq],defers := [] } from by kernel_rfl]
  refine wpAnyH_take (i := 6) (oi := kxr6) (v := .pointer (some ⟨p, 1, none⟩)) (by kernel_rfl) kxr_lit (by kernel_rfl) (by kernel_rfl) (fun c a W h => hP c _ _ _ W h) (Or.inl ⟨by kernel_rfl, fun W hW => by kernel_rfl⟩) S1 ?_
  rw [show Act.put _ kxr6.dst _ = { tmps := #[.pointer (some ⟨vb,0,none⟩),x1,x2,.pointer (some ⟨p,0,none⟩),x4,x5,x6,opv o u,.bool true,.bool false,.bool false,.pointer (some ⟨vb,0,none⟩),.pointer (some ⟨p,1,none⟩),.pointer (some ⟨p,1,none⟩),aE,aD,aC,aB,aA,az,ay,ax,av,au,ar,aa,ab,ad,ae,af,ag,ah,ai,aj,ak,al,am,ao,ap,aq],defers := [] } from by kernel_rfl]
  refine wpAnyH_take (i := 7) (oi := kxr7) (v := .int .i64 (k : Int)) (by kernel_rfl) kxr_lit (by kernel_rfl) (by kernel_rfl) (fun c a W h => hP c _ _ _ W h) (Or.inl ⟨by kernel_rfl, fun W hW => run_ldnum rfl rfl (hk ▸ hW.ob.cells.c1)⟩) S1 ?_
  rw [show Act.put _ kxr7.dst _ = { tmps := #[.pointer (some ⟨vb,0,none⟩),x1,x2,.pointer (some ⟨p,0,none⟩),x4,x5,x6,opv o u,.bool true,.bool false,.bool false,.pointer (some ⟨vb,0,none⟩),.pointer (some ⟨p,1,none⟩),.pointer (some ⟨p,1,none⟩),.int .i64 (k : Int),aD,aC,aB,aA,az,ay,ax,av,au,ar,aa,ab,ad,ae,af,ag,ah,ai,aj,ak,al,am,ao,ap,aq],defers := [] } from by kernel_rfl]
  refine wpAnyH_take (i := 8) (oi := kxr8) (v := .pointer (some ⟨vb, 0, none⟩)) (by kernel_rfl) kxr_lit (by kernel_rfl) (by kernel_rfl) (fun c a W h => hP c _ _ _ W h) (Or.inl ⟨by kernel_rfl, fun W hW => by kernel_rfl⟩) S1 ?_
  rw [show Act.put _ kxr8.dst _ = { tmps := #[.pointer (some ⟨vb,0,none⟩),x1,x2,.pointer (some ⟨p,0,none⟩),x4,x5,x6,opv o u,.bool true,.bool false,.bool false,.pointer (some ⟨vb,0,none⟩),.pointer (some ⟨p,1,none⟩),.pointer (some ⟨p,1,none⟩),.int .i64 (k : Int),.pointer (some ⟨vb,0,none⟩),aC,aB,aA,az,ay,ax,av,au,ar,aa,ab,ad,ae,af,ag,ah,ai,aj,ak,al,am,ao,ap,aq],defers := [] } from by kernel_rfl]
  refine wpAnyH_take (i := 9) (oi := kxr9) (v := .pointer (some ⟨vb, 0, none⟩)) (by kernel_rfl) kxr_lit (by kernel_rfl) (by kernel_rfl) (fun c a W h => hP c _ _ _ W h) (Or.inl ⟨by kernel_rfl, fun W hW => by kernel_rfl⟩) S1 ?_
  rw [show Act.put _ kxr9.dst _ = { tmps := #[.pointer (some ⟨vb,0,none⟩),x1,x2,.pointer (some ⟨p,0,none⟩),x4,x5,x6,opv o u,.bool true,.bool false,.bool false,.pointer (some ⟨vb,0,none⟩),.pointer (some ⟨p,1,none⟩),.pointer (some ⟨p,1,none⟩),.int .i64 (k : Int),.pointer (some ⟨vb,0,none⟩),.pointer (some ⟨vb,0,none⟩),aB,aA,az,ay,ax,av,au,ar,aa,ab,ad,ae,af,ag,ah,ai,aj,ak,al,am,ao,ap,aq],defers := [] } from by kernel_rfl]
  refine wpAnyH_take (i := 10) (oi := kxr10) (v := .pointer (some ⟨vb, k, none⟩)) (by kernel_rfl) kxr_lit (by kernel_rfl) (by kernel_rfl) (fun c a W h => hP c _ _ _ W h) (Or.inl ⟨by kernel_rfl, fun W hW => run_ixarr rfl rfl rfl hk16⟩) S1 ?_
  rw [show Act.put _ kxr10.dst _ = { tmps := #[.pointer (some ⟨vb,0,none⟩),x1,x2,.pointer (some ⟨p,0,none⟩),x4,x5,x6,opv o u,.bool true,.bool false,.bool false,.pointer (some ⟨vb,0,none⟩),.pointer (some ⟨p,1,none⟩),.pointer (some ⟨p,1,none⟩),.int .i64 (k : Int),.pointer (some ⟨vb,0,none⟩),.pointer (some ⟨vb,0,none⟩),.pointer (some ⟨vb,k,none⟩),aA,az,ay,ax,av,au,ar,aa,ab,ad,ae,af,ag,ah,ai,aj,ak,al,am,ao,ap,aq],defers := [] } from by kernel_rfl]
  refine wpAnyH_take (i := 11) (oi := kxr11) (v := .int .i64 (X.getD k 0)) (by kernel_rfl) kxr_lit (by kernel_rfl) (by kernel_rfl) (fun c a W h => hP c _ _ _ W h) (Or.inl ⟨by kernel_rfl, fun W hW => run_ldnum rfl rfl (hW.vc.cell hk16)⟩) S1 ?_
  rw [show Act.put _ kxr11.dst _ = { tmps := #[.pointer (some ⟨vb,0,none⟩),x1,x2,.pointer (some ⟨p,0,none⟩),x4,x5,x6,opv o u,.bool true,.bool false,.bool false,.pointer (some ⟨vb,0,none⟩),.pointer (some ⟨p,1,none⟩),.pointer (some ⟨p,1,none⟩),.int .i64 (k : Int),.pointer (some ⟨vb,0,none⟩),.pointer (some ⟨vb,0,none⟩),.pointer (some ⟨vb,k,none⟩),.int .i64 (X.getD k 0),az,ay,ax,av,au,ar,aa,ab,ad,ae,af,ag,ah,ai,aj,ak,al,am,ao,ap,aq],defers := [] } from by kernel_rfl]
  refine wpAnyH_take (i := 12) (oi := kxr12) (v := .int .i64 (X.getD k 0 + 1)) (by kernel_rfl) kxr_lit (by kernel_rfl) (by kernel_rfl) (fun c a W h => hP c _ _ _ W h) (Or.inl ⟨by kernel_rfl, fun W hW => run_inc rfl rfl (hW.vc.1.2 _)⟩) S1 ?_
  rw [show Act.put _ kxr12.dst _ = { tmps := #[.pointer (some ⟨vb,0,none⟩),x1,x2,.pointer (some ⟨p,0,none⟩),x4,x5,x6,opv o u,.bool true,.bool false,.bool false,.pointer (some ⟨vb,0,none⟩),.pointer (some ⟨p,1,none⟩),.pointer (some ⟨p,1,none⟩),.int .i64 (k : Int),.pointer (some ⟨vb,0,none⟩),.pointer (some ⟨vb,0,none⟩),.pointer (some ⟨vb,k,none⟩),.int .i64 (X.getD k 0),.int .i64 (X.getD k 0 + 1),ay,ax,av,au,ar,aa,ab,ad,ae,af,ag,ah,ai,aj,ak,al,am,ao,ap,aq],defers := [] } from by kernel_rfl]
  refine wpAnyH_take (i := 13) (oi := kxr13) (v := .pointer (some ⟨p, 1, none⟩)) (by kernel_rfl) kxr_lit (by kernel_rfl) (by kernel_rfl) (fun c a W h => hP c _ _ _ W h) (Or.inl ⟨by kernel_rfl, fun W hW => by kernel_rfl⟩) S1 ?_
  rw [show Act.put _ kxr13.dst _ = { tmps := #[.pointer (some ⟨vb,0,none⟩),x1,x2,.pointer (some ⟨p,0,none⟩),x4,x5,x6,opv o u,.bool true,.bool false,.bool false,.pointer (some ⟨vb,0,none⟩),.pointer (some ⟨p,1,none⟩),.pointer (some ⟨p,1,none⟩),.int .i64 (k : Int),.pointer (some ⟨vb,0,none⟩),.pointer (some ⟨vb,0,none⟩),.pointer (some ⟨vb,k,none⟩),.int .i64 (X.getD k 0),.int .i64 (X.getD k 0 + 1),.pointer (some ⟨p,1,none⟩),ax,av,au,ar,aa,ab,ad,ae,af,ag,ah,ai,aj,ak,al,am,ao,ap,aq],defers := [] } from by kernel_rfl]
  refine wpAnyH_take (i := 14) (oi := kxr14) (v := .pointer (some ⟨p, 2, none⟩)) (by kernel_rfl) kxr_lit (by kernel_rfl) (by kernel_rfl) (fun c a W h => hP c _ _ _ W h) (Or.inl ⟨by kernel_rfl, fun W hW => by kernel_rfl⟩) S1 ?_
  rw [show Act.put _ kxr14.dst _ = { tmps := #[.pointer (some ⟨vb,0,none⟩),x1,x2,.pointer (some ⟨p,0,none⟩),x4,x5,x6,opv o u,.bool true,.bool false,.bool false,.pointer (some ⟨vb,0,none⟩),.pointer (some ⟨p,1,none⟩),.pointer (some ⟨p,1,none⟩),.int .i64 (k : Int),.pointer (some ⟨vb,0,none⟩),.pointer (some ⟨vb,0,none⟩),.pointer (some ⟨vb,k,none⟩),.int .i64 (X.getD k 0),.int .i64 (X.getD k 0 + 1),.pointer (some ⟨p,1,none⟩),.pointer (some ⟨p,2,none⟩),av,au,ar,aa,ab,ad,ae,af,ag,ah,ai,aj,ak,al,am,ao,ap,aq],defers := [] } from by kernel_rfl]
  refine wpAnyH_take (i := 15) (oi := kxr15) (v := .int .i64 o.im) (by kernel_rfl) kxr_lit (by kernel_rfl) (by kernel_rfl) (fun c a W h => hP c _ _ _ W h) (Or.inl ⟨by kernel_rfl, fun W hW => run_ldnum rfl rfl hW.ob.cells.c2⟩) S1 ?_
  rw [show Act.put _ kxr15.dst _ = { tmps := #[.pointer (some ⟨vb,0,none⟩),x1,x2,.pointer (some ⟨p,0,none⟩),x4,x5,x6,opv o u,.bool true,.bool false,.bool false,.pointer (some ⟨vb,0,none⟩),.pointer (some ⟨p,1,none⟩),.pointer (some ⟨p,1,none⟩),.int .i64 (k : Int),.pointer (some ⟨vb,0,none⟩),.pointer (some ⟨vb,0,none⟩),.pointer (some ⟨vb,k,none⟩),.int .i64 (X.getD k 0),.int .i64 (X.getD k 0 + 1),.pointer (some ⟨p,1,none⟩),.pointer (some ⟨p,2,none⟩),.int .i64 o.im,au,ar,aa,ab,ad,ae,af,ag,ah,ai,aj,ak,al,am,ao,ap,aq],defers := [] } from by kernel_rfl]
  refine wpAnyH_take (i := 16) (oi := kxr16) (v := .bool d) (by kernel_rfl) kxr_lit (by kernel_rfl) (by kernel_rfl) (fun c a W h => hP c _ _ _ W h) (Or.inl ⟨by kernel_rfl, fun W hW => run_neb rfl rfl rfl hd⟩) S1 ?_
  rw [show Act.put _ kxr16.dst _ = { tmps := #[.pointer (some ⟨vb,0,none⟩),x1,x2,.pointer (some ⟨p,0,none⟩),x4,x5,x6,opv o u,.bool true,.bool false,.bool false,.pointer (some ⟨vb,0,none⟩),.pointer (some ⟨p,1,none⟩),.pointer (some ⟨p,1,none⟩),.int .i64 (k : Int),.pointer (some ⟨vb,0,none⟩),.pointer (some ⟨vb,0,none⟩),.pointer (some ⟨vb,k,none⟩),.int .i64 (X.getD k 0),.int .i64 (X.getD k 0 + 1),.pointer (some ⟨p,1,none⟩),.pointer (some ⟨p,2,none⟩),.int .i64 o.im,.bool d,ar,aa,ab,ad,ae,af,ag,ah,ai,aj,ak,al,am,ao,ap,aq],defers := [] } from by kernel_rfl]
  refine wpAnyH_take (i := 17) (oi := kxr17) (v := .bool d) (by kernel_rfl) kxr_lit (by kernel_rfl) (by kernel_rfl) (fun c a W h => hP c _ _ _ W h) (Or.inl ⟨by kernel_rfl, fun W hW => by kernel_rfl⟩) S1 ?_
  rw [show Act.put _ kxr17.dst _ = { tmps := #[.pointer (some ⟨vb,0,none⟩),x1,x2,.pointer (some ⟨p,0,none⟩),x4,x5,x6,opv o u,.bool true,.bool false,.bool false,.pointer (some ⟨vb,0,none⟩),.pointer (some ⟨p,1,none⟩),.pointer (some ⟨p,1,none⟩),.int .i64 (k : Int),.pointer (some ⟨vb,0,none⟩),.pointer (some ⟨vb,0,none⟩),.pointer (some ⟨vb,k,none⟩),.int .i64 (X.getD k 0),.int .i64 (X.getD k 0 + 1),.pointer (some ⟨p,1,none⟩),.pointer (some ⟨p,2,none⟩),.int .i64 o.im,.bool d,.bool d,aa,ab,ad,ae,af,ag,ah,ai,aj,ak,al,am,ao,ap,aq],defers := [] } from by kernel_rfl]
  exact wpAnyH_done (by kernel_rfl) (hQ _ BW1) _

end Go.Proofs.YtaojeanoojnknaaDoor

/-
  In whatever order ops are offered the same ones are taken, as data: what is taken is the least that is closed. Nothing of the program is walked here.
-/
namespace Go.Proofs.YtaojeanoojnknaaDoor
open Go.RowKit
set_option linter.unusedVariables false
set_option maxRecDepth 100000

theorem ready_parts {V : List Int} {o : Opn} (hV : Vk V) (h : readyO V o = true) : rightO o = true ∧ ro o.ir o.im = true ∧ V.getD o.ir.toNat 0 + 1 = o.im ∧ ∀ x ∈ needsO o, hasV V x.1 x.2 = true := by
  unfold readyO at h
  simp only [Bool.and_eq_true, decide_eq_true_eq, List.all_eq_true] at h
  obtain ⟨⟨h1, h2⟩, h3⟩ := h
  have hr := (right_parts h1).1.1
  have hb := ro_iff.1 hr
  refine ⟨h1, hr, ?_, h3⟩
  unfold nextV at h2
  rw [if_neg (by omega)] at h2
  split at h2 <;> omega
theorem ready_of {V : List Int} {o : Opn} (h1 : rightO o = true) (h2 : V.getD o.ir.toNat 0 + 1 = o.im) (h3 : ∀ x ∈ needsO o, hasV V x.1 x.2 = true) : readyO V o = true := by
  have hb := ro_iff.1 (right_parts h1).1.1
  unfold readyO
  simp only [Bool.and_eq_true, decide_eq_true_eq, List.all_eq_true]
  refine ⟨⟨h1, ?_⟩, h3⟩
  unfold nextV
  rw [if_neg (by omega), if_neg (by omega)]
  exact h2
end Go.Proofs.YtaojeanoojnknaaDoor

/-
  What the reference's Ready answers is proved here.
-/
namespace Go.Proofs.YtaojeanoojnknaaDoor
open Go.RowKit
set_option linter.unusedVariables false
set_option maxRecDepth 100000

set_option maxHeartbeats 2000000 in
theorem xcready_box (A : Value) (vb : Nat) (V : List Int) (o : Opn) (u : Value) (hA : A = opv o u) (w : World) (hV : Vc w vb V) (hC : Cs w u o.cuts) (hf : o.fine) (hl : o.cuts.length ≤ 100000) :
    Calls Tryd.prog 13 #[.pointer (some ⟨vb, 0, none⟩), A] w fun e w' => e = .returned (.bool (readyO V o)) ∧ Below w.heap.size w w' := by
  have HA := hid hA
  have HV := hid hV
  have HC := hid hC
  have HF := hid hf
  have HCL := hid hl
  obtain ⟨z, hz⟩ : ∃ z, readyO V o = z := ⟨_, rfl⟩
  have HZ := hid hz
  rw [hz]
  clear hA hV hC hf hl hz
  cases hr : rightO o
  · have HR := hid hr
    have hz : z = false := by rw [← HZ.out]; unfold readyO; rw [hr]; rfl
    subst hz
    clear hr
    go_enter Tryd.func13, Tryd.ntmps13
    go_upto_region 1 with (refine wpList_box_op rfl _ rfl A rfl o u HA.out ?_; intro w1 hob hb1 hlt1; have HO1 := hid hob; have B1 := hid hb1; clear hob hb1 hlt1)
    have HG := hid (show Vx w1 vb w.heap.size V o u from ⟨HV.out.below B1.out, HO1.out, HC.out.below B1.out⟩)
    have A1 := HA.out
    subst A1
    refine xrdy_no (vb := vb) (p := w.heap.size) (X := V) (o := o) (u := u) HG.out HF.out HR.out (fun _ _ _ _ _ h => h) ?_
    intro W hW
    go_wp2_with fail
    go_ret
    exact ⟨rfl, bt B1.out hW⟩
  · have HR := hid hr
    have hro := (right_parts hr).1.1
    have hrr := ro_iff.1 hro
    obtain ⟨k, hk⟩ : ∃ k : Nat, o.ir = (k : Int) := ⟨o.ir.toNat, by omega⟩
    have hk16 : k < 16 := by omega
    have hkt : o.ir.toNat = k := by omega
    have HK := hid hk
    have HKT := hid hkt
    have HK16 := hid hk16
    clear hr hro hrr hk hk16 hkt
    cases hd : decide (V.getD k 0 + 1 ≠ o.im)
    case true =>
      have HD := hid hd
      have hz : z = false := by
        rw [← HZ.out]
        by_cases h : readyO V o = true
        · have h1 := (ready_parts HV.out.1 h).2.2.1
          rw [HKT.out] at h1
          exact absurd h1 (by simpa using hd)
        · simpa using h
      subst hz
      clear hd
      go_enter Tryd.func13, Tryd.ntmps13
      go_upto_region 1 with (refine wpList_box_op rfl _ rfl A rfl o u HA.out ?_; intro w1 hob hb1 hlt1; have HO1 := hid hob; have B1 := hid hb1; clear hob hb1 hlt1)
      have HG := hid (show Vx w1 vb w.heap.size V o u from ⟨HV.out.below B1.out, HO1.out, HC.out.below B1.out⟩)
      have A1 := HA.out
      subst A1
      refine xrdy_yes (vb := vb) (p := w.heap.size) (X := V) (o := o) (u := u) HG.out HF.out HR.out HK.out HK16.out HD.out (fun _ _ _ _ _ h => h) ?_
      intro W hW
      go_wp2_with fail
      go_ret
      exact ⟨rfl, bt B1.out hW⟩
    case false =>
      have HD := hid hd
      have HNX : Hid (V.getD o.ir.toNat 0 + 1 = o.im) := hid (by rw [HKT.out]; simpa using hd)
      clear hd
      go_enter Tryd.func13, Tryd.ntmps13
      go_upto_region 1 with (refine wpList_box_op rfl _ rfl A rfl o u HA.out ?_; intro w1 hob hb1 hlt1; have HO1 := hid hob; have B1 := hid hb1; clear hob hb1 hlt1)
      have HG := hid (show Vx w1 vb w.heap.size V o u from ⟨HV.out.below B1.out, HO1.out, HC.out.below B1.out⟩)
      have A1 := HA.out
      subst A1
      refine xrdy_yes (vb := vb) (p := w.heap.size) (X := V) (o := o) (u := u) HG.out HF.out HR.out HK.out HK16.out HD.out (fun _ _ _ _ _ h => h) ?_
      intro W hW
      have HGW := hid (HG.out.below hW)
      have BW := hid (bt B1.out hW)
      clear hW HG HO1
      go_wp2_with (first | (refine wpList_load_op rfl _ rfl w.heap.size rfl o u HGW.out.ob ?_) | fail)
      refine (xneeds_any o u W HGW.out.cs HCL.out).mono ?_
      rintro e w9 ⟨nv, rfl, hns9, b9⟩
      obtain ⟨m, hm⟩ : ∃ m, (needsO o).length = m := ⟨_, rfl⟩
      obtain ⟨ia, ic, hiv, _⟩ := hns9.form
      rw [hm] at hiv
      subst hiv
      have HNS := hid hns9
      have HM := hid hm
      have hm9 := hns9.len
      unfold maxLen at hm9
      rw [hm] at hm9
      have HX9 := hid (HGW.out.vc.below b9)
      have B9 := hid (bt BW.out b9)
      clear hns9 b9 hm HGW BW
      go_wp2
      go_loopw [6] (fun i wz => ∃ k2 : Nat, i = .int .i64 k2 ∧ k2 ≤ m ∧ (∀ x ∈ (needsO o).take k2, hasV V x.1 x.2 = true) ∧ Below w9.heap.size w9 wz) (fun i _ => m - (intOf i).toNat)
      case atStart => exact ⟨0, rfl, Nat.zero_le _, fun x hx => by simp at hx, Below.refl _ _⟩
      case round =>
        obtain ⟨k2, rfl, hk2, hall, hb2⟩ := hrel
        have BZ := hid hb2
        have HAL := hid hall
        have HXZ := hid (HX9.out.below hb2)
        clear hb2 hall
        by_cases hlt2 : k2 < m
        · have hlt2' : (k2 : Int) < (m : Int) := by omega
          have hx2 : k2 < (needsO o).length := by rw [HM.out]; exact hlt2
          obtain ⟨g, off, c', e1, _, _, hbl, hc⟩ := HNS.out.inv (by omega)
          rw [HM.out] at e1
          simp only [Value.slice.injEq] at e1
          obtain ⟨rfl, -, rfl⟩ := e1
          obtain ⟨d0, d1⟩ := hc k2 hx2
          obtain ⟨⟨x1, x2⟩, hx⟩ : ∃ x, (needsO o)[k2] = x := ⟨_, rfl⟩
          rw [hx] at d0 d1
          dsimp only at d0 d1
          have z0 := (BZ.out.cell (p := ⟨g, off + k2 * 2, none⟩) hbl).trans d0
          have z1 := (BZ.out.cell (p := ⟨g, off + k2 * 2 + 1, none⟩) hbl).trans d1
          have HHS := hid (xhas_any vb V x1 x2 _ HXZ.out)
          have HPX := hid hx
          clear hx d0 d1 hc
          cases hhv : hasV V x1 x2
          · rw [hhv] at HHS
            have HHV := hid hhv
            clear hhv
            go_wp2_with fail
            refine HHS.out.mono ?_
            rintro e w10 ⟨rfl, b10⟩
            have hz : z = false := by
              rw [← HZ.out]
              by_cases h : readyO V o = true
              · have h1 := (ready_parts HX9.out.1 h).2.2.2 _ (List.getElem_mem hx2)
                rw [HPX.out, HHV.out] at h1
                cases h1
              · simpa using h
            subst hz
            go_wp2_with fail
            go_ret
            exact ⟨rfl, bt B9.out (bt BZ.out b10)⟩
          · rw [hhv] at HHS
            have HHV := hid hhv
            clear hhv
            go_wp2_with fail
            refine HHS.out.mono ?_
            rintro e w10 ⟨rfl, b10⟩
            have BZ2 := hid (BZ.out.trans (b10.mono BZ.out.size))
            clear b10
            go_wp2_with fail
            go_roundw
            case rel =>
              refine ⟨k2 + 1, by go_num, hlt2, fun x hx => ?_, BZ2.out⟩
              rw [List.take_succ_eq_append_getElem hx2, HPX.out] at hx
              rcases List.mem_append.1 hx with hx | hx
              · exact HAL.out x hx
              · rw [List.mem_singleton.1 hx]; exact HHV.out
            case measure => simp [intOf]; omega
        · obtain rfl : k2 = m := by omega
          have hnl : ¬ (k2 : Int) < (k2 : Int) := by omega
          have hz : z = true := by
            rw [← HZ.out]
            exact ready_of HR.out HNX.out (fun x hx => HAL.out x (by rw [List.take_of_length_le (by rw [HM.out]; exact Nat.le_refl _)]; exact hx))
          subst hz
          go_wp2
          go_ret
          exact ⟨rfl, bt B9.out BZ.out⟩
theorem xcready_any (vb : Nat) (V : List Int) (o : Opn) (u : Value) (w : World) (hV : Vc w vb V) (hC : Cs w u o.cuts) (hf : o.fine) (hl : o.cuts.length ≤ 100000) :
    Calls Tryd.prog 13 #[.pointer (some ⟨vb, 0, none⟩), opv o u] w fun e w' => e = .returned (.bool (readyO V o)) ∧ Below w.heap.size w w' := xcready_box _ vb V o u rfl w hV hC hf hl

end Go.Proofs.YtaojeanoojnknaaDoor

/-
  What the reference's Offer answers, and leaves, is proved here.
-/
namespace Go.Proofs.YtaojeanoojnknaaDoor
open Go.RowKit
set_option linter.unusedVariables false
set_option maxRecDepth 100000

theorem off_form {V : List Int} {l : List Opn} {o : Opn} {k : Int} (h : offC V l o = k) (h0 : k ≠ 0) : offL V l o = l := by
  unfold offL
  rw [if_neg (by rw [h]; exact h0)]
theorem off_10 {V : List Int} {l : List Opn} {o : Opn} (h : rightO o = false) : offC V l o = 10 := by unfold offC; rw [if_pos h]
theorem off_12 {V : List Int} {l : List Opn} {o : Opn} (h : rightO o = true) (h2 : hasV V o.ir o.im = true ∨ ido2 o ∈ l.map ido2) : offC V l o = 12 := by
  unfold offC; rw [if_neg (by rw [h]; decide), if_pos h2]
theorem off_14 {V : List Int} {l : List Opn} {o : Opn} (h : rightO o = true) (h1 : hasV V o.ir o.im = false) (h2 : ido2 o ∉ l.map ido2) (h3 : 64 ≤ l.length) (h4 : readyO V o = false) : offC V l o = 14 := by
  unfold offC; rw [if_neg (by rw [h]; decide), if_neg (by rw [h1]; rintro (h | h); cases h; exact h2 h), if_pos ⟨h3, h4⟩]
theorem off_0 {V : List Int} {l : List Opn} {o : Opn} (h : rightO o = true) (h1 : hasV V o.ir o.im = false) (h2 : ido2 o ∉ l.map ido2) (h3 : l.length < 64 ∨ readyO V o = true) : offC V l o = 0 := by
  unfold offC; rw [if_neg (by rw [h]; decide), if_neg (by rw [h1]; rintro (h | h); cases h; exact h2 h), if_neg (by rintro ⟨h5, h6⟩; rcases h3 with h3 | h3; omega; rw [h6] at h3; cases h3)]
/-- Where an op is put in. -/
theorem ins_at {l : List Opn} {o : Opn} {a : Nat} (h1 : ∀ p ∈ l.take a, kl (ido2 p) (ido2 o)) (h2 : ∀ p ∈ l.drop a, ¬ kl (ido2 p) (ido2 o) ∧ ido2 p ≠ ido2 o) : insO o l = l.take a ++ o :: l.drop a := by
  have e : l = l.take a ++ l.drop a := (List.take_append_drop a l).symm
  have h3 : ∀ p ∈ l.drop a, kl (ido2 o) (ido2 p) := fun p hp => (kl_total (h2 p hp).2).resolve_left (h2 p hp).1
  have f1 : l.filter (fun p => klB (ido2 p) (ido2 o)) = l.take a := by
    conv => lhs; rw [e]
    rw [List.filter_append, List.filter_eq_self.2 (fun p hp => klB_iff.2 (h1 p hp)), List.filter_eq_nil_iff.2 (fun p hp => by rw [klB_iff]; exact (h2 p hp).1), List.append_nil]
  have f2 : l.filter (fun p => klB (ido2 o) (ido2 p)) = l.drop a := by
    conv => lhs; rw [e]
    rw [List.filter_append, List.filter_eq_nil_iff.2 (fun p hp => by rw [klB_iff]; exact fun h => kl_irrefl _ (kl_trans h (h1 p hp))), List.filter_eq_self.2 (fun p hp => klB_iff.2 (h3 p hp)), List.nil_append]
  unfold insO
  rw [f1, f2]
theorem fsts_ins (l : List (Opn × Value)) (a : Nat) (o : Opn) (u : Value) : fsts (l.take a ++ [(o, u)] ++ l.drop a) = (fsts l).take a ++ o :: (fsts l).drop a := by
  unfold fsts
  rw [List.map_append, List.map_append, List.map_take, List.map_drop]
  simp
/-- What Offer comes to. -/
def XfX (N r : Nat) (w : World) (V : List Int) (l : List (Opn × Value)) (o : Opn) (e : Ending) (w' : World) : Prop :=
  e = .returned (.int .i64 (offC V (fsts l) o)) ∧ (∃ v' l', fsts l' = offL V (fsts l) o ∧ Xr N w' r v' l') ∧ Fr (fun k => k = r) w w'
theorem XfX.no {N r : Nat} {w w' : World} {V : List Int} {v : Value} {l : List (Opn × Value)} {o : Opn} (h : Xr N w r v l) (hb : Below w.heap.size w w') {k : Int} (hk : offC V (fsts l) o = k) (h0 : k ≠ 0) : XfX N r w V l o (.returned (.int .i64 k)) w' :=
  ⟨by rw [hk], ⟨v, l, (off_form hk h0).symm, h.below hb⟩, Fr.of_below hb⟩

set_option maxHeartbeats 8000000 in
theorem xoffer_box (A : Value) {N r vb : Nat} {V : List Int} {v : Value} {l : List (Opn × Value)} (o : Opn) (u : Value) (hA : A = opv o u) (w : World) (h : Xr N w r v l) (hV : Vc w vb V) (hW : Wl (fsts l)) (hC : Cs w u o.cuts) (hf : o.fine) (hl : o.cuts.length ≤ 100000) (hn : l.length ≤ 900) :
    Calls Tryd.prog 15 #[.pointer (some ⟨r, 0, none⟩), .pointer (some ⟨vb, 0, none⟩), A] w fun e w' => XfX N r w V l o e w' := by
  obtain ⟨n, hnn⟩ : ∃ n, l.length = n := ⟨_, rfl⟩
  obtain ⟨A1, c, hv, hc0, hc1⟩ := Sl.form h.os.1
  rw [hnn] at hv hn hc0
  subst hv
  have HX := hid h
  have HN := hid hnn
  have HV := hid hV
  have HWL := hid hW
  have HC := hid hC
  have HF := hid hf
  have HCL := hid hl
  have HA := hid hA
  have HFN : Hid ((fsts l).length = n) := hid (by unfold fsts; rw [List.length_map]; exact hnn)
  clear h hnn hV hW hC hf hl hA
  go_enter Tryd.func15, Tryd.ntmps15
  go_upto_region 1 with (refine wpList_box_op rfl _ rfl A rfl o u HA.out ?_; intro w1 hob hb1 hlt1; have HO1 := hid hob; have B1 := hid hb1; clear hob hb1 hlt1)
  have AA := HA.out
  subst AA
  have HRG := hid (xright_any o u w1 (HC.out.below B1.out) HF.out)
  cases hr : rightO o
  case false =>
    rw [hr] at HRG
    have HR := hid hr
    clear hr
    go_wp2_with (first | (refine wpList_load_op rfl _ rfl w.heap.size rfl o u HO1.out ?_) | fail)
    refine HRG.out.mono ?_
    rintro e w2 ⟨rfl, b2⟩
    go_wp2
    go_ret
    exact XfX.no HX.out (bt B1.out b2) (off_10 HR.out) (by decide)
  case true =>
  rw [hr] at HRG
  have HR := hid hr
  clear hr
  go_wp2_with (first | (refine wpList_load_op rfl _ rfl w.heap.size rfl o u HO1.out ?_) | fail)
  refine HRG.out.mono ?_
  rintro e w2 ⟨rfl, b2⟩
  have HO2 := hid (HO1.out.below b2)
  have B2 := hid (bt B1.out b2)
  clear b2 HRG HO1
  go_wp2
  go_loopw [7,8] (fun i0 i wr => ∃ a k : Nat,i0 = .int .i64 a ∧ i = .int .i64 k ∧ a ≤ k ∧ k ≤ n ∧ (∀ p ∈ (fsts l).take a,kl (ido2 p) (ido2 o)) ∧ (∀ p ∈ ((fsts l).take k).drop a,¬ kl (ido2 p) (ido2 o) ∧ ido2 p ≠ ido2 o) ∧ (∀ p ∈ (fsts l).take k,ido2 p ≠ ido2 o) ∧ Below w2.heap.size w2 wr) (fun _ i _ => n - (intOf i).toNat)
  case atStart => exact ⟨0, 0, rfl, rfl, Nat.le_refl _, Nat.zero_le _, by simp, by simp, by simp, Below.refl _ _⟩
  case round =>
    obtain ⟨a, k, rfl, rfl, hak, hk, h1, h2, h3, hb⟩ := hrel
    have H1 := hid h1
    have H2 := hid h2
    have H3 := hid h3
    have BZ := hid hb
    have BR := hid (bt B2.out hb)
    have HXR := hid (HX.out.below BR.out)
    have HVR := hid (HV.out.below BR.out)
    have HOR := hid (HO2.out.below hb)
    have z1 := HXR.out.cell
    clear h1 h2 h3 hb
    by_cases hlt : k < n
    case pos =>
      have hlt' : (k : Int) < (n : Int) := by omega
      have hx : k < l.length := by rw [HN.out]; exact hlt
      obtain ⟨b, off, c', e1, _, _, hbl, hcc⟩ := HXR.out.os.inv (by omega)
      rw [HN.out] at e1
      simp only [Value.slice.injEq] at e1
      obtain ⟨rfl, -, rfl⟩ := e1
      have hc := hcc k hx
      obtain ⟨⟨q, u9⟩, hp⟩ : ∃ p, l[k] = p := ⟨_, rfl⟩
      have hfx : k < (fsts l).length := by rw [HFN.out]; exact hlt
      have hfi : (fsts l)[k] = q := by unfold fsts; rw [List.getElem_map, hp]
      rw [hp] at hc
      have hXO : Xo wr r w.heap.size b off n c k q o u := ⟨z1, ⟨hc 1 (by decide), hc 2 (by decide)⟩, HOR.out⟩
      have HXO := hid hXO
      have et : (fsts l).take (k + 1) = (fsts l).take k ++ [q] := by rw [List.take_succ_eq_append_getElem hfx, hfi]
      have HET := hid et
      have HMQ : Hid (q ∈ fsts l) := hid (by rw [← hfi]; exact List.getElem_mem hfx)
      have hlo : ∀ p ∈ (fsts l).take k, kl (ido2 p) (ido2 q) := by
        intro p hp'
        have hs := HWL.out.1
        have e : fsts l = (fsts l).take k ++ q :: (fsts l).drop (k + 1) := by rw [← hfi, ← List.drop_eq_getElem_cons hfx, List.take_append_drop]
        unfold Srted at hs
        rw [e, List.pairwise_append] at hs
        exact hs.2.2 p hp' q (by simp)
      have HLO := hid hlo
      clear hcc hc hp hXO et hlo hfi
      go_upto_region 7 with fail
      cases hd : decide (ido2 q = ido2 o)
      case true =>
        have HD := hid hd
        clear hd
        refine xoff_eq (d := true) HXO.out hlt HD.out (fun _ _ _ _ _ h => h) ?_
        intro W hW
        go_wp2_with fail
        go_ret
        exact XfX.no HX.out (bt BR.out hW) (off_12 HR.out (.inr (by have := HD.out; rw [← (by simpa using this : ido2 q = ido2 o)]; exact List.mem_map_of_mem HMQ.out))) (by decide)
      case false =>
        have HD := hid hd
        clear hd
        refine xoff_eq (d := false) HXO.out hlt HD.out (fun _ _ _ _ _ h => h) ?_
        intro W hW
        have HXO5 := hid (HXO.out.below hW)
        have BW5 := hid hW
        clear hW
        go_upto_region 9 with fail
        have HNE : Hid (ido2 q ≠ ido2 o) := hid (by have := HD.out; simpa using this)
        have H3' : Hid (∀ p ∈ (fsts l).take (k + 1), ido2 p ≠ ido2 o) := hid (fun p hp => by
          rw [HET.out] at hp
          rcases List.mem_append.1 hp with hp | hp
          · exact H3.out p hp
          · rw [List.mem_singleton.1 hp]; exact HNE.out)
        cases hd : decide (od q.ir q.im o.ir o.im < 0)
        case true =>
          have HD2 := hid hd
          have HKL : Hid (kl (ido2 q) (ido2 o)) := hid ((od_lt (ido2 q) (ido2 o)).1 (by simpa using hd))
          clear hd
          refine xoff_lt (d := true) HXO5.out hlt HD2.out (fun _ _ _ _ _ h => h) ?_
          intro W6 hW6
          have BZ6 := hid (BZ.out.trans ((bt BW5.out hW6).mono BZ.out.size))
          clear hW6
          go_wp2_with fail
          go_roundw
          case rel =>
            refine ⟨k + 1, k + 1, by go_num, by go_num, Nat.le_refl _, hlt, fun p hp => ?_, fun p hp => ?_, H3'.out, BZ6.out⟩
            · rw [HET.out] at hp
              rcases List.mem_append.1 hp with hp | hp
              · exact kl_trans (HLO.out p hp) HKL.out
              · rw [List.mem_singleton.1 hp]; exact HKL.out
            · rw [List.drop_of_length_le (by rw [List.length_take]; omega)] at hp
              cases hp
          case measure => simp [intOf]; omega
        case false =>
          have HD2 := hid hd
          have HKL : Hid (¬ kl (ido2 q) (ido2 o)) := hid (fun h => (show ¬ od q.ir q.im o.ir o.im < 0 by simpa using hd) ((od_lt (ido2 q) (ido2 o)).2 h))
          clear hd
          refine xoff_lt (d := false) HXO5.out hlt HD2.out (fun _ _ _ _ _ h => h) ?_
          intro W6 hW6
          have BZ6 := hid (BZ.out.trans ((bt BW5.out hW6).mono BZ.out.size))
          clear hW6
          go_wp2_with fail
          go_roundw
          case rel =>
            refine ⟨a, k + 1, rfl, by go_num, Nat.le_succ_of_le hak, hlt, H1.out, fun p hp => ?_, H3'.out, BZ6.out⟩
            rw [HET.out, List.drop_append_of_le_length (by rw [List.length_take, HFN.out]; omega)] at hp
            rcases List.mem_append.1 hp with hp | hp
            · exact H2.out p hp
            · rw [List.mem_singleton.1 hp]; exact ⟨HKL.out, HNE.out⟩
          case measure => simp [intOf]; omega
    case neg =>
      obtain rfl : k = n := by omega
      have hnl : ¬ (k : Int) < (k : Int) := by omega
      have htk : (fsts l).take k = fsts l := List.take_of_length_le (by rw [HFN.out]; exact Nat.le_refl _)
      rw [htk] at H2 H3
      have HNM : Hid (ido2 o ∉ (fsts l).map ido2) := hid (fun h => by obtain ⟨p, hp, e⟩ := List.mem_map.1 h; exact H3.out p hp e)
      have HHS := hid (xhas_any vb V o.ir o.im wr HVR.out)
      clear htk
      cases hh : hasV V o.ir o.im
      case true =>
        rw [hh] at HHS
        have HH := hid hh
        clear hh
        go_wp2_with (first | (refine wpList_ld_id rfl rfl rfl HOR.out ?_) | fail)
        refine HHS.out.mono ?_
        rintro e w6 ⟨rfl, b6⟩
        go_wp2_with fail
        go_ret
        exact XfX.no HX.out (bt BR.out b6) (off_12 HR.out (.inl HH.out)) (by decide)
      case false =>
      rw [hh] at HHS
      have HH := hid hh
      clear hh
      go_wp2_with (first | (refine wpList_ld_id rfl rfl rfl HOR.out ?_) | fail)
      refine HHS.out.mono ?_
      rintro e w6 ⟨rfl, b6⟩
      have BW6 := hid (bt BR.out b6)
      have HX6 := hid (HXR.out.below b6)
      have HO6 := hid (HOR.out.below b6)
      have HV6 := hid (HVR.out.below b6)
      have z6 := HX6.out.cell
      have HRY := hid (xcready_any vb V o u w6 HV6.out (HC.out.below BW6.out) HF.out HCL.out)
      clear b6 HXR HOR HVR z1 HHS
      by_cases h64 : 64 ≤ k ∧ readyO V o = false
      · obtain ⟨h64, hrd⟩ := h64
        have h64' : (64 : Int) ≤ (k : Int) := by omega
        have d64 : decide ((64 : Int) ≤ (k : Int)) = true := decide_eq_true h64'
        have HRD := hid hrd
        rw [hrd] at HRY
        clear hrd
        go_wp2_with (first | (refine wpList_load_opg rfl _ rfl w.heap.size rfl o u HO6.out ?_) | fail)
        refine HRY.out.mono ?_
        rintro e w7 ⟨rfl, b7⟩
        go_wp2_with fail
        go_ret
        exact XfX.no HX.out (bt BW6.out b7) (off_14 HR.out HH.out HNM.out (by rw [HFN.out]; exact h64) HRD.out) (by decide)
      · have h0 : offC V (fsts l) o = 0 := off_0 HR.out HH.out HNM.out (by
          rw [HFN.out]
          by_cases h : k < 64
          · exact .inl h
          · right
            by_cases h' : readyO V o = true
            · exact h'
            · exact absurd ⟨by omega, by simpa using h'⟩ h64)
        have H0 := hid h0
        have HIN := hid (ins_at H1.out H2.out)
        have hst : (decide ((64 : Int) ≤ (k : Int)) = false ∧ ¬ (64 : Int) ≤ (k : Int)) ∨ (decide ((64 : Int) ≤ (k : Int)) = true ∧ (64 : Int) ≤ (k : Int) ∧ readyO V o = true) := by
          by_cases h : 64 ≤ k
          · have h3 : (64 : Int) ≤ (k : Int) := by omega
            refine .inr ⟨decide_eq_true h3, h3, ?_⟩
            by_cases h' : readyO V o = true
            · exact h'
            · exact absurd ⟨h, by simpa using h'⟩ h64
          · have h3 : ¬ (64 : Int) ≤ (k : Int) := by omega
            exact .inl ⟨decide_eq_false h3, h3⟩
        clear h64 h0
        rcases hst with ⟨d1, d2⟩ | ⟨d1, d2, hrd⟩
        all_goals
          first
            | (rw [hrd] at HRY
               clear hrd
               go_wp2_with (first | (refine wpList_load_opg rfl _ rfl w.heap.size rfl o u HO6.out ?_) | fail)
               refine HRY.out.mono ?_
               rintro e w7 ⟨rfl, b7⟩
               have HB7 := hid b7
               clear b7
               go_upto_region 15 with fail)
            | (obtain ⟨w7, hw7⟩ : ∃ w7, w6 = w7 := ⟨_, rfl⟩
               have HB7 := hid (show Below w6.heap.size w6 w7 from hw7 ▸ Below.refl _ _)
               have HW7 := hid hw7
               clear hw7
               go_upto_region 15 with fail
               rw [HW7.out]
               clear HW7)
        all_goals
          have BW7 := hid (bt BW6.out HB7.out)
          have HX7 := hid (HX6.out.below HB7.out)
          have HO7 := hid (HO6.out.below HB7.out)
          have B8 := hid (ba w7 (.cells #[] 43))
          have R8 := hid (Rx.made (Nat.le_refl w7.heap.size))
          obtain ⟨w8, hw8⟩ : ∃ w8, w7.alloc (.cells #[] 43) = w8 := ⟨_, rfl⟩
          have hs8 : w7.heap.size < w8.heap.size := by rw [← hw8]; simp
          have HW8 := hid hw8
          have HS8 := hid hs8
          rw [hw8] at B8 R8
          have X8 := hid (HX7.out.below B8.out)
          have z8 := X8.out.cell
          have hac : a ≤ c := by omega
          have HFR := hid (fun (W : World) (hW : Os W (.slice A1 k c) l) => hW.front a hak)
          have HLA : Hid (([] ++ l.take a).length = a) := hid (by rw [List.nil_append, List.length_take, HN.out]; omega)
          clear hw8 hs8 z6
          go_upto_region 16 with fail
          rw [HW8.out]
          clear HW8
          go_upto_region 17 with (first | (refine wpList_val _ rfl (run_slt rfl rfl rfl hac) ?_) | (refine wpList_append_ops rfl _ _ rfl w7.heap.size _ _ _ rfl R8.out _ rfl (HFR.out w8 X8.out.os) (R8.out.aw (HFR.out w7 HX7.out.os) (Nat.le_refl _)) (by rw [List.length_take]; show 0 + _ ≤ _; omega) (Nat.le_of_lt HS8.out) ?_; intro v9 w9 hr9 hf9 hv9; obtain ⟨a9,c9,hv9'⟩ := hr9.form; rw [HLA.out] at hv9'; subst hv9'; have R9 := hid hr9; have F9 := hid hf9; clear hr9 hf9 hv9) | fail)
          have B9 := hid (show Below w7.heap.size w7 w9 from B8.out.trans (F9.out.below (fun j hj e => by have := (R8.out.1.lt j e).1; omega) (Nat.le_of_lt HS8.out)))
          have HO9 := hid (HO7.out.below B9.out)
          clear z8 F9
          go_wp2_with (first | (refine wpList_load_op rfl _ rfl w.heap.size rfl o u HO9.out ?_) | fail)
          refine (copyop_any _ o u rfl w9 (HC.out.below (bt BW7.out B9.out)) HCL.out).mono ?_
          rintro e w10 ⟨u1, rfl, hc10, b10, hu10⟩
          have O11 := hid (Os.one w10 o u1 hc10)
          have R11 := hid ((R9.out.below b10).below (ba w10 (opo o u1)))
          have B11 := hid (bt (B9.out.trans (b10.mono B9.out.size)) (ba w10 (opo o u1)))
          have AW : Hid (∀ p ∈ [(o, u1)], Aw (.slice a9 a c9) p) := hid (fun p hp => .inr (fun j hj e => by
            rw [List.mem_singleton.1 hp] at e
            have h1 := hu10 j e
            have h2 := (R9.out.1.lt j hj).2
            omega))
          have HU1 : Hid (∀ j, u1.ownBlock = some j → N ≤ j) := hid (fun j hj => by have h1 := hu10 j hj; have h2 := HX7.out.le; have h3 := B9.out.size; omega)
          clear hc10 b10 hu10
          have HLM : Hid (([] ++ l.take a ++ [(o, u1)]).length = a + 1) := hid (by rw [List.length_append, HLA.out]; rfl)
          go_upto_region 18 with (first
            | (refine wpList_ops1 rfl _ rfl o u1 rfl ?_)
            | (at_builtin; refine wpList_append_ops rfl _ _ rfl w7.heap.size (.slice a9 a c9) _ _ rfl R11.out _ rfl O11.out AW.out (by rw [HLA.out]; show a + 1 ≤ _; omega) B11.out.size ?_; intro v12 w12 hr12 hf12 hv12; obtain ⟨a12,c12,hv12'⟩ := hr12.form; rw [HLM.out] at hv12'; subst hv12'; have R12 := hid hr12; have F12 := hid hf12; clear hr12 hf12 hv12)
            | fail)
          have B12 := hid (show Below w7.heap.size w7 w12 from B11.out.trans (F12.out.below (fun j hj e => by have := (R11.out.1.lt j e).1; omega) B11.out.size))
          have X12 := hid (HX7.out.below B12.out)
          have z12 := X12.out.cell
          obtain ⟨ua, un, uc, hsl, hso⟩ := sl_back HX7.out.os HX7.out.sp a hak
          have HSL := hid hsl
          have HSO := hid hso
          obtain ⟨m2, hm2⟩ : ∃ m2, ([] ++ l.take a ++ [(o, u1)] ++ l.drop a).length = m2 := ⟨_, rfl⟩
          have HLM2 := hid hm2
          clear hsl hso hm2 F12
          go_wp2_with (first
            | (refine wpList_val _ rfl (HSL.out _ _ _ _ _ rfl rfl rfl) ?_)
            | (at_builtin; refine wpList_append_ops rfl _ _ rfl w7.heap.size _ _ _ rfl R12.out _ rfl (HSO.out w12 X12.out.os) (R12.out.aw (HSO.out w7 HX7.out.os) (Nat.le_refl _)) (by rw [HLM.out,List.length_drop,HN.out]; omega) B12.out.size ?_; intro v13 w13 hr13 hf13 hv13; obtain ⟨a13,c13,hv13'⟩ := hr13.form; rw [HLM2.out] at hv13'; have R13 := hid hr13; have F13 := hid hf13; clear hr13 hf13 hv13; subst hv13')
            | (refine wpList_st_list (v := .slice A1 k c) rfl rfl rfl rfl (HX7.out.below (B12.out.trans (F13.out.below (fun j hj e => by have := (R12.out.1.lt j e).1; omega) B12.out.size))).at' ?_; intro w14 hh14 hf14; have H14 := hid hh14; have F14 := hid hf14; clear hh14 hf14)
            | fail)
          go_ret
          have B13 : Below w7.heap.size w7 w13 := B12.out.trans (F13.out.below (fun j hj e => by have := (R12.out.1.lt j e).1; omega) B12.out.size)
          obtain ⟨x1, x2⟩ := HX.out.put (bt BW7.out B13) R13.out.os R13.out.spt (fun j hj => Nat.le_trans HX7.out.le (R13.out.1.lt j hj).1) (fun p hp => by
            rw [List.nil_append] at hp
            rcases List.mem_append.1 hp with hp | hp
            · rcases List.mem_append.1 hp with hp | hp
              · exact HX.out.cut p (List.mem_of_mem_take hp)
              · rw [List.mem_singleton.1 hp]; exact HU1.out
            · exact HX.out.cut p (List.mem_of_mem_drop hp)) H14.out F14.out
          refine ⟨by rw [H0.out]; rfl, ⟨_, _, ?_, x1⟩, x2⟩
          rw [List.nil_append, fsts_ins, ← HIN.out]
          unfold offL
          rw [if_pos H0.out]
theorem xoffer_any {N r vb : Nat} {V : List Int} {v : Value} {l : List (Opn × Value)} (o : Opn) (u : Value) (w : World) (h : Xr N w r v l) (hV : Vc w vb V) (hW : Wl (fsts l)) (hC : Cs w u o.cuts) (hf : o.fine) (hl : o.cuts.length ≤ 100000) (hn : l.length ≤ 900) :
    Calls Tryd.prog 15 #[.pointer (some ⟨r, 0, none⟩), .pointer (some ⟨vb, 0, none⟩), opv o u] w fun e w' => XfX N r w V l o e w' := xoffer_box _ o u rfl w h hV hW hC hf hl hn

end Go.Proofs.YtaojeanoojnknaaDoor
