/-
  Parts of the proof, one behind the other; what each proves stands at its head.
-/
import Derived.Test.YtaojeanoojnknaaDoorPart13
import Derived.BigQuiet
import Derived.Deep.CutRange

/-
  A whole op, boxed: for the walk.
-/
namespace Go.Proofs.YtaojeanoojnknaaDoor
open Go.RowKit
set_option linter.unusedVariables false
set_option maxRecDepth 100000

/-- A whole op, boxed: the world behind it by a name. -/
theorem wpList_box_op {ops : Array Oper} {rest : List Oper} {p : Oper} {a : Act} {w : World} {Q : Exit → Act → World → Prop} (hgd : p.guard = none) (x : Operand) (ho : p.op = .box 43 x) (A : Value) (hx : a.eval x = A) (o : Opn) (v : Value) (hA : A = opv o v)
    (hk : ∀ w', Ob w' w.heap.size o v → Below w.heap.size w w' → w.heap.size < w'.heap.size → wpList Tryd.prog ops Q rest (a.put p.dst (.pointer (some ⟨w.heap.size, 0, none⟩))) w') : wpList Tryd.prog ops Q (p :: rest) a w := by
  subst hA
  have h := hk (w.alloc (opo o v)) (Ob.new w o v) (ba w _) (by simp)
  refine wpList_plain hgd fun K hK => ?_
  unfold Oper.wp execOp
  simp only [ho, hx]
  simp [Instr.box, go_sem]
  exact hK _ _ h

end Go.Proofs.YtaojeanoojnknaaDoor

/-
  What SameOp answers of ops that part at a number or a text is proved here: false.
-/
namespace Go.Proofs.YtaojeanoojnknaaDoor
open Go.RowKit
set_option linter.unusedVariables false
set_option maxRecDepth 100000

set_option maxHeartbeats 2000000 in
theorem so0 (A B : Value) (a b : Opn) (va vb : Value) (hA : A = opv a va) (hB : B = opv b vb) (w : World)  (h : a.k ≠ b.k) :
    Calls Tryd.prog 16 #[A, B] w fun e w' => e = .returned (.bool false) ∧ Below w.heap.size w w' := by
  have HA := hid hA
  have HB := hid hB
  have hx : (a.k == b.k) = false := by simpa using h
  have hy : (a.k != b.k) = true := by simpa using h
  clear hA hB h 
  go_enter Tryd.func16, Tryd.ntmps16
  go_upto_region 1 with (first | (refine wpList_box_op rfl _ rfl A rfl a va HA.out ?_; intro w1 ho1 hb1 hl1; have HO1 := hid ho1; have HB1 := hid hb1; clear ho1 hb1) | (refine wpList_box_op rfl _ rfl B rfl b vb HB.out ?_; intro w2 ho2 hb2 hl2; have c0 := (HO1.out.below hb2).cells.c0; have d0 := ho2.cells.c0; have HBB := hid (bt HB1.out hb2); clear ho2 hb2))
  simp only [List.append]
  go_wp2_with fail
  go_ret
  exact ⟨rfl, HBB.out⟩

set_option maxHeartbeats 2000000 in
theorem so1 (A B : Value) (a b : Opn) (va vb : Value) (hA : A = opv a va) (hB : B = opv b vb) (w : World) (e0 : b.k = a.k) (h : a.ir ≠ b.ir) :
    Calls Tryd.prog 16 #[A, B] w fun e w' => e = .returned (.bool false) ∧ Below w.heap.size w w' := by
  have HA := hid hA
  have HB := hid hB
  have hx : (a.ir == b.ir) = false := by simpa using h
  have hy : (a.ir != b.ir) = true := by simpa using h
  have E0 := hid e0
  clear hA hB h e0
  go_enter Tryd.func16, Tryd.ntmps16
  go_upto_region 1 with (first | (refine wpList_box_op rfl _ rfl A rfl a va HA.out ?_; intro w1 ho1 hb1 hl1; have HO1 := hid ho1; have HB1 := hid hb1; clear ho1 hb1) | (refine wpList_box_op rfl _ rfl B rfl b vb HB.out ?_; intro w2 ho2 hb2 hl2; have c0 := (HO1.out.below hb2).cells.c0; have d0 := ho2.cells.c0.trans (congrArg (fun x => some (Value.int .i64 x)) E0.out); have c1 := (HO1.out.below hb2).cells.c1; have d1 := ho2.cells.c1; have c2 := (HO1.out.below hb2).cells.c2; have d2 := ho2.cells.c2; have HBB := hid (bt HB1.out hb2); clear ho2 hb2))
  simp only [List.append]
  go_wp2_with fail
  go_ret
  exact ⟨rfl, HBB.out⟩

set_option maxHeartbeats 2000000 in
theorem so2 (A B : Value) (a b : Opn) (va vb : Value) (hA : A = opv a va) (hB : B = opv b vb) (w : World) (e0 : b.k = a.k) (e1 : b.ir = a.ir) (h : a.im ≠ b.im) :
    Calls Tryd.prog 16 #[A, B] w fun e w' => e = .returned (.bool false) ∧ Below w.heap.size w w' := by
  have HA := hid hA
  have HB := hid hB
  have hx : (a.im == b.im) = false := by simpa using h
  have hy : (a.im != b.im) = true := by simpa using h
  have E0 := hid e0
  have E1 := hid e1
  clear hA hB h e0 e1
  go_enter Tryd.func16, Tryd.ntmps16
  go_upto_region 1 with (first | (refine wpList_box_op rfl _ rfl A rfl a va HA.out ?_; intro w1 ho1 hb1 hl1; have HO1 := hid ho1; have HB1 := hid hb1; clear ho1 hb1) | (refine wpList_box_op rfl _ rfl B rfl b vb HB.out ?_; intro w2 ho2 hb2 hl2; have c0 := (HO1.out.below hb2).cells.c0; have d0 := ho2.cells.c0.trans (congrArg (fun x => some (Value.int .i64 x)) E0.out); have c1 := (HO1.out.below hb2).cells.c1; have d1 := ho2.cells.c1.trans (congrArg (fun x => some (Value.int .i64 x)) E1.out); have c2 := (HO1.out.below hb2).cells.c2; have d2 := ho2.cells.c2; have HBB := hid (bt HB1.out hb2); clear ho2 hb2))
  simp only [List.append]
  go_wp2_with fail
  go_ret
  exact ⟨rfl, HBB.out⟩

set_option maxHeartbeats 2000000 in
theorem so3 (A B : Value) (a b : Opn) (va vb : Value) (hA : A = opv a va) (hB : B = opv b vb) (w : World) (e0 : b.k = a.k) (e1 : b.ir = a.ir) (e2 : b.im = a.im) (h : a.t ≠ b.t) :
    Calls Tryd.prog 16 #[A, B] w fun e w' => e = .returned (.bool false) ∧ Below w.heap.size w w' := by
  have HA := hid hA
  have HB := hid hB
  have hx : (a.t == b.t) = false := by simpa using h
  have hy : (a.t != b.t) = true := by simpa using h
  have E0 := hid e0
  have E1 := hid e1
  have E2 := hid e2
  clear hA hB h e0 e1 e2
  go_enter Tryd.func16, Tryd.ntmps16
  go_upto_region 1 with (first | (refine wpList_box_op rfl _ rfl A rfl a va HA.out ?_; intro w1 ho1 hb1 hl1; have HO1 := hid ho1; have HB1 := hid hb1; clear ho1 hb1) | (refine wpList_box_op rfl _ rfl B rfl b vb HB.out ?_; intro w2 ho2 hb2 hl2; have c0 := (HO1.out.below hb2).cells.c0; have d0 := ho2.cells.c0.trans (congrArg (fun x => some (Value.int .i64 x)) E0.out); have c1 := (HO1.out.below hb2).cells.c1; have d1 := ho2.cells.c1.trans (congrArg (fun x => some (Value.int .i64 x)) E1.out); have c2 := (HO1.out.below hb2).cells.c2; have d2 := ho2.cells.c2.trans (congrArg (fun x => some (Value.int .i64 x)) E2.out); have c3 := (HO1.out.below hb2).cells.c3; have d3 := ho2.cells.c3; have HBB := hid (bt HB1.out hb2); clear ho2 hb2))
  simp only [List.append]
  go_wp2_with fail
  go_ret
  exact ⟨rfl, HBB.out⟩

set_option maxHeartbeats 2000000 in
theorem so4 (A B : Value) (a b : Opn) (va vb : Value) (hA : A = opv a va) (hB : B = opv b vb) (w : World) (e0 : b.k = a.k) (e1 : b.ir = a.ir) (e2 : b.im = a.im) (e3 : b.t = a.t) (h : a.br ≠ b.br) :
    Calls Tryd.prog 16 #[A, B] w fun e w' => e = .returned (.bool false) ∧ Below w.heap.size w w' := by
  have HA := hid hA
  have HB := hid hB
  have hx : (a.br == b.br) = false := by simpa using h
  have hy : (a.br != b.br) = true := by simpa using h
  have E0 := hid e0
  have E1 := hid e1
  have E2 := hid e2
  have E3 := hid e3
  clear hA hB h e0 e1 e2 e3
  go_enter Tryd.func16, Tryd.ntmps16
  go_upto_region 1 with (first | (refine wpList_box_op rfl _ rfl A rfl a va HA.out ?_; intro w1 ho1 hb1 hl1; have HO1 := hid ho1; have HB1 := hid hb1; clear ho1 hb1) | (refine wpList_box_op rfl _ rfl B rfl b vb HB.out ?_; intro w2 ho2 hb2 hl2; have c0 := (HO1.out.below hb2).cells.c0; have d0 := ho2.cells.c0.trans (congrArg (fun x => some (Value.int .i64 x)) E0.out); have c1 := (HO1.out.below hb2).cells.c1; have d1 := ho2.cells.c1.trans (congrArg (fun x => some (Value.int .i64 x)) E1.out); have c2 := (HO1.out.below hb2).cells.c2; have d2 := ho2.cells.c2.trans (congrArg (fun x => some (Value.int .i64 x)) E2.out); have c3 := (HO1.out.below hb2).cells.c3; have d3 := ho2.cells.c3.trans (congrArg (fun x => some (Value.int .i64 x)) E3.out); have c4 := (HO1.out.below hb2).cells.c4; have d4 := ho2.cells.c4; have c5 := (HO1.out.below hb2).cells.c5; have d5 := ho2.cells.c5; have HBB := hid (bt HB1.out hb2); clear ho2 hb2))
  simp only [List.append]
  go_wp2_with fail
  go_ret
  exact ⟨rfl, HBB.out⟩

set_option maxHeartbeats 2000000 in
theorem so5 (A B : Value) (a b : Opn) (va vb : Value) (hA : A = opv a va) (hB : B = opv b vb) (w : World) (e0 : b.k = a.k) (e1 : b.ir = a.ir) (e2 : b.im = a.im) (e3 : b.t = a.t) (e4 : b.br = a.br) (h : a.bm ≠ b.bm) :
    Calls Tryd.prog 16 #[A, B] w fun e w' => e = .returned (.bool false) ∧ Below w.heap.size w w' := by
  have HA := hid hA
  have HB := hid hB
  have hx : (a.bm == b.bm) = false := by simpa using h
  have hy : (a.bm != b.bm) = true := by simpa using h
  have E0 := hid e0
  have E1 := hid e1
  have E2 := hid e2
  have E3 := hid e3
  have E4 := hid e4
  clear hA hB h e0 e1 e2 e3 e4
  go_enter Tryd.func16, Tryd.ntmps16
  go_upto_region 1 with (first | (refine wpList_box_op rfl _ rfl A rfl a va HA.out ?_; intro w1 ho1 hb1 hl1; have HO1 := hid ho1; have HB1 := hid hb1; clear ho1 hb1) | (refine wpList_box_op rfl _ rfl B rfl b vb HB.out ?_; intro w2 ho2 hb2 hl2; have c0 := (HO1.out.below hb2).cells.c0; have d0 := ho2.cells.c0.trans (congrArg (fun x => some (Value.int .i64 x)) E0.out); have c1 := (HO1.out.below hb2).cells.c1; have d1 := ho2.cells.c1.trans (congrArg (fun x => some (Value.int .i64 x)) E1.out); have c2 := (HO1.out.below hb2).cells.c2; have d2 := ho2.cells.c2.trans (congrArg (fun x => some (Value.int .i64 x)) E2.out); have c3 := (HO1.out.below hb2).cells.c3; have d3 := ho2.cells.c3.trans (congrArg (fun x => some (Value.int .i64 x)) E3.out); have c4 := (HO1.out.below hb2).cells.c4; have d4 := ho2.cells.c4.trans (congrArg (fun x => some (Value.int .i64 x)) E4.out); have c5 := (HO1.out.below hb2).cells.c5; have d5 := ho2.cells.c5; have HBB := hid (bt HB1.out hb2); clear ho2 hb2))
  simp only [List.append]
  go_wp2_with fail
  go_ret
  exact ⟨rfl, HBB.out⟩

set_option maxHeartbeats 2000000 in
theorem so6 (A B : Value) (a b : Opn) (va vb : Value) (hA : A = opv a va) (hB : B = opv b vb) (w : World) (e0 : b.k = a.k) (e1 : b.ir = a.ir) (e2 : b.im = a.im) (e3 : b.t = a.t) (e4 : b.br = a.br) (e5 : b.bm = a.bm) (h : a.pr ≠ b.pr) :
    Calls Tryd.prog 16 #[A, B] w fun e w' => e = .returned (.bool false) ∧ Below w.heap.size w w' := by
  have HA := hid hA
  have HB := hid hB
  have hx : (a.pr == b.pr) = false := by simpa using h
  have hy : (a.pr != b.pr) = true := by simpa using h
  have E0 := hid e0
  have E1 := hid e1
  have E2 := hid e2
  have E3 := hid e3
  have E4 := hid e4
  have E5 := hid e5
  clear hA hB h e0 e1 e2 e3 e4 e5
  go_enter Tryd.func16, Tryd.ntmps16
  go_upto_region 1 with (first | (refine wpList_box_op rfl _ rfl A rfl a va HA.out ?_; intro w1 ho1 hb1 hl1; have HO1 := hid ho1; have HB1 := hid hb1; clear ho1 hb1) | (refine wpList_box_op rfl _ rfl B rfl b vb HB.out ?_; intro w2 ho2 hb2 hl2; have c0 := (HO1.out.below hb2).cells.c0; have d0 := ho2.cells.c0.trans (congrArg (fun x => some (Value.int .i64 x)) E0.out); have c1 := (HO1.out.below hb2).cells.c1; have d1 := ho2.cells.c1.trans (congrArg (fun x => some (Value.int .i64 x)) E1.out); have c2 := (HO1.out.below hb2).cells.c2; have d2 := ho2.cells.c2.trans (congrArg (fun x => some (Value.int .i64 x)) E2.out); have c3 := (HO1.out.below hb2).cells.c3; have d3 := ho2.cells.c3.trans (congrArg (fun x => some (Value.int .i64 x)) E3.out); have c4 := (HO1.out.below hb2).cells.c4; have d4 := ho2.cells.c4.trans (congrArg (fun x => some (Value.int .i64 x)) E4.out); have c5 := (HO1.out.below hb2).cells.c5; have d5 := ho2.cells.c5.trans (congrArg (fun x => some (Value.int .i64 x)) E5.out); have c6 := (HO1.out.below hb2).cells.c6; have d6 := ho2.cells.c6; have c7 := (HO1.out.below hb2).cells.c7; have d7 := ho2.cells.c7; have HBB := hid (bt HB1.out hb2); clear ho2 hb2))
  simp only [List.append]
  go_wp2_with fail
  go_ret
  exact ⟨rfl, HBB.out⟩

set_option maxHeartbeats 2000000 in
theorem so7 (A B : Value) (a b : Opn) (va vb : Value) (hA : A = opv a va) (hB : B = opv b vb) (w : World) (e0 : b.k = a.k) (e1 : b.ir = a.ir) (e2 : b.im = a.im) (e3 : b.t = a.t) (e4 : b.br = a.br) (e5 : b.bm = a.bm) (e6 : b.pr = a.pr) (h : a.pm ≠ b.pm) :
    Calls Tryd.prog 16 #[A, B] w fun e w' => e = .returned (.bool false) ∧ Below w.heap.size w w' := by
  have HA := hid hA
  have HB := hid hB
  have hx : (a.pm == b.pm) = false := by simpa using h
  have hy : (a.pm != b.pm) = true := by simpa using h
  have E0 := hid e0
  have E1 := hid e1
  have E2 := hid e2
  have E3 := hid e3
  have E4 := hid e4
  have E5 := hid e5
  have E6 := hid e6
  clear hA hB h e0 e1 e2 e3 e4 e5 e6
  go_enter Tryd.func16, Tryd.ntmps16
  go_upto_region 1 with (first | (refine wpList_box_op rfl _ rfl A rfl a va HA.out ?_; intro w1 ho1 hb1 hl1; have HO1 := hid ho1; have HB1 := hid hb1; clear ho1 hb1) | (refine wpList_box_op rfl _ rfl B rfl b vb HB.out ?_; intro w2 ho2 hb2 hl2; have c0 := (HO1.out.below hb2).cells.c0; have d0 := ho2.cells.c0.trans (congrArg (fun x => some (Value.int .i64 x)) E0.out); have c1 := (HO1.out.below hb2).cells.c1; have d1 := ho2.cells.c1.trans (congrArg (fun x => some (Value.int .i64 x)) E1.out); have c2 := (HO1.out.below hb2).cells.c2; have d2 := ho2.cells.c2.trans (congrArg (fun x => some (Value.int .i64 x)) E2.out); have c3 := (HO1.out.below hb2).cells.c3; have d3 := ho2.cells.c3.trans (congrArg (fun x => some (Value.int .i64 x)) E3.out); have c4 := (HO1.out.below hb2).cells.c4; have d4 := ho2.cells.c4.trans (congrArg (fun x => some (Value.int .i64 x)) E4.out); have c5 := (HO1.out.below hb2).cells.c5; have d5 := ho2.cells.c5.trans (congrArg (fun x => some (Value.int .i64 x)) E5.out); have c6 := (HO1.out.below hb2).cells.c6; have d6 := ho2.cells.c6.trans (congrArg (fun x => some (Value.int .i64 x)) E6.out); have c7 := (HO1.out.below hb2).cells.c7; have d7 := ho2.cells.c7; have HBB := hid (bt HB1.out hb2); clear ho2 hb2))
  simp only [List.append]
  go_wp2_with fail
  go_ret
  exact ⟨rfl, HBB.out⟩

set_option maxHeartbeats 2000000 in
theorem so8 (A B : Value) (a b : Opn) (va vb : Value) (hA : A = opv a va) (hB : B = opv b vb) (w : World) (e0 : b.k = a.k) (e1 : b.ir = a.ir) (e2 : b.im = a.im) (e3 : b.t = a.t) (e4 : b.br = a.br) (e5 : b.bm = a.bm) (e6 : b.pr = a.pr) (e7 : b.pm = a.pm) (h : a.key ≠ b.key) :
    Calls Tryd.prog 16 #[A, B] w fun e w' => e = .returned (.bool false) ∧ Below w.heap.size w w' := by
  have HA := hid hA
  have HB := hid hB
  have hx : (a.key.toList == b.key.toList) = false := by rw [beq_tx]; exact decide_eq_false (fun e => h (tx_inj e))
  have hy : (a.key.toList != b.key.toList) = true := by simp only [bne, hx, Bool.not_false]
  have E0 := hid e0
  have E1 := hid e1
  have E2 := hid e2
  have E3 := hid e3
  have E4 := hid e4
  have E5 := hid e5
  have E6 := hid e6
  have E7 := hid e7
  clear hA hB h e0 e1 e2 e3 e4 e5 e6 e7
  go_enter Tryd.func16, Tryd.ntmps16
  go_upto_region 1 with (first | (refine wpList_box_op rfl _ rfl A rfl a va HA.out ?_; intro w1 ho1 hb1 hl1; have HO1 := hid ho1; have HB1 := hid hb1; clear ho1 hb1) | (refine wpList_box_op rfl _ rfl B rfl b vb HB.out ?_; intro w2 ho2 hb2 hl2; have c0 := (HO1.out.below hb2).cells.c0; have d0 := ho2.cells.c0.trans (congrArg (fun x => some (Value.int .i64 x)) E0.out); have c1 := (HO1.out.below hb2).cells.c1; have d1 := ho2.cells.c1.trans (congrArg (fun x => some (Value.int .i64 x)) E1.out); have c2 := (HO1.out.below hb2).cells.c2; have d2 := ho2.cells.c2.trans (congrArg (fun x => some (Value.int .i64 x)) E2.out); have c3 := (HO1.out.below hb2).cells.c3; have d3 := ho2.cells.c3.trans (congrArg (fun x => some (Value.int .i64 x)) E3.out); have c4 := (HO1.out.below hb2).cells.c4; have d4 := ho2.cells.c4.trans (congrArg (fun x => some (Value.int .i64 x)) E4.out); have c5 := (HO1.out.below hb2).cells.c5; have d5 := ho2.cells.c5.trans (congrArg (fun x => some (Value.int .i64 x)) E5.out); have c6 := (HO1.out.below hb2).cells.c6; have d6 := ho2.cells.c6.trans (congrArg (fun x => some (Value.int .i64 x)) E6.out); have c7 := (HO1.out.below hb2).cells.c7; have d7 := ho2.cells.c7.trans (congrArg (fun x => some (Value.int .i64 x)) E7.out); have c8 := (HO1.out.below hb2).cells.c8; have d8 := ho2.cells.c8; have HBB := hid (bt HB1.out hb2); clear ho2 hb2))
  simp only [List.append]
  go_wp2_with fail
  go_ret
  exact ⟨rfl, HBB.out⟩

set_option maxHeartbeats 2000000 in
theorem so9 (A B : Value) (a b : Opn) (va vb : Value) (hA : A = opv a va) (hB : B = opv b vb) (w : World) (e0 : b.k = a.k) (e1 : b.ir = a.ir) (e2 : b.im = a.im) (e3 : b.t = a.t) (e4 : b.br = a.br) (e5 : b.bm = a.bm) (e6 : b.pr = a.pr) (e7 : b.pm = a.pm) (e8 : b.key = a.key) (h : a.sr ≠ b.sr) :
    Calls Tryd.prog 16 #[A, B] w fun e w' => e = .returned (.bool false) ∧ Below w.heap.size w w' := by
  have HA := hid hA
  have HB := hid hB
  have hx : (a.sr == b.sr) = false := by simpa using h
  have hy : (a.sr != b.sr) = true := by simpa using h
  have E0 := hid e0
  have E1 := hid e1
  have E2 := hid e2
  have E3 := hid e3
  have E4 := hid e4
  have E5 := hid e5
  have E6 := hid e6
  have E7 := hid e7
  have E8 := hid e8
  clear hA hB h e0 e1 e2 e3 e4 e5 e6 e7 e8
  go_enter Tryd.func16, Tryd.ntmps16
  go_upto_region 1 with (first | (refine wpList_box_op rfl _ rfl A rfl a va HA.out ?_; intro w1 ho1 hb1 hl1; have HO1 := hid ho1; have HB1 := hid hb1; clear ho1 hb1) | (refine wpList_box_op rfl _ rfl B rfl b vb HB.out ?_; intro w2 ho2 hb2 hl2; have c0 := (HO1.out.below hb2).cells.c0; have d0 := ho2.cells.c0.trans (congrArg (fun x => some (Value.int .i64 x)) E0.out); have c1 := (HO1.out.below hb2).cells.c1; have d1 := ho2.cells.c1.trans (congrArg (fun x => some (Value.int .i64 x)) E1.out); have c2 := (HO1.out.below hb2).cells.c2; have d2 := ho2.cells.c2.trans (congrArg (fun x => some (Value.int .i64 x)) E2.out); have c3 := (HO1.out.below hb2).cells.c3; have d3 := ho2.cells.c3.trans (congrArg (fun x => some (Value.int .i64 x)) E3.out); have c4 := (HO1.out.below hb2).cells.c4; have d4 := ho2.cells.c4.trans (congrArg (fun x => some (Value.int .i64 x)) E4.out); have c5 := (HO1.out.below hb2).cells.c5; have d5 := ho2.cells.c5.trans (congrArg (fun x => some (Value.int .i64 x)) E5.out); have c6 := (HO1.out.below hb2).cells.c6; have d6 := ho2.cells.c6.trans (congrArg (fun x => some (Value.int .i64 x)) E6.out); have c7 := (HO1.out.below hb2).cells.c7; have d7 := ho2.cells.c7.trans (congrArg (fun x => some (Value.int .i64 x)) E7.out); have c8 := (HO1.out.below hb2).cells.c8; have d8 := ho2.cells.c8.trans (congrArg (fun x => some (Value.string x)) E8.out); have c9 := (HO1.out.below hb2).cells.c9; have d9 := ho2.cells.c9; have c10 := (HO1.out.below hb2).cells.c10; have d10 := ho2.cells.c10; have HBB := hid (bt HB1.out hb2); clear ho2 hb2))
  simp only [List.append]
  go_wp2_with fail
  go_ret
  exact ⟨rfl, HBB.out⟩

set_option maxHeartbeats 2000000 in
theorem so10 (A B : Value) (a b : Opn) (va vb : Value) (hA : A = opv a va) (hB : B = opv b vb) (w : World) (e0 : b.k = a.k) (e1 : b.ir = a.ir) (e2 : b.im = a.im) (e3 : b.t = a.t) (e4 : b.br = a.br) (e5 : b.bm = a.bm) (e6 : b.pr = a.pr) (e7 : b.pm = a.pm) (e8 : b.key = a.key) (e9 : b.sr = a.sr) (h : a.sm ≠ b.sm) :
    Calls Tryd.prog 16 #[A, B] w fun e w' => e = .returned (.bool false) ∧ Below w.heap.size w w' := by
  have HA := hid hA
  have HB := hid hB
  have hx : (a.sm == b.sm) = false := by simpa using h
  have hy : (a.sm != b.sm) = true := by simpa using h
  have E0 := hid e0
  have E1 := hid e1
  have E2 := hid e2
  have E3 := hid e3
  have E4 := hid e4
  have E5 := hid e5
  have E6 := hid e6
  have E7 := hid e7
  have E8 := hid e8
  have E9 := hid e9
  clear hA hB h e0 e1 e2 e3 e4 e5 e6 e7 e8 e9
  go_enter Tryd.func16, Tryd.ntmps16
  go_upto_region 1 with (first | (refine wpList_box_op rfl _ rfl A rfl a va HA.out ?_; intro w1 ho1 hb1 hl1; have HO1 := hid ho1; have HB1 := hid hb1; clear ho1 hb1) | (refine wpList_box_op rfl _ rfl B rfl b vb HB.out ?_; intro w2 ho2 hb2 hl2; have c0 := (HO1.out.below hb2).cells.c0; have d0 := ho2.cells.c0.trans (congrArg (fun x => some (Value.int .i64 x)) E0.out); have c1 := (HO1.out.below hb2).cells.c1; have d1 := ho2.cells.c1.trans (congrArg (fun x => some (Value.int .i64 x)) E1.out); have c2 := (HO1.out.below hb2).cells.c2; have d2 := ho2.cells.c2.trans (congrArg (fun x => some (Value.int .i64 x)) E2.out); have c3 := (HO1.out.below hb2).cells.c3; have d3 := ho2.cells.c3.trans (congrArg (fun x => some (Value.int .i64 x)) E3.out); have c4 := (HO1.out.below hb2).cells.c4; have d4 := ho2.cells.c4.trans (congrArg (fun x => some (Value.int .i64 x)) E4.out); have c5 := (HO1.out.below hb2).cells.c5; have d5 := ho2.cells.c5.trans (congrArg (fun x => some (Value.int .i64 x)) E5.out); have c6 := (HO1.out.below hb2).cells.c6; have d6 := ho2.cells.c6.trans (congrArg (fun x => some (Value.int .i64 x)) E6.out); have c7 := (HO1.out.below hb2).cells.c7; have d7 := ho2.cells.c7.trans (congrArg (fun x => some (Value.int .i64 x)) E7.out); have c8 := (HO1.out.below hb2).cells.c8; have d8 := ho2.cells.c8.trans (congrArg (fun x => some (Value.string x)) E8.out); have c9 := (HO1.out.below hb2).cells.c9; have d9 := ho2.cells.c9.trans (congrArg (fun x => some (Value.int .i64 x)) E9.out); have c10 := (HO1.out.below hb2).cells.c10; have d10 := ho2.cells.c10; have HBB := hid (bt HB1.out hb2); clear ho2 hb2))
  simp only [List.append]
  go_wp2_with fail
  go_ret
  exact ⟨rfl, HBB.out⟩

set_option maxHeartbeats 2000000 in
theorem so11 (A B : Value) (a b : Opn) (va vb : Value) (hA : A = opv a va) (hB : B = opv b vb) (w : World) (e0 : b.k = a.k) (e1 : b.ir = a.ir) (e2 : b.im = a.im) (e3 : b.t = a.t) (e4 : b.br = a.br) (e5 : b.bm = a.bm) (e6 : b.pr = a.pr) (e7 : b.pm = a.pm) (e8 : b.key = a.key) (e9 : b.sr = a.sr) (e10 : b.sm = a.sm) (h : a.lr ≠ b.lr) :
    Calls Tryd.prog 16 #[A, B] w fun e w' => e = .returned (.bool false) ∧ Below w.heap.size w w' := by
  have HA := hid hA
  have HB := hid hB
  have hx : (a.lr == b.lr) = false := by simpa using h
  have hy : (a.lr != b.lr) = true := by simpa using h
  have E0 := hid e0
  have E1 := hid e1
  have E2 := hid e2
  have E3 := hid e3
  have E4 := hid e4
  have E5 := hid e5
  have E6 := hid e6
  have E7 := hid e7
  have E8 := hid e8
  have E9 := hid e9
  have E10 := hid e10
  clear hA hB h e0 e1 e2 e3 e4 e5 e6 e7 e8 e9 e10
  go_enter Tryd.func16, Tryd.ntmps16
  go_upto_region 1 with (first | (refine wpList_box_op rfl _ rfl A rfl a va HA.out ?_; intro w1 ho1 hb1 hl1; have HO1 := hid ho1; have HB1 := hid hb1; clear ho1 hb1) | (refine wpList_box_op rfl _ rfl B rfl b vb HB.out ?_; intro w2 ho2 hb2 hl2; have c0 := (HO1.out.below hb2).cells.c0; have d0 := ho2.cells.c0.trans (congrArg (fun x => some (Value.int .i64 x)) E0.out); have c1 := (HO1.out.below hb2).cells.c1; have d1 := ho2.cells.c1.trans (congrArg (fun x => some (Value.int .i64 x)) E1.out); have c2 := (HO1.out.below hb2).cells.c2; have d2 := ho2.cells.c2.trans (congrArg (fun x => some (Value.int .i64 x)) E2.out); have c3 := (HO1.out.below hb2).cells.c3; have d3 := ho2.cells.c3.trans (congrArg (fun x => some (Value.int .i64 x)) E3.out); have c4 := (HO1.out.below hb2).cells.c4; have d4 := ho2.cells.c4.trans (congrArg (fun x => some (Value.int .i64 x)) E4.out); have c5 := (HO1.out.below hb2).cells.c5; have d5 := ho2.cells.c5.trans (congrArg (fun x => some (Value.int .i64 x)) E5.out); have c6 := (HO1.out.below hb2).cells.c6; have d6 := ho2.cells.c6.trans (congrArg (fun x => some (Value.int .i64 x)) E6.out); have c7 := (HO1.out.below hb2).cells.c7; have d7 := ho2.cells.c7.trans (congrArg (fun x => some (Value.int .i64 x)) E7.out); have c8 := (HO1.out.below hb2).cells.c8; have d8 := ho2.cells.c8.trans (congrArg (fun x => some (Value.string x)) E8.out); have c9 := (HO1.out.below hb2).cells.c9; have d9 := ho2.cells.c9.trans (congrArg (fun x => some (Value.int .i64 x)) E9.out); have c10 := (HO1.out.below hb2).cells.c10; have d10 := ho2.cells.c10.trans (congrArg (fun x => some (Value.int .i64 x)) E10.out); have c11 := (HO1.out.below hb2).cells.c11; have d11 := ho2.cells.c11; have c12 := (HO1.out.below hb2).cells.c12; have d12 := ho2.cells.c12; have c13 := (HO1.out.below hb2).cells.c13; have d13 := ho2.cells.c13; have HBB := hid (bt HB1.out hb2); clear ho2 hb2))
  simp only [List.append]
  go_wp2_with fail
  go_ret
  exact ⟨rfl, HBB.out⟩

set_option maxHeartbeats 2000000 in
theorem so12 (A B : Value) (a b : Opn) (va vb : Value) (hA : A = opv a va) (hB : B = opv b vb) (w : World) (e0 : b.k = a.k) (e1 : b.ir = a.ir) (e2 : b.im = a.im) (e3 : b.t = a.t) (e4 : b.br = a.br) (e5 : b.bm = a.bm) (e6 : b.pr = a.pr) (e7 : b.pm = a.pm) (e8 : b.key = a.key) (e9 : b.sr = a.sr) (e10 : b.sm = a.sm) (e11 : b.lr = a.lr) (h : a.lm ≠ b.lm) :
    Calls Tryd.prog 16 #[A, B] w fun e w' => e = .returned (.bool false) ∧ Below w.heap.size w w' := by
  have HA := hid hA
  have HB := hid hB
  have hx : (a.lm == b.lm) = false := by simpa using h
  have hy : (a.lm != b.lm) = true := by simpa using h
  have E0 := hid e0
  have E1 := hid e1
  have E2 := hid e2
  have E3 := hid e3
  have E4 := hid e4
  have E5 := hid e5
  have E6 := hid e6
  have E7 := hid e7
  have E8 := hid e8
  have E9 := hid e9
  have E10 := hid e10
  have E11 := hid e11
  clear hA hB h e0 e1 e2 e3 e4 e5 e6 e7 e8 e9 e10 e11
  go_enter Tryd.func16, Tryd.ntmps16
  go_upto_region 1 with (first | (refine wpList_box_op rfl _ rfl A rfl a va HA.out ?_; intro w1 ho1 hb1 hl1; have HO1 := hid ho1; have HB1 := hid hb1; clear ho1 hb1) | (refine wpList_box_op rfl _ rfl B rfl b vb HB.out ?_; intro w2 ho2 hb2 hl2; have c0 := (HO1.out.below hb2).cells.c0; have d0 := ho2.cells.c0.trans (congrArg (fun x => some (Value.int .i64 x)) E0.out); have c1 := (HO1.out.below hb2).cells.c1; have d1 := ho2.cells.c1.trans (congrArg (fun x => some (Value.int .i64 x)) E1.out); have c2 := (HO1.out.below hb2).cells.c2; have d2 := ho2.cells.c2.trans (congrArg (fun x => some (Value.int .i64 x)) E2.out); have c3 := (HO1.out.below hb2).cells.c3; have d3 := ho2.cells.c3.trans (congrArg (fun x => some (Value.int .i64 x)) E3.out); have c4 := (HO1.out.below hb2).cells.c4; have d4 := ho2.cells.c4.trans (congrArg (fun x => some (Value.int .i64 x)) E4.out); have c5 := (HO1.out.below hb2).cells.c5; have d5 := ho2.cells.c5.trans (congrArg (fun x => some (Value.int .i64 x)) E5.out); have c6 := (HO1.out.below hb2).cells.c6; have d6 := ho2.cells.c6.trans (congrArg (fun x => some (Value.int .i64 x)) E6.out); have c7 := (HO1.out.below hb2).cells.c7; have d7 := ho2.cells.c7.trans (congrArg (fun x => some (Value.int .i64 x)) E7.out); have c8 := (HO1.out.below hb2).cells.c8; have d8 := ho2.cells.c8.trans (congrArg (fun x => some (Value.string x)) E8.out); have c9 := (HO1.out.below hb2).cells.c9; have d9 := ho2.cells.c9.trans (congrArg (fun x => some (Value.int .i64 x)) E9.out); have c10 := (HO1.out.below hb2).cells.c10; have d10 := ho2.cells.c10.trans (congrArg (fun x => some (Value.int .i64 x)) E10.out); have c11 := (HO1.out.below hb2).cells.c11; have d11 := ho2.cells.c11.trans (congrArg (fun x => some (Value.int .i64 x)) E11.out); have c12 := (HO1.out.below hb2).cells.c12; have d12 := ho2.cells.c12; have c13 := (HO1.out.below hb2).cells.c13; have d13 := ho2.cells.c13; have HBB := hid (bt HB1.out hb2); clear ho2 hb2))
  simp only [List.append]
  go_wp2_with fail
  go_ret
  exact ⟨rfl, HBB.out⟩

set_option maxHeartbeats 2000000 in
theorem so13 (A B : Value) (a b : Opn) (va vb : Value) (hA : A = opv a va) (hB : B = opv b vb) (w : World) (e0 : b.k = a.k) (e1 : b.ir = a.ir) (e2 : b.im = a.im) (e3 : b.t = a.t) (e4 : b.br = a.br) (e5 : b.bm = a.bm) (e6 : b.pr = a.pr) (e7 : b.pm = a.pm) (e8 : b.key = a.key) (e9 : b.sr = a.sr) (e10 : b.sm = a.sm) (e11 : b.lr = a.lr) (e12 : b.lm = a.lm) (h : a.li ≠ b.li) :
    Calls Tryd.prog 16 #[A, B] w fun e w' => e = .returned (.bool false) ∧ Below w.heap.size w w' := by
  have HA := hid hA
  have HB := hid hB
  have hx : (a.li == b.li) = false := by simpa using h
  have hy : (a.li != b.li) = true := by simpa using h
  have E0 := hid e0
  have E1 := hid e1
  have E2 := hid e2
  have E3 := hid e3
  have E4 := hid e4
  have E5 := hid e5
  have E6 := hid e6
  have E7 := hid e7
  have E8 := hid e8
  have E9 := hid e9
  have E10 := hid e10
  have E11 := hid e11
  have E12 := hid e12
  clear hA hB h e0 e1 e2 e3 e4 e5 e6 e7 e8 e9 e10 e11 e12
  go_enter Tryd.func16, Tryd.ntmps16
  go_upto_region 1 with (first | (refine wpList_box_op rfl _ rfl A rfl a va HA.out ?_; intro w1 ho1 hb1 hl1; have HO1 := hid ho1; have HB1 := hid hb1; clear ho1 hb1) | (refine wpList_box_op rfl _ rfl B rfl b vb HB.out ?_; intro w2 ho2 hb2 hl2; have c0 := (HO1.out.below hb2).cells.c0; have d0 := ho2.cells.c0.trans (congrArg (fun x => some (Value.int .i64 x)) E0.out); have c1 := (HO1.out.below hb2).cells.c1; have d1 := ho2.cells.c1.trans (congrArg (fun x => some (Value.int .i64 x)) E1.out); have c2 := (HO1.out.below hb2).cells.c2; have d2 := ho2.cells.c2.trans (congrArg (fun x => some (Value.int .i64 x)) E2.out); have c3 := (HO1.out.below hb2).cells.c3; have d3 := ho2.cells.c3.trans (congrArg (fun x => some (Value.int .i64 x)) E3.out); have c4 := (HO1.out.below hb2).cells.c4; have d4 := ho2.cells.c4.trans (congrArg (fun x => some (Value.int .i64 x)) E4.out); have c5 := (HO1.out.below hb2).cells.c5; have d5 := ho2.cells.c5.trans (congrArg (fun x => some (Value.int .i64 x)) E5.out); have c6 := (HO1.out.below hb2).cells.c6; have d6 := ho2.cells.c6.trans (congrArg (fun x => some (Value.int .i64 x)) E6.out); have c7 := (HO1.out.below hb2).cells.c7; have d7 := ho2.cells.c7.trans (congrArg (fun x => some (Value.int .i64 x)) E7.out); have c8 := (HO1.out.below hb2).cells.c8; have d8 := ho2.cells.c8.trans (congrArg (fun x => some (Value.string x)) E8.out); have c9 := (HO1.out.below hb2).cells.c9; have d9 := ho2.cells.c9.trans (congrArg (fun x => some (Value.int .i64 x)) E9.out); have c10 := (HO1.out.below hb2).cells.c10; have d10 := ho2.cells.c10.trans (congrArg (fun x => some (Value.int .i64 x)) E10.out); have c11 := (HO1.out.below hb2).cells.c11; have d11 := ho2.cells.c11.trans (congrArg (fun x => some (Value.int .i64 x)) E11.out); have c12 := (HO1.out.below hb2).cells.c12; have d12 := ho2.cells.c12.trans (congrArg (fun x => some (Value.int .i64 x)) E12.out); have c13 := (HO1.out.below hb2).cells.c13; have d13 := ho2.cells.c13; have HBB := hid (bt HB1.out hb2); clear ho2 hb2))
  simp only [List.append]
  go_wp2_with fail
  go_ret
  exact ⟨rfl, HBB.out⟩

set_option maxHeartbeats 2000000 in
theorem so14 (A B : Value) (a b : Opn) (va vb : Value) (hA : A = opv a va) (hB : B = opv b vb) (w : World) (e0 : b.k = a.k) (e1 : b.ir = a.ir) (e2 : b.im = a.im) (e3 : b.t = a.t) (e4 : b.br = a.br) (e5 : b.bm = a.bm) (e6 : b.pr = a.pr) (e7 : b.pm = a.pm) (e8 : b.key = a.key) (e9 : b.sr = a.sr) (e10 : b.sm = a.sm) (e11 : b.lr = a.lr) (e12 : b.lm = a.lm) (e13 : b.li = a.li) (h : a.gr ≠ b.gr) :
    Calls Tryd.prog 16 #[A, B] w fun e w' => e = .returned (.bool false) ∧ Below w.heap.size w w' := by
  have HA := hid hA
  have HB := hid hB
  have hx : (a.gr == b.gr) = false := by simpa using h
  have hy : (a.gr != b.gr) = true := by simpa using h
  have E0 := hid e0
  have E1 := hid e1
  have E2 := hid e2
  have E3 := hid e3
  have E4 := hid e4
  have E5 := hid e5
  have E6 := hid e6
  have E7 := hid e7
  have E8 := hid e8
  have E9 := hid e9
  have E10 := hid e10
  have E11 := hid e11
  have E12 := hid e12
  have E13 := hid e13
  clear hA hB h e0 e1 e2 e3 e4 e5 e6 e7 e8 e9 e10 e11 e12 e13
  go_enter Tryd.func16, Tryd.ntmps16
  go_upto_region 1 with (first | (refine wpList_box_op rfl _ rfl A rfl a va HA.out ?_; intro w1 ho1 hb1 hl1; have HO1 := hid ho1; have HB1 := hid hb1; clear ho1 hb1) | (refine wpList_box_op rfl _ rfl B rfl b vb HB.out ?_; intro w2 ho2 hb2 hl2; have c0 := (HO1.out.below hb2).cells.c0; have d0 := ho2.cells.c0.trans (congrArg (fun x => some (Value.int .i64 x)) E0.out); have c1 := (HO1.out.below hb2).cells.c1; have d1 := ho2.cells.c1.trans (congrArg (fun x => some (Value.int .i64 x)) E1.out); have c2 := (HO1.out.below hb2).cells.c2; have d2 := ho2.cells.c2.trans (congrArg (fun x => some (Value.int .i64 x)) E2.out); have c3 := (HO1.out.below hb2).cells.c3; have d3 := ho2.cells.c3.trans (congrArg (fun x => some (Value.int .i64 x)) E3.out); have c4 := (HO1.out.below hb2).cells.c4; have d4 := ho2.cells.c4.trans (congrArg (fun x => some (Value.int .i64 x)) E4.out); have c5 := (HO1.out.below hb2).cells.c5; have d5 := ho2.cells.c5.trans (congrArg (fun x => some (Value.int .i64 x)) E5.out); have c6 := (HO1.out.below hb2).cells.c6; have d6 := ho2.cells.c6.trans (congrArg (fun x => some (Value.int .i64 x)) E6.out); have c7 := (HO1.out.below hb2).cells.c7; have d7 := ho2.cells.c7.trans (congrArg (fun x => some (Value.int .i64 x)) E7.out); have c8 := (HO1.out.below hb2).cells.c8; have d8 := ho2.cells.c8.trans (congrArg (fun x => some (Value.string x)) E8.out); have c9 := (HO1.out.below hb2).cells.c9; have d9 := ho2.cells.c9.trans (congrArg (fun x => some (Value.int .i64 x)) E9.out); have c10 := (HO1.out.below hb2).cells.c10; have d10 := ho2.cells.c10.trans (congrArg (fun x => some (Value.int .i64 x)) E10.out); have c11 := (HO1.out.below hb2).cells.c11; have d11 := ho2.cells.c11.trans (congrArg (fun x => some (Value.int .i64 x)) E11.out); have c12 := (HO1.out.below hb2).cells.c12; have d12 := ho2.cells.c12.trans (congrArg (fun x => some (Value.int .i64 x)) E12.out); have c13 := (HO1.out.below hb2).cells.c13; have d13 := ho2.cells.c13.trans (congrArg (fun x => some (Value.int .i64 x)) E13.out); have c14 := (HO1.out.below hb2).cells.c14; have d14 := ho2.cells.c14; have c15 := (HO1.out.below hb2).cells.c15; have d15 := ho2.cells.c15; have c16 := (HO1.out.below hb2).cells.c16; have d16 := ho2.cells.c16; have HBB := hid (bt HB1.out hb2); clear ho2 hb2))
  simp only [List.append]
  go_wp2_with fail
  go_ret
  exact ⟨rfl, HBB.out⟩

set_option maxHeartbeats 2000000 in
theorem so15 (A B : Value) (a b : Opn) (va vb : Value) (hA : A = opv a va) (hB : B = opv b vb) (w : World) (e0 : b.k = a.k) (e1 : b.ir = a.ir) (e2 : b.im = a.im) (e3 : b.t = a.t) (e4 : b.br = a.br) (e5 : b.bm = a.bm) (e6 : b.pr = a.pr) (e7 : b.pm = a.pm) (e8 : b.key = a.key) (e9 : b.sr = a.sr) (e10 : b.sm = a.sm) (e11 : b.lr = a.lr) (e12 : b.lm = a.lm) (e13 : b.li = a.li) (e14 : b.gr = a.gr) (h : a.gm ≠ b.gm) :
    Calls Tryd.prog 16 #[A, B] w fun e w' => e = .returned (.bool false) ∧ Below w.heap.size w w' := by
  have HA := hid hA
  have HB := hid hB
  have hx : (a.gm == b.gm) = false := by simpa using h
  have hy : (a.gm != b.gm) = true := by simpa using h
  have E0 := hid e0
  have E1 := hid e1
  have E2 := hid e2
  have E3 := hid e3
  have E4 := hid e4
  have E5 := hid e5
  have E6 := hid e6
  have E7 := hid e7
  have E8 := hid e8
  have E9 := hid e9
  have E10 := hid e10
  have E11 := hid e11
  have E12 := hid e12
  have E13 := hid e13
  have E14 := hid e14
  clear hA hB h e0 e1 e2 e3 e4 e5 e6 e7 e8 e9 e10 e11 e12 e13 e14
  go_enter Tryd.func16, Tryd.ntmps16
  go_upto_region 1 with (first | (refine wpList_box_op rfl _ rfl A rfl a va HA.out ?_; intro w1 ho1 hb1 hl1; have HO1 := hid ho1; have HB1 := hid hb1; clear ho1 hb1) | (refine wpList_box_op rfl _ rfl B rfl b vb HB.out ?_; intro w2 ho2 hb2 hl2; have c0 := (HO1.out.below hb2).cells.c0; have d0 := ho2.cells.c0.trans (congrArg (fun x => some (Value.int .i64 x)) E0.out); have c1 := (HO1.out.below hb2).cells.c1; have d1 := ho2.cells.c1.trans (congrArg (fun x => some (Value.int .i64 x)) E1.out); have c2 := (HO1.out.below hb2).cells.c2; have d2 := ho2.cells.c2.trans (congrArg (fun x => some (Value.int .i64 x)) E2.out); have c3 := (HO1.out.below hb2).cells.c3; have d3 := ho2.cells.c3.trans (congrArg (fun x => some (Value.int .i64 x)) E3.out); have c4 := (HO1.out.below hb2).cells.c4; have d4 := ho2.cells.c4.trans (congrArg (fun x => some (Value.int .i64 x)) E4.out); have c5 := (HO1.out.below hb2).cells.c5; have d5 := ho2.cells.c5.trans (congrArg (fun x => some (Value.int .i64 x)) E5.out); have c6 := (HO1.out.below hb2).cells.c6; have d6 := ho2.cells.c6.trans (congrArg (fun x => some (Value.int .i64 x)) E6.out); have c7 := (HO1.out.below hb2).cells.c7; have d7 := ho2.cells.c7.trans (congrArg (fun x => some (Value.int .i64 x)) E7.out); have c8 := (HO1.out.below hb2).cells.c8; have d8 := ho2.cells.c8.trans (congrArg (fun x => some (Value.string x)) E8.out); have c9 := (HO1.out.below hb2).cells.c9; have d9 := ho2.cells.c9.trans (congrArg (fun x => some (Value.int .i64 x)) E9.out); have c10 := (HO1.out.below hb2).cells.c10; have d10 := ho2.cells.c10.trans (congrArg (fun x => some (Value.int .i64 x)) E10.out); have c11 := (HO1.out.below hb2).cells.c11; have d11 := ho2.cells.c11.trans (congrArg (fun x => some (Value.int .i64 x)) E11.out); have c12 := (HO1.out.below hb2).cells.c12; have d12 := ho2.cells.c12.trans (congrArg (fun x => some (Value.int .i64 x)) E12.out); have c13 := (HO1.out.below hb2).cells.c13; have d13 := ho2.cells.c13.trans (congrArg (fun x => some (Value.int .i64 x)) E13.out); have c14 := (HO1.out.below hb2).cells.c14; have d14 := ho2.cells.c14.trans (congrArg (fun x => some (Value.int .i64 x)) E14.out); have c15 := (HO1.out.below hb2).cells.c15; have d15 := ho2.cells.c15; have c16 := (HO1.out.below hb2).cells.c16; have d16 := ho2.cells.c16; have HBB := hid (bt HB1.out hb2); clear ho2 hb2))
  simp only [List.append]
  go_wp2_with fail
  go_ret
  exact ⟨rfl, HBB.out⟩

set_option maxHeartbeats 2000000 in
theorem so16 (A B : Value) (a b : Opn) (va vb : Value) (hA : A = opv a va) (hB : B = opv b vb) (w : World) (e0 : b.k = a.k) (e1 : b.ir = a.ir) (e2 : b.im = a.im) (e3 : b.t = a.t) (e4 : b.br = a.br) (e5 : b.bm = a.bm) (e6 : b.pr = a.pr) (e7 : b.pm = a.pm) (e8 : b.key = a.key) (e9 : b.sr = a.sr) (e10 : b.sm = a.sm) (e11 : b.lr = a.lr) (e12 : b.lm = a.lm) (e13 : b.li = a.li) (e14 : b.gr = a.gr) (e15 : b.gm = a.gm) (h : a.gi ≠ b.gi) :
    Calls Tryd.prog 16 #[A, B] w fun e w' => e = .returned (.bool false) ∧ Below w.heap.size w w' := by
  have HA := hid hA
  have HB := hid hB
  have hx : (a.gi == b.gi) = false := by simpa using h
  have hy : (a.gi != b.gi) = true := by simpa using h
  have E0 := hid e0
  have E1 := hid e1
  have E2 := hid e2
  have E3 := hid e3
  have E4 := hid e4
  have E5 := hid e5
  have E6 := hid e6
  have E7 := hid e7
  have E8 := hid e8
  have E9 := hid e9
  have E10 := hid e10
  have E11 := hid e11
  have E12 := hid e12
  have E13 := hid e13
  have E14 := hid e14
  have E15 := hid e15
  clear hA hB h e0 e1 e2 e3 e4 e5 e6 e7 e8 e9 e10 e11 e12 e13 e14 e15
  go_enter Tryd.func16, Tryd.ntmps16
  go_upto_region 1 with (first | (refine wpList_box_op rfl _ rfl A rfl a va HA.out ?_; intro w1 ho1 hb1 hl1; have HO1 := hid ho1; have HB1 := hid hb1; clear ho1 hb1) | (refine wpList_box_op rfl _ rfl B rfl b vb HB.out ?_; intro w2 ho2 hb2 hl2; have c0 := (HO1.out.below hb2).cells.c0; have d0 := ho2.cells.c0.trans (congrArg (fun x => some (Value.int .i64 x)) E0.out); have c1 := (HO1.out.below hb2).cells.c1; have d1 := ho2.cells.c1.trans (congrArg (fun x => some (Value.int .i64 x)) E1.out); have c2 := (HO1.out.below hb2).cells.c2; have d2 := ho2.cells.c2.trans (congrArg (fun x => some (Value.int .i64 x)) E2.out); have c3 := (HO1.out.below hb2).cells.c3; have d3 := ho2.cells.c3.trans (congrArg (fun x => some (Value.int .i64 x)) E3.out); have c4 := (HO1.out.below hb2).cells.c4; have d4 := ho2.cells.c4.trans (congrArg (fun x => some (Value.int .i64 x)) E4.out); have c5 := (HO1.out.below hb2).cells.c5; have d5 := ho2.cells.c5.trans (congrArg (fun x => some (Value.int .i64 x)) E5.out); have c6 := (HO1.out.below hb2).cells.c6; have d6 := ho2.cells.c6.trans (congrArg (fun x => some (Value.int .i64 x)) E6.out); have c7 := (HO1.out.below hb2).cells.c7; have d7 := ho2.cells.c7.trans (congrArg (fun x => some (Value.int .i64 x)) E7.out); have c8 := (HO1.out.below hb2).cells.c8; have d8 := ho2.cells.c8.trans (congrArg (fun x => some (Value.string x)) E8.out); have c9 := (HO1.out.below hb2).cells.c9; have d9 := ho2.cells.c9.trans (congrArg (fun x => some (Value.int .i64 x)) E9.out); have c10 := (HO1.out.below hb2).cells.c10; have d10 := ho2.cells.c10.trans (congrArg (fun x => some (Value.int .i64 x)) E10.out); have c11 := (HO1.out.below hb2).cells.c11; have d11 := ho2.cells.c11.trans (congrArg (fun x => some (Value.int .i64 x)) E11.out); have c12 := (HO1.out.below hb2).cells.c12; have d12 := ho2.cells.c12.trans (congrArg (fun x => some (Value.int .i64 x)) E12.out); have c13 := (HO1.out.below hb2).cells.c13; have d13 := ho2.cells.c13.trans (congrArg (fun x => some (Value.int .i64 x)) E13.out); have c14 := (HO1.out.below hb2).cells.c14; have d14 := ho2.cells.c14.trans (congrArg (fun x => some (Value.int .i64 x)) E14.out); have c15 := (HO1.out.below hb2).cells.c15; have d15 := ho2.cells.c15.trans (congrArg (fun x => some (Value.int .i64 x)) E15.out); have c16 := (HO1.out.below hb2).cells.c16; have d16 := ho2.cells.c16; have HBB := hid (bt HB1.out hb2); clear ho2 hb2))
  simp only [List.append]
  go_wp2_with fail
  go_ret
  exact ⟨rfl, HBB.out⟩

set_option maxHeartbeats 2000000 in
theorem so17 (A B : Value) (a b : Opn) (va vb : Value) (hA : A = opv a va) (hB : B = opv b vb) (w : World) (e0 : b.k = a.k) (e1 : b.ir = a.ir) (e2 : b.im = a.im) (e3 : b.t = a.t) (e4 : b.br = a.br) (e5 : b.bm = a.bm) (e6 : b.pr = a.pr) (e7 : b.pm = a.pm) (e8 : b.key = a.key) (e9 : b.sr = a.sr) (e10 : b.sm = a.sm) (e11 : b.lr = a.lr) (e12 : b.lm = a.lm) (e13 : b.li = a.li) (e14 : b.gr = a.gr) (e15 : b.gm = a.gm) (e16 : b.gi = a.gi) (h : a.text ≠ b.text) :
    Calls Tryd.prog 16 #[A, B] w fun e w' => e = .returned (.bool false) ∧ Below w.heap.size w w' := by
  have HA := hid hA
  have HB := hid hB
  have hx : (a.text.toList == b.text.toList) = false := by rw [beq_tx]; exact decide_eq_false (fun e => h (tx_inj e))
  have hy : (a.text.toList != b.text.toList) = true := by simp only [bne, hx, Bool.not_false]
  have E0 := hid e0
  have E1 := hid e1
  have E2 := hid e2
  have E3 := hid e3
  have E4 := hid e4
  have E5 := hid e5
  have E6 := hid e6
  have E7 := hid e7
  have E8 := hid e8
  have E9 := hid e9
  have E10 := hid e10
  have E11 := hid e11
  have E12 := hid e12
  have E13 := hid e13
  have E14 := hid e14
  have E15 := hid e15
  have E16 := hid e16
  clear hA hB h e0 e1 e2 e3 e4 e5 e6 e7 e8 e9 e10 e11 e12 e13 e14 e15 e16
  go_enter Tryd.func16, Tryd.ntmps16
  go_upto_region 1 with (first | (refine wpList_box_op rfl _ rfl A rfl a va HA.out ?_; intro w1 ho1 hb1 hl1; have HO1 := hid ho1; have HB1 := hid hb1; clear ho1 hb1) | (refine wpList_box_op rfl _ rfl B rfl b vb HB.out ?_; intro w2 ho2 hb2 hl2; have c0 := (HO1.out.below hb2).cells.c0; have d0 := ho2.cells.c0.trans (congrArg (fun x => some (Value.int .i64 x)) E0.out); have c1 := (HO1.out.below hb2).cells.c1; have d1 := ho2.cells.c1.trans (congrArg (fun x => some (Value.int .i64 x)) E1.out); have c2 := (HO1.out.below hb2).cells.c2; have d2 := ho2.cells.c2.trans (congrArg (fun x => some (Value.int .i64 x)) E2.out); have c3 := (HO1.out.below hb2).cells.c3; have d3 := ho2.cells.c3.trans (congrArg (fun x => some (Value.int .i64 x)) E3.out); have c4 := (HO1.out.below hb2).cells.c4; have d4 := ho2.cells.c4.trans (congrArg (fun x => some (Value.int .i64 x)) E4.out); have c5 := (HO1.out.below hb2).cells.c5; have d5 := ho2.cells.c5.trans (congrArg (fun x => some (Value.int .i64 x)) E5.out); have c6 := (HO1.out.below hb2).cells.c6; have d6 := ho2.cells.c6.trans (congrArg (fun x => some (Value.int .i64 x)) E6.out); have c7 := (HO1.out.below hb2).cells.c7; have d7 := ho2.cells.c7.trans (congrArg (fun x => some (Value.int .i64 x)) E7.out); have c8 := (HO1.out.below hb2).cells.c8; have d8 := ho2.cells.c8.trans (congrArg (fun x => some (Value.string x)) E8.out); have c9 := (HO1.out.below hb2).cells.c9; have d9 := ho2.cells.c9.trans (congrArg (fun x => some (Value.int .i64 x)) E9.out); have c10 := (HO1.out.below hb2).cells.c10; have d10 := ho2.cells.c10.trans (congrArg (fun x => some (Value.int .i64 x)) E10.out); have c11 := (HO1.out.below hb2).cells.c11; have d11 := ho2.cells.c11.trans (congrArg (fun x => some (Value.int .i64 x)) E11.out); have c12 := (HO1.out.below hb2).cells.c12; have d12 := ho2.cells.c12.trans (congrArg (fun x => some (Value.int .i64 x)) E12.out); have c13 := (HO1.out.below hb2).cells.c13; have d13 := ho2.cells.c13.trans (congrArg (fun x => some (Value.int .i64 x)) E13.out); have c14 := (HO1.out.below hb2).cells.c14; have d14 := ho2.cells.c14.trans (congrArg (fun x => some (Value.int .i64 x)) E14.out); have c15 := (HO1.out.below hb2).cells.c15; have d15 := ho2.cells.c15.trans (congrArg (fun x => some (Value.int .i64 x)) E15.out); have c16 := (HO1.out.below hb2).cells.c16; have d16 := ho2.cells.c16.trans (congrArg (fun x => some (Value.int .i64 x)) E16.out); have c17 := (HO1.out.below hb2).cells.c17; have d17 := ho2.cells.c17; have HBB := hid (bt HB1.out hb2); clear ho2 hb2))
  simp only [List.append]
  go_wp2_with fail
  go_ret
  exact ⟨rfl, HBB.out⟩

set_option maxHeartbeats 2000000 in
theorem so18 (A B : Value) (a b : Opn) (va vb : Value) (hA : A = opv a va) (hB : B = opv b vb) (w : World) (e0 : b.k = a.k) (e1 : b.ir = a.ir) (e2 : b.im = a.im) (e3 : b.t = a.t) (e4 : b.br = a.br) (e5 : b.bm = a.bm) (e6 : b.pr = a.pr) (e7 : b.pm = a.pm) (e8 : b.key = a.key) (e9 : b.sr = a.sr) (e10 : b.sm = a.sm) (e11 : b.lr = a.lr) (e12 : b.lm = a.lm) (e13 : b.li = a.li) (e14 : b.gr = a.gr) (e15 : b.gm = a.gm) (e16 : b.gi = a.gi) (e17 : b.text = a.text) (h : a.flag ≠ b.flag) :
    Calls Tryd.prog 16 #[A, B] w fun e w' => e = .returned (.bool false) ∧ Below w.heap.size w w' := by
  have HA := hid hA
  have HB := hid hB
  have hx : (a.flag == b.flag) = false := by simpa using h
  have hy : (a.flag != b.flag) = true := by simpa using h
  have E0 := hid e0
  have E1 := hid e1
  have E2 := hid e2
  have E3 := hid e3
  have E4 := hid e4
  have E5 := hid e5
  have E6 := hid e6
  have E7 := hid e7
  have E8 := hid e8
  have E9 := hid e9
  have E10 := hid e10
  have E11 := hid e11
  have E12 := hid e12
  have E13 := hid e13
  have E14 := hid e14
  have E15 := hid e15
  have E16 := hid e16
  have E17 := hid e17
  clear hA hB h e0 e1 e2 e3 e4 e5 e6 e7 e8 e9 e10 e11 e12 e13 e14 e15 e16 e17
  go_enter Tryd.func16, Tryd.ntmps16
  go_upto_region 1 with (first | (refine wpList_box_op rfl _ rfl A rfl a va HA.out ?_; intro w1 ho1 hb1 hl1; have HO1 := hid ho1; have HB1 := hid hb1; clear ho1 hb1) | (refine wpList_box_op rfl _ rfl B rfl b vb HB.out ?_; intro w2 ho2 hb2 hl2; have c0 := (HO1.out.below hb2).cells.c0; have d0 := ho2.cells.c0.trans (congrArg (fun x => some (Value.int .i64 x)) E0.out); have c1 := (HO1.out.below hb2).cells.c1; have d1 := ho2.cells.c1.trans (congrArg (fun x => some (Value.int .i64 x)) E1.out); have c2 := (HO1.out.below hb2).cells.c2; have d2 := ho2.cells.c2.trans (congrArg (fun x => some (Value.int .i64 x)) E2.out); have c3 := (HO1.out.below hb2).cells.c3; have d3 := ho2.cells.c3.trans (congrArg (fun x => some (Value.int .i64 x)) E3.out); have c4 := (HO1.out.below hb2).cells.c4; have d4 := ho2.cells.c4.trans (congrArg (fun x => some (Value.int .i64 x)) E4.out); have c5 := (HO1.out.below hb2).cells.c5; have d5 := ho2.cells.c5.trans (congrArg (fun x => some (Value.int .i64 x)) E5.out); have c6 := (HO1.out.below hb2).cells.c6; have d6 := ho2.cells.c6.trans (congrArg (fun x => some (Value.int .i64 x)) E6.out); have c7 := (HO1.out.below hb2).cells.c7; have d7 := ho2.cells.c7.trans (congrArg (fun x => some (Value.int .i64 x)) E7.out); have c8 := (HO1.out.below hb2).cells.c8; have d8 := ho2.cells.c8.trans (congrArg (fun x => some (Value.string x)) E8.out); have c9 := (HO1.out.below hb2).cells.c9; have d9 := ho2.cells.c9.trans (congrArg (fun x => some (Value.int .i64 x)) E9.out); have c10 := (HO1.out.below hb2).cells.c10; have d10 := ho2.cells.c10.trans (congrArg (fun x => some (Value.int .i64 x)) E10.out); have c11 := (HO1.out.below hb2).cells.c11; have d11 := ho2.cells.c11.trans (congrArg (fun x => some (Value.int .i64 x)) E11.out); have c12 := (HO1.out.below hb2).cells.c12; have d12 := ho2.cells.c12.trans (congrArg (fun x => some (Value.int .i64 x)) E12.out); have c13 := (HO1.out.below hb2).cells.c13; have d13 := ho2.cells.c13.trans (congrArg (fun x => some (Value.int .i64 x)) E13.out); have c14 := (HO1.out.below hb2).cells.c14; have d14 := ho2.cells.c14.trans (congrArg (fun x => some (Value.int .i64 x)) E14.out); have c15 := (HO1.out.below hb2).cells.c15; have d15 := ho2.cells.c15.trans (congrArg (fun x => some (Value.int .i64 x)) E15.out); have c16 := (HO1.out.below hb2).cells.c16; have d16 := ho2.cells.c16.trans (congrArg (fun x => some (Value.int .i64 x)) E16.out); have c17 := (HO1.out.below hb2).cells.c17; have d17 := ho2.cells.c17.trans (congrArg (fun x => some (Value.string x)) E17.out); have c19 := (HO1.out.below hb2).cells.c19; have d19 := ho2.cells.c19; have HBB := hid (bt HB1.out hb2); clear ho2 hb2))
  simp only [List.append]
  go_wp2_with fail
  go_ret
  exact ⟨rfl, HBB.out⟩

end Go.Proofs.YtaojeanoojnknaaDoor

/-
  What Same answers of ops that part at a number or a text is proved here: false.
-/
namespace Go.Proofs.YtaojeanoojnknaaDoor
open Go.RowKit
set_option linter.unusedVariables false
set_option maxRecDepth 100000

end Go.Proofs.YtaojeanoojnknaaDoor
