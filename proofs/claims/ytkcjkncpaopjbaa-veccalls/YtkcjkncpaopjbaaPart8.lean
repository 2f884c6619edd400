/-
  Parts of the proof, one behind the other; what each proves stands at its head.
-/
import Derived.Test.YtkcjkncpaopjbaaPart7
import Derived.Test.YtkcjkncpaopjbaaPart1
import Derived.OrdersHeld

/-
  What the reference's Count, Covers, List and Join answer and leave is proved here, for all vectors.
-/
namespace Go.Proofs.Ytkcjkncpaopjbaa
open Go.RowKit
set_option linter.unusedVariables false
set_option maxRecDepth 100000

theorem xcount_any (b : Nat) (l : List Int) (w : World) (h : Vc w b l) :
    Calls Try.prog 23 #[.pointer (some ⟨b, 0, none⟩)] w fun e w' => e = .returned (.int .i64 (sumTo l 16)) ∧ w = w' := by
  have HV := hid h
  have hk := h.1
  clear h
  go_enter Try.func23, Try.ntmps23
  go_wp2_with fail
  go_loopw [3, 4] (fun s i wr => ∃ k : Nat, k ≤ 16 ∧ i = .int .i64 k ∧ s = .int .i64 (sumTo l k) ∧ w = wr) (fun _ i _ => 16 - (intOf i).toNat)
  case atStart => exact ⟨0, by omega, rfl, rfl, rfl⟩
  case round =>
    obtain ⟨k, hk16, rfl, rfl, rfl⟩ := hrel
    by_cases hlt : k < 16
    · have hlt' : (k : Int) < 16 := by omega
      have hcell := HV.out.cell hlt
      obtain ⟨x, hx⟩ : ∃ x, l.getD k 0 = x := ⟨_, rfl⟩
      obtain ⟨S, hS⟩ : ∃ S, sumTo l k = S := ⟨_, rfl⟩
      have hs1 : sumTo l (k + 1) = S + x := by rw [← hS, ← hx]; rfl
      have hb := sum_le hk (k + 1)
      rw [hs1] at hb
      have HS := hid hs1
      rw [hx] at hcell
      rw [hS]
      clear hs1 hx hS
      go_wp2_with fail
      go_roundw
      case rel => exact ⟨k + 1, by omega, by go_num, by rw [HS.out], trivial⟩
      case measure => simp [intOf]; omega
    · obtain rfl : k = 16 := by omega
      obtain ⟨S, hS⟩ : ∃ S, sumTo l 16 = S := ⟨_, rfl⟩
      rw [hS]
      have HS := hid hS
      clear hS
      go_wp2_with fail
      go_ret
      exact ⟨by rw [HS.out]; rfl, rfl⟩

theorem xcovers_any (b c : Nat) (l m : List Int) (w : World) (h : Vc w b l) (h' : Vc w c m) :
    Calls Try.prog 21 #[.pointer (some ⟨b, 0, none⟩), .pointer (some ⟨c, 0, none⟩)] w fun e w' => e = .returned (.bool (covV l m)) ∧ Below w.heap.size w w' := by
  obtain ⟨z, hz⟩ : ∃ z, covV l m = z := ⟨_, rfl⟩
  rw [hz]
  have HZ := hid hz
  have HV := hid h
  have HW := hid h'
  clear h h' hz
  go_enter Try.func21, Try.ntmps21
  go_wp2_with fail
  go_loopw [5] (fun i wr => ∃ k : Nat, k ≤ 16 ∧ i = .int .i64 k ∧ covTo l m k ∧ Below w.heap.size w wr) (fun i _ => 16 - (intOf i).toNat)
  case atStart => exact ⟨0, by omega, rfl, fun i hi => absurd hi (Nat.not_lt_zero _), Below.refl _ _⟩
  case round =>
    obtain ⟨k, hk16, rfl, hcv, hbel⟩ := hrel
    have HC := hid hcv
    have HB := hid hbel
    have HV := hid (HV.out.below hbel)
    have HW := hid (HW.out.below hbel)
    clear hcv hbel
    by_cases hlt : k < 16
    · have hlt' : (k : Int) < 16 := by omega
      have hcell := HV.out.cell hlt
      have hcell2 := HW.out.cell hlt
      obtain ⟨x, hx⟩ : ∃ x, m.getD k 0 = x := ⟨_, rfl⟩
      obtain ⟨y, hy⟩ : ∃ y, l.getD k 0 = y := ⟨_, rfl⟩
      rw [hx] at hcell2
      rw [hy] at hcell
      have HX := hid hx
      have HY := hid hy
      clear hx hy
      cases hd : decide (y < x)
      · have HD := hid hd
        go_wp2_with (go_quiet (fail))
        go_roundw
        case rel =>
          refine ⟨k + 1, by omega, by go_num, fun i hi => ?_, below_drewN HB.out _⟩
          by_cases e : i = k
          · subst e; rw [HX.out, HY.out]; have := HD.out; simp at this; exact this
          · exact HC.out i (by omega)
        case measure => simp [intOf]; omega
      · have HD := hid hd
        go_wp2_with (go_quiet (fail))
        go_ret
        refine ⟨?_, below_drewN HB.out _⟩
        rw [← HZ.out, cov_not k hlt (by rw [HX.out, HY.out]; have := HD.out; simpa using this)]
        rfl
    · obtain rfl : k = 16 := by omega
      go_wp2_with fail
      go_ret
      refine ⟨?_, HB.out⟩
      rw [← HZ.out, cov_iff.2 HC.out]
      rfl

end Go.Proofs.Ytkcjkncpaopjbaa

/-
  What the law's alive and both answer is proved here.
-/
namespace Go.Proofs.Ytkcjkncpaopjbaa
open Go.RowKit
set_option linter.unusedVariables false
set_option maxRecDepth 100000

theorem of_yes (v : Value) (l : List Int) (w : World) (h : Iz w v l) (hok : okV l = true) : Calls Try.prog 30 #[v] w fun e w' => ∃ c, e = .returned (.tuple #[.pointer (some ⟨c, 0, none⟩), .bool true]) ∧ w.heap.size ≤ c ∧ Vc w' c (padV l) ∧ Below w.heap.size w w' :=
  (of_any v l w h).mono fun e w' h => h.elim (fun h => h.2) (fun h => absurd h.1 (by rw [hok]; decide))
theorem of_no (v : Value) (l : List Int) (w : World) (h : Iz w v l) (hok : okV l = false) : Calls Try.prog 30 #[v] w fun e w' => e = .returned (.tuple #[.pointer none, .bool false]) ∧ Below w.heap.size w w' :=
  (of_any v l w h).mono fun e w' h => h.elim (fun h => absurd h.1 (by rw [hok]; decide)) (fun h => h.2)
theorem xof_yes (v : Value) (l : List Int) (w : World) (h : Iz w v l) (hok : okV l = true) : Calls Try.prog 31 #[v] w fun e w' => ∃ c, e = .returned (.tuple #[.pointer (some ⟨c, 0, none⟩), .bool true]) ∧ w.heap.size ≤ c ∧ Vc w' c (padV l) ∧ Below w.heap.size w w' :=
  (xof_any v l w h).mono fun e w' h => h.elim (fun h => h.2) (fun h => absurd h.1 (by rw [hok]; decide))
theorem xof_no (v : Value) (l : List Int) (w : World) (h : Iz w v l) (hok : okV l = false) : Calls Try.prog 31 #[v] w fun e w' => e = .returned (.tuple #[.pointer none, .bool false]) ∧ Below w.heap.size w w' :=
  (xof_any v l w h).mono fun e w' h => h.elim (fun h => absurd h.1 (by rw [hok]; decide)) (fun h => h.2)
theorem Cs.first {w : World} {g off c : Nat} {x : Ct} (h : Cs w (.slice (some ⟨g, off, none⟩) 1 c) [x]) :
    w.cell? ⟨g, off, none⟩ = some (.int .i64 x.r) ∧ w.cell? ⟨g, off + 1, none⟩ = some (.int .i64 x.n) ∧ w.cell? ⟨g, off + 2, none⟩ = some (.int .i64 x.f) ∧ w.cell? ⟨g, off + 3, none⟩ = some (.int .i64 x.t) := by
  obtain ⟨g', off', c', e, _, _, _, hc⟩ := h.inv (Nat.succ_pos _)
  simp only [Value.slice.injEq, Option.some.injEq, Addr.mk.injEq, and_true] at e
  obtain ⟨⟨rfl, rfl⟩, _, rfl⟩ := e
  have := hc 0 (Nat.succ_pos _)
  simpa using this

theorem lit3 (W : World) : Iz (W.alloc (.cells #[.int .i64 0, .int .i64 0, .int .i64 4] 3)) (.slice (some ⟨W.heap.size, 0, none⟩) 3 3) [0, 0, 4] :=
  Sl.lit (sz := 1) W 3 #[.int .i64 0, .int .i64 0, .int .i64 4] 3 (by decide) rfl

def u1 : List Int := putV v0 2 1
def u2 : List Int := padV [0, 0, 4]
theorem al0 : putV v0 2 1 = u1 := rfl
theorem al9 : padV [0, 0, 4] = u2 := rfl
theorem al1 : addV v0 2 1 = 0 := by kernel_rfl
theorem al2 : addV u1 2 3 = 22 := by kernel_rfl
theorem al3 : putV u1 2 3 = u1 := by kernel_rfl
theorem al4 : okV [0, 0, 4] = true := by kernel_rfl
theorem al5 : missTo u1 u2 16 = [⟨2, 2, 2, 5⟩] := by kernel_rfl
theorem al6 : sumTo u1 16 = 1 := by kernel_rfl
theorem al7 : hasV u1 2 1 = true := by kernel_rfl
theorem al8 : covV u2 u1 = true := by kernel_rfl

set_option maxHeartbeats 1000000 in
theorem alive_any (w : World) : Calls Try.prog 8 #[] w fun e w' => e = .returned (.bool true) ∧ Below w.heap.size w w' := by
  have HOK := hid al4
  go_enter Try.func8, Try.ntmps8
  go_wp2_with (first
    | (go_at_call 24; refine (new_any _).mono ?_; rintro e w1 ⟨rfl, hv1, hb1⟩; have V1 := hid hv1; have B1 := hid hb1; clear hv1 hb1)
    | (go_at_call 25; refine (add_any w.heap.size u1 2 3 _ V2.out).mono ?_; rintro e w3 ⟨rfl, hv3, hf3⟩; rw [al2]; rw [al3] at hv3; have V3 := hid hv3; have B3 := hid (B2.out.trans (hf3.below (fun i hi e => by omega) B2.out.size)); clear hv3 hf3)
    | (go_at_call 25; refine (add_any w.heap.size v0 2 1 _ V1.out).mono ?_; rintro e w2 ⟨rfl, hv2, hf2⟩; rw [al1]; rw [al0] at hv2; have V2 := hid hv2; have B2 := hid (B1.out.trans (hf2.below (fun i hi e => by omega) B1.out.size)); clear hv2 hf2)
    | (go_at_call 30; refine (of_yes _ [0, 0, 4] _ (lit3 _) HOK.out).mono ?_; rintro e w4 ⟨c, rfl, hc, hv4, hb4⟩; rw [al9] at hv4; have V4 := hid hv4; have B4 := hid (B3.out.trans ((bt (ba _ _) hb4).mono B3.out.size)); have V5 := hid (V3.out.below (bt (ba _ _) hb4)); clear hv4 hb4 hc)
    | (go_at_call 12; refine (missing_any w.heap.size c u1 u2 _ V5.out V4.out).mono ?_; rintro e w6 ⟨v6, rfl, hcs, hb6⟩; rw [al5] at hcs; obtain ⟨g, off, c6, rfl, -, -, -, -⟩ := Cs.inv hcs (Nat.succ_pos _); have C6 := hid hcs; have B6 := hid (B4.out.trans (hb6.mono B4.out.size)); have V6 := hid (V5.out.below hb6); have V7 := hid (V4.out.below hb6); clear hcs hb6)
    | (go_at_call 22; refine (count_any w.heap.size u1 _ V6.out).mono ?_; rintro e w7 ⟨rfl, rfl⟩; rw [al6])
    | (go_at_call 16; refine (has_any w.heap.size u1 2 1 _ V6.out).mono ?_; rintro e w8 ⟨rfl, hb8⟩; rw [al7]; obtain ⟨k0, k1, k2, k3⟩ := Cs.first (C6.out.below hb8); have B8 := hid (B6.out.trans (hb8.mono B6.out.size)); have V8 := hid (V6.out.below hb8); have V9 := hid (V7.out.below hb8); clear hb8)
    | (go_at_call 20; refine (covers_any c w.heap.size u2 u1 _ V9.out V8.out).mono ?_; rintro e w9 ⟨rfl, rfl⟩; rw [al8]))
  go_ret
  exact ⟨rfl, B8.out⟩

theorem results_tmp4 {fn : Func} {t u v x : Tmp} (h : fn.results = #[.tmp t, .tmp u, .tmp v, .tmp x]) (tmps : Array Value) (P : Program) (w : World) :
    (results fn tmps).run P w = .ok (.tuple #[tmps.getD t undef, tmps.getD u undef, tmps.getD v undef, tmps.getD x undef]) w := by
  simp [results, h]
/-- What both answers: two vectors, or none. -/
def BoV (w : World) (l : List Int) (e : Ending) (w' : World) : Prop :=
  (okV l = true ∧ ∃ c d, e = .returned (.tuple #[.pointer (some ⟨c, 0, none⟩), .pointer (some ⟨d, 0, none⟩), .bool true, .bool true]) ∧ w.heap.size ≤ c ∧ c < d ∧ Vc w' c (padV l) ∧ Vc w' d (padV l) ∧ Below w.heap.size w w') ∨
  (okV l = false ∧ e = .returned (.tuple #[.pointer none, .pointer none, .bool true, .bool false]) ∧ Below w.heap.size w w')
theorem both_any (v : Value) (l : List Int) (w : World) (h : Iz w v l) : Calls Try.prog 10 #[v] w fun e w' => BoV w l e w' := by
  have HZ := hid h
  clear h
  cases hok : okV l
  · have HOK := hid hok
    clear hok
    go_enter Try.func10, Try.ntmps10
    go_wp2_with (first
      | (go_at_call 30; refine (of_no _ l _ HZ.out HOK.out).mono ?_; rintro e w1 ⟨rfl, hb1⟩; have B1 := hid hb1; have Z1 := hid (HZ.out.below hb1); clear hb1)
      | (go_at_call 31; refine (xof_no _ l _ Z1.out HOK.out).mono ?_; rintro e w2 ⟨rfl, hb2⟩; have B2 := hid (bt B1.out hb2); clear hb2))
    refine bodyPost_ret (results_tmp4 rfl _ _ _) rfl ?_
    exact .inr ⟨HOK.out, rfl, B2.out⟩
  · have HOK := hid hok
    clear hok
    go_enter Try.func10, Try.ntmps10
    go_wp2_with (first
      | (go_at_call 30; refine (of_yes _ l _ HZ.out HOK.out).mono ?_; rintro e w1 ⟨c, rfl, hc, hv1, hb1⟩; have B1 := hid hb1; have Z1 := hid (HZ.out.below hb1); have C1 := hid hc; have V1 := hid hv1; clear hb1 hc hv1)
      | (go_at_call 31; refine (xof_yes _ l _ Z1.out HOK.out).mono ?_; rintro e w2 ⟨d, rfl, hd, hv2, hb2⟩; have B2 := hid (bt B1.out hb2); have C2 := hid (Nat.lt_of_lt_of_le V1.out.lt hd); have V2 := hid (V1.out.below hb2); have V3 := hid hv2; clear hb2 hd hv2))
    refine bodyPost_ret (results_tmp4 rfl _ _ _) rfl ?_
    exact .inl ⟨HOK.out, _, _, rfl, C1.out, C2.out, V2.out, V3.out, B2.out⟩

end Go.Proofs.Ytkcjkncpaopjbaa

/-
  The region of VecCalls in which a name is added to both vectors and their numbers are told to be the same, whose order is drawn, is walked here.
-/
namespace Go.Proofs.Ytkcjkncpaopjbaa
open Go.RowKit
set_option linter.unusedVariables false
set_option maxRecDepth 100000

def vc0 : Oper := { dst := some 33, op := Op.move (Operand.tmp 5), type := 27, pos := "law.go:78", after := #[], guard := none }
def vc1 : Oper := { dst := some 34, op := Op.move (Operand.tmp 0), type := 44, pos := "law.go:78", after := #[], guard := none }
def vc2 : Oper := { dst := some 35, op := Op.move (Operand.tmp 7), type := 3, pos := "law.go:78", after := #[], guard := none }
def vc3 : Oper := { dst := some 36, op := Op.indexAddr 44 (Operand.tmp 34) (Operand.tmp 35), type := 0, pos := "law.go:78", after := #[{ on := 1, ground := Ground.data }, { on := 2, ground := Ground.data }], guard := none }
def vc4 : Oper := { dst := some 37, op := Op.load 24 (Operand.tmp 36), type := 24, pos := "law.go:78", after := #[{ on := 3, ground := Ground.data }], guard := none }
def vc5 : Oper := { dst := some 38, op := Op.call { callee := Callee.value (Operand.func 25), args := #[Operand.tmp 33, Operand.tmp 37], argTypes := #[27, 24] }, type := 49, pos := "law.go:78", after := #[{ on := 0, ground := Ground.data }, { on := 4, ground := Ground.data }], guard := none }
def vc6 : Oper := { dst := some 39, op := Op.move (Operand.tmp 6), type := 28, pos := "law.go:78", after := #[], guard := none }
def vc7 : Oper := { dst := some 40, op := Op.move (Operand.tmp 0), type := 44, pos := "law.go:78", after := #[], guard := none }
def vc8 : Oper := { dst := some 41, op := Op.move (Operand.tmp 7), type := 3, pos := "law.go:78", after := #[], guard := none }
def vc9 : Oper := { dst := some 42, op := Op.indexAddr 44 (Operand.tmp 40) (Operand.tmp 41), type := 0, pos := "law.go:78", after := #[{ on := 7, ground := Ground.data }, { on := 8, ground := Ground.data }], guard := none }
def vc10 : Oper := { dst := some 43, op := Op.load 24 (Operand.tmp 42), type := 24, pos := "law.go:78", after := #[{ on := 9, ground := Ground.data }], guard := none }
def vc11 : Oper := { dst := some 44, op := Op.call { callee := Callee.value (Operand.func 26), args := #[Operand.tmp 39, Operand.tmp 43], argTypes := #[28, 24] }, type := 49, pos := "law.go:78", after := #[{ on := 6, ground := Ground.data }, { on := 10, ground := Ground.data }, { on := 5, ground := Ground.chain }], guard := none }
def vc12 : Oper := { dst := some 45, op := Op.binOp BinOp.neq 49 (Operand.tmp 38) (Operand.tmp 44) 49, type := 4, pos := "law.go:78", after := #[{ on := 5, ground := Ground.data }, { on := 11, ground := Ground.data }], guard := none }
def vc13 : Oper := { dst := some 46, op := Op.move (Operand.tmp 45), type := 4, pos := "law.go:78", after := #[{ on := 12, ground := Ground.data }, { on := 11, ground := Ground.chain }], guard := none }
def vc14 : Oper := { dst := some 47, op := Op.move (Operand.tmp 5), type := 27, pos := "law.go:78", after := #[{ on := 13, ground := Ground.guard }], guard := some (13, false) }
def vc15 : Oper := { dst := some 48, op := Op.call { callee := Callee.value (Operand.func 14), args := #[Operand.tmp 47], argTypes := #[27] }, type := 22, pos := "law.go:78", after := #[{ on := 14, ground := Ground.data }, { on := 13, ground := Ground.chain }, { on := 13, ground := Ground.guard }], guard := some (13, false) }
def vc16 : Oper := { dst := some 49, op := Op.move (Operand.tmp 6), type := 28, pos := "law.go:78", after := #[{ on := 13, ground := Ground.guard }], guard := some (13, false) }
def vc17 : Oper := { dst := some 50, op := Op.call { callee := Callee.value (Operand.func 15), args := #[Operand.tmp 49], argTypes := #[28] }, type := 22, pos := "law.go:78", after := #[{ on := 16, ground := Ground.data }, { on := 15, ground := Ground.chain }, { on := 13, ground := Ground.guard }], guard := some (13, false) }
def vc18 : Oper := { dst := some 51, op := Op.call { callee := Callee.value (Operand.func 11), args := #[Operand.tmp 48, Operand.tmp 50], argTypes := #[22, 22] }, type := 4, pos := "law.go:78", after := #[{ on := 15, ground := Ground.data }, { on := 17, ground := Ground.data }, { on := 17, ground := Ground.chain }, { on := 13, ground := Ground.guard }], guard := some (13, false) }
def vc19 : Oper := { dst := some 52, op := Op.unOp UnOp.not 4 (Operand.tmp 51), type := 4, pos := "law.go:78", after := #[{ on := 18, ground := Ground.data }, { on := 13, ground := Ground.guard }], guard := some (13, false) }
def vc20 : Oper := { dst := some 53, op := Op.pick (Operand.tmp 46) (Operand.const (Value.bool true)) (Operand.tmp 52), type := 4, pos := "law.go:78", after := #[{ on := 13, ground := Ground.data }, { on := 19, ground := Ground.data }], guard := none }
def vcs : Array Oper := #[vc0, vc1, vc2, vc3, vc4, vc5, vc6, vc7, vc8, vc9, vc10, vc11, vc12, vc13, vc14, vc15, vc16, vc17, vc18, vc19, vc20]
theorem vc_lit : Region.noSelect vcs = true := by kernel_rfl
theorem run_nei {o : Oper} {a : Act} {x y : Operand} {h : Int} {W : World} (ho : o.op = .binOp .neq 49 x y 49) (hx : a.eval x = .int .i64 h) (hy : a.eval y = .int .i64 h) : (execOp a.eval o).run Try.prog W = .ok (.value (.bool false)) W := by
  unfold execOp
  simp only [ho, hx, hy]
  simp [go_sem]
theorem run_ixids {o : Oper} {a : Act} {x y : Operand} {g off N c k : Nat} {W : World} (ho : o.op = .indexAddr 44 x y) (hx : a.eval x = .slice (some ⟨g, off, none⟩) N c) (hy : a.eval y = .int .i64 k) (hk : k < N) :
    (execOp a.eval o).run Try.prog W = .ok (.value (.pointer (some ⟨g, off + k * 2, none⟩))) W := by
  have hk' : (k : Int) < (N : Int) := by omega
  unfold execOp
  simp only [ho, hx, hy]
  simp [go_sem, hk']
theorem run_ldid2 {o : Oper} {a : Act} {x : Operand} {g i : Nat} {r n : Int} {W : World} (ho : o.op = .load 24 x) (hx : a.eval x = .pointer (some ⟨g, i, none⟩)) (h0 : W.cell? ⟨g, i, none⟩ = some (.int .i64 r)) (h1 : W.cell? ⟨g, i + 1, none⟩ = some (.int .i64 n)) :
    (execOp a.eval o).run Try.prog W = .ok (.value (idv r n)) W := by
  unfold execOp
  simp only [ho, hx]
  simp [go_sem, h0, h1]
/-- A name's two cells. -/
abbrev Id2 (W : World) (g i : Nat) (x y : Int) : Prop := W.cell? ⟨g, i, none⟩ = some (.int .i64 x) ∧ W.cell? ⟨g, i + 1, none⟩ = some (.int .i64 y)
theorem keep2 {W W' : World} {S : Nat → Prop} {g i : Nat} {x y : Int} (h : Id2 W g i x y) (hf : Fr S W W') (hn : ¬ S g) : Id2 W' g i x y := by
  have hl := World.block_lt_of_cell? _ _ h.1
  have hb := hf.block g hl hn
  exact ⟨by rw [World.cell?_of_block (w := W) hb]; exact h.1, by rw [World.cell?_of_block (w := W) hb]; exact h.2⟩
theorem keep2b {W W' : World} {g i : Nat} {x y : Int} (h : Id2 W g i x y) (hb : Below W.heap.size W W') : Id2 W' g i x y :=
  ⟨by rw [hb.cell (World.block_lt_of_cell? _ _ h.1)]; exact h.1, by rw [hb.cell (World.block_lt_of_cell? _ _ h.2)]; exact h.2⟩

set_option maxHeartbeats 8000000 in
theorem calls_r {v r g off N c k : Nat} {l : List Int} {x y : Int} {w : World} {x1 x2 x3 x4 x8 x9 x10 x11 x12 x13 x14 x15 x16 x17 x18 x19 x20 x21 x22 x23 x24 x25 x26 x27 x28 x29 x30 x31 x32 x33 x34 x35 x36 x37 x38 x39 x40 x41 x42 x43 x44 x45 x46 x47 x48 x49 x50 x51 x52 x53 x54 x55 x56 x57 x58 x59 x60 x61 x62 x63 x64 x65 x66 x67 x68 x69 x70 x71 x72 x73 x74 x75 x76 x77 x78 x79 x80 x81 x82 x83 x84 x85 x86 x87 x88 x89 x90 x91 x92 x93 x94 x95 x96 x97 x98 x99 : Value} {Q : Exit → Act → World → Prop} (hk : k < N) (hv : Vc w v l) (hr : Vc w r l) (hrv : r ≠ v) (hgv : g ≠ v) (hgr : g ≠ r) (S0 : Id2 w g (off + k * 2) x y)
    (hP : ∀ c a t d W, Q (.panic c) { tmps := a, defers := d } W → Q (.panic c) { tmps := t, defers := d } W)
    (hQ : ∀ u1 u2 W, Vc W v (putV l x y) → Vc W r (putV l x y) → Fr (fun i => i = v ∨ i = r) (World.drew w) W → Q .normal { tmps := #[.slice (some ⟨g, off, none⟩) N c, x1, x2, x3, x4, .pointer (some ⟨v, 0, none⟩), .pointer (some ⟨r, 0, none⟩), .int .i64 k, x8, x9, x10, x11, x12, x13, x14, x15, x16, x17, x18, x19, x20, x21, x22, x23, x24, x25, x26, x27, x28, x29, x30, x31, x32, .pointer (some ⟨v, 0, none⟩), .slice (some ⟨g, off, none⟩) N c, .int .i64 k, .pointer (some ⟨g, off + k * 2, none⟩), idv x y, .int .i64 (addV l x y), .pointer (some ⟨r, 0, none⟩), .slice (some ⟨g, off, none⟩) N c, .int .i64 k, .pointer (some ⟨g, off + k * 2, none⟩), idv x y, .int .i64 (addV l x y), .bool false, .bool false, .pointer (some ⟨v, 0, none⟩), u1, .pointer (some ⟨r, 0, none⟩), u2, .bool true, .bool false, .bool false, x54, x55, x56, x57, x58, x59, x60, x61, x62, x63, x64, x65, x66, x67, x68, x69, x70, x71, x72, x73, x74, x75, x76, x77, x78, x79, x80, x81, x82, x83, x84, x85, x86, x87, x88, x89, x90, x91, x92, x93, x94, x95, x96, x97, x98, x99], defers := [] } W) : (Code.region 10 vcs true).wp Try.prog Q { tmps := #[.slice (some ⟨g, off, none⟩) N c, x1, x2, x3, x4, .pointer (some ⟨v, 0, none⟩), .pointer (some ⟨r, 0, none⟩), .int .i64 k, x8, x9, x10, x11, x12, x13, x14, x15, x16, x17, x18, x19, x20, x21, x22, x23, x24, x25, x26, x27, x28, x29, x30, x31, x32, x33, x34, x35, x36, x37, x38, x39, x40, x41, x42, x43, x44, x45, x46, x47, x48, x49, x50, x51, x52, x53, x54, x55, x56, x57, x58, x59, x60, x61, x62, x63, x64, x65, x66, x67, x68, x69, x70, x71, x72, x73, x74, x75, x76, x77, x78, x79, x80, x81, x82, x83, x84, x85, x86, x87, x88, x89, x90, x91, x92, x93, x94, x95, x96, x97, x98, x99], defers := [] } w := by
  refine wp_region_held (S := fun W => Id2 W g (off + k * 2) x y) (by kernel_rfl) ?_
  change wpAnyH _ _ _ _ _ 21 _ _ (World.drew _)
  replace S0 : Id2 (World.drew w) g (off + k * 2) x y := S0
  replace hv : Vc (World.drew w) v l := hv
  replace hr : Vc (World.drew w) r l := hr
  obtain ⟨W0, hW⟩ : ∃ W, World.drew w = W := ⟨_, rfl⟩
  rw [hW] at hQ S0 hv hr ⊢
  clear hW
  refine wpAnyH_take (i := 0) (oi := vc0) (v := .pointer (some ⟨v, 0, none⟩)) (by kernel_rfl) vc_lit (by kernel_rfl) (by kernel_rfl) (fun c a W h => hP c _ _ _ W h) (Or.inl ⟨by kernel_rfl, fun W hW => by kernel_rfl⟩) S0 ?_
  rw [show Act.put _ vc0.dst _ = { tmps := #[.slice (some ⟨g, off, none⟩) N c, x1, x2, x3, x4, .pointer (some ⟨v, 0, none⟩), .pointer (some ⟨r, 0, none⟩), .int .i64 k, x8, x9, x10, x11, x12, x13, x14, x15, x16, x17, x18, x19, x20, x21, x22, x23, x24, x25, x26, x27, x28, x29, x30, x31, x32, .pointer (some ⟨v, 0, none⟩), x34, x35, x36, x37, x38, x39, x40, x41, x42, x43, x44, x45, x46, x47, x48, x49, x50, x51, x52, x53, x54, x55, x56, x57, x58, x59, x60, x61, x62, x63, x64, x65, x66, x67, x68, x69, x70, x71, x72, x73, x74, x75, x76, x77, x78, x79, x80, x81, x82, x83, x84, x85, x86, x87, x88, x89, x90, x91, x92, x93, x94, x95, x96, x97, x98, x99], defers := [] } from by kernel_rfl]
  refine wpAnyH_take (i := 1) (oi := vc1) (v := .slice (some ⟨g, off, none⟩) N c) (by kernel_rfl) vc_lit (by kernel_rfl) (by kernel_rfl) (fun c a W h => hP c _ _ _ W h) (Or.inl ⟨by kernel_rfl, fun W hW => by kernel_rfl⟩) S0 ?_
  rw [show Act.put _ vc1.dst _ = { tmps := #[.slice (some ⟨g, off, none⟩) N c, x1, x2, x3, x4, .pointer (some ⟨v, 0, none⟩), .pointer (some ⟨r, 0, none⟩), .int .i64 k, x8, x9, x10, x11, x12, x13, x14, x15, x16, x17, x18, x19, x20, x21, x22, x23, x24, x25, x26, x27, x28, x29, x30, x31, x32, .pointer (some ⟨v, 0, none⟩), .slice (some ⟨g, off, none⟩) N c, x35, x36, x37, x38, x39, x40, x41, x42, x43, x44, x45, x46, x47, x48, x49, x50, x51, x52, x53, x54, x55, x56, x57, x58, x59, x60, x61, x62, x63, x64, x65, x66, x67, x68, x69, x70, x71, x72, x73, x74, x75, x76, x77, x78, x79, x80, x81, x82, x83, x84, x85, x86, x87, x88, x89, x90, x91, x92, x93, x94, x95, x96, x97, x98, x99], defers := [] } from by kernel_rfl]
  refine wpAnyH_take (i := 2) (oi := vc2) (v := .int .i64 k) (by kernel_rfl) vc_lit (by kernel_rfl) (by kernel_rfl) (fun c a W h => hP c _ _ _ W h) (Or.inl ⟨by kernel_rfl, fun W hW => by kernel_rfl⟩) S0 ?_
  rw [show Act.put _ vc2.dst _ = { tmps := #[.slice (some ⟨g, off, none⟩) N c, x1, x2, x3, x4, .pointer (some ⟨v, 0, none⟩), .pointer (some ⟨r, 0, none⟩), .int .i64 k, x8, x9, x10, x11, x12, x13, x14, x15, x16, x17, x18, x19, x20, x21, x22, x23, x24, x25, x26, x27, x28, x29, x30, x31, x32, .pointer (some ⟨v, 0, none⟩), .slice (some ⟨g, off, none⟩) N c, .int .i64 k, x36, x37, x38, x39, x40, x41, x42, x43, x44, x45, x46, x47, x48, x49, x50, x51, x52, x53, x54, x55, x56, x57, x58, x59, x60, x61, x62, x63, x64, x65, x66, x67, x68, x69, x70, x71, x72, x73, x74, x75, x76, x77, x78, x79, x80, x81, x82, x83, x84, x85, x86, x87, x88, x89, x90, x91, x92, x93, x94, x95, x96, x97, x98, x99], defers := [] } from by kernel_rfl]
  refine wpAnyH_take (i := 6) (oi := vc6) (v := .pointer (some ⟨r, 0, none⟩)) (by kernel_rfl) vc_lit (by kernel_rfl) (by kernel_rfl) (fun c a W h => hP c _ _ _ W h) (Or.inl ⟨by kernel_rfl, fun W hW => by kernel_rfl⟩) S0 ?_
  rw [show Act.put _ vc6.dst _ = { tmps := #[.slice (some ⟨g, off, none⟩) N c, x1, x2, x3, x4, .pointer (some ⟨v, 0, none⟩), .pointer (some ⟨r, 0, none⟩), .int .i64 k, x8, x9, x10, x11, x12, x13, x14, x15, x16, x17, x18, x19, x20, x21, x22, x23, x24, x25, x26, x27, x28, x29, x30, x31, x32, .pointer (some ⟨v, 0, none⟩), .slice (some ⟨g, off, none⟩) N c, .int .i64 k, x36, x37, x38, .pointer (some ⟨r, 0, none⟩), x40, x41, x42, x43, x44, x45, x46, x47, x48, x49, x50, x51, x52, x53, x54, x55, x56, x57, x58, x59, x60, x61, x62, x63, x64, x65, x66, x67, x68, x69, x70, x71, x72, x73, x74, x75, x76, x77, x78, x79, x80, x81, x82, x83, x84, x85, x86, x87, x88, x89, x90, x91, x92, x93, x94, x95, x96, x97, x98, x99], defers := [] } from by kernel_rfl]
  refine wpAnyH_take (i := 7) (oi := vc7) (v := .slice (some ⟨g, off, none⟩) N c) (by kernel_rfl) vc_lit (by kernel_rfl) (by kernel_rfl) (fun c a W h => hP c _ _ _ W h) (Or.inl ⟨by kernel_rfl, fun W hW => by kernel_rfl⟩) S0 ?_
  rw [show Act.put _ vc7.dst _ = { tmps := #[.slice (some ⟨g, off, none⟩) N c, x1, x2, x3, x4, .pointer (some ⟨v, 0, none⟩), .pointer (some ⟨r, 0, none⟩), .int .i64 k, x8, x9, x10, x11, x12, x13, x14, x15, x16, x17, x18, x19, x20, x21, x22, x23, x24, x25, x26, x27, x28, x29, x30, x31, x32, .pointer (some ⟨v, 0, none⟩), .slice (some ⟨g, off, none⟩) N c, .int .i64 k, x36, x37, x38, .pointer (some ⟨r, 0, none⟩), .slice (some ⟨g, off, none⟩) N c, x41, x42, x43, x44, x45, x46, x47, x48, x49, x50, x51, x52, x53, x54, x55, x56, x57, x58, x59, x60, x61, x62, x63, x64, x65, x66, x67, x68, x69, x70, x71, x72, x73, x74, x75, x76, x77, x78, x79, x80, x81, x82, x83, x84, x85, x86, x87, x88, x89, x90, x91, x92, x93, x94, x95, x96, x97, x98, x99], defers := [] } from by kernel_rfl]
  refine wpAnyH_take (i := 8) (oi := vc8) (v := .int .i64 k) (by kernel_rfl) vc_lit (by kernel_rfl) (by kernel_rfl) (fun c a W h => hP c _ _ _ W h) (Or.inl ⟨by kernel_rfl, fun W hW => by kernel_rfl⟩) S0 ?_
  rw [show Act.put _ vc8.dst _ = { tmps := #[.slice (some ⟨g, off, none⟩) N c, x1, x2, x3, x4, .pointer (some ⟨v, 0, none⟩), .pointer (some ⟨r, 0, none⟩), .int .i64 k, x8, x9, x10, x11, x12, x13, x14, x15, x16, x17, x18, x19, x20, x21, x22, x23, x24, x25, x26, x27, x28, x29, x30, x31, x32, .pointer (some ⟨v, 0, none⟩), .slice (some ⟨g, off, none⟩) N c, .int .i64 k, x36, x37, x38, .pointer (some ⟨r, 0, none⟩), .slice (some ⟨g, off, none⟩) N c, .int .i64 k, x42, x43, x44, x45, x46, x47, x48, x49, x50, x51, x52, x53, x54, x55, x56, x57, x58, x59, x60, x61, x62, x63, x64, x65, x66, x67, x68, x69, x70, x71, x72, x73, x74, x75, x76, x77, x78, x79, x80, x81, x82, x83, x84, x85, x86, x87, x88, x89, x90, x91, x92, x93, x94, x95, x96, x97, x98, x99], defers := [] } from by kernel_rfl]
  refine wpAnyH_take (i := 3) (oi := vc3) (v := .pointer (some ⟨g, off + k * 2, none⟩)) (by kernel_rfl) vc_lit (by kernel_rfl) (by kernel_rfl) (fun c a W h => hP c _ _ _ W h) (Or.inl ⟨by kernel_rfl, fun W hW => run_ixids rfl rfl rfl hk⟩) S0 ?_
  rw [show Act.put _ vc3.dst _ = { tmps := #[.slice (some ⟨g, off, none⟩) N c, x1, x2, x3, x4, .pointer (some ⟨v, 0, none⟩), .pointer (some ⟨r, 0, none⟩), .int .i64 k, x8, x9, x10, x11, x12, x13, x14, x15, x16, x17, x18, x19, x20, x21, x22, x23, x24, x25, x26, x27, x28, x29, x30, x31, x32, .pointer (some ⟨v, 0, none⟩), .slice (some ⟨g, off, none⟩) N c, .int .i64 k, .pointer (some ⟨g, off + k * 2, none⟩), x37, x38, .pointer (some ⟨r, 0, none⟩), .slice (some ⟨g, off, none⟩) N c, .int .i64 k, x42, x43, x44, x45, x46, x47, x48, x49, x50, x51, x52, x53, x54, x55, x56, x57, x58, x59, x60, x61, x62, x63, x64, x65, x66, x67, x68, x69, x70, x71, x72, x73, x74, x75, x76, x77, x78, x79, x80, x81, x82, x83, x84, x85, x86, x87, x88, x89, x90, x91, x92, x93, x94, x95, x96, x97, x98, x99], defers := [] } from by kernel_rfl]
  refine wpAnyH_take (i := 9) (oi := vc9) (v := .pointer (some ⟨g, off + k * 2, none⟩)) (by kernel_rfl) vc_lit (by kernel_rfl) (by kernel_rfl) (fun c a W h => hP c _ _ _ W h) (Or.inl ⟨by kernel_rfl, fun W hW => run_ixids rfl rfl rfl hk⟩) S0 ?_
  rw [show Act.put _ vc9.dst _ = { tmps := #[.slice (some ⟨g, off, none⟩) N c, x1, x2, x3, x4, .pointer (some ⟨v, 0, none⟩), .pointer (some ⟨r, 0, none⟩), .int .i64 k, x8, x9, x10, x11, x12, x13, x14, x15, x16, x17, x18, x19, x20, x21, x22, x23, x24, x25, x26, x27, x28, x29, x30, x31, x32, .pointer (some ⟨v, 0, none⟩), .slice (some ⟨g, off, none⟩) N c, .int .i64 k, .pointer (some ⟨g, off + k * 2, none⟩), x37, x38, .pointer (some ⟨r, 0, none⟩), .slice (some ⟨g, off, none⟩) N c, .int .i64 k, .pointer (some ⟨g, off + k * 2, none⟩), x43, x44, x45, x46, x47, x48, x49, x50, x51, x52, x53, x54, x55, x56, x57, x58, x59, x60, x61, x62, x63, x64, x65, x66, x67, x68, x69, x70, x71, x72, x73, x74, x75, x76, x77, x78, x79, x80, x81, x82, x83, x84, x85, x86, x87, x88, x89, x90, x91, x92, x93, x94, x95, x96, x97, x98, x99], defers := [] } from by kernel_rfl]
  refine wpAnyH_take (i := 4) (oi := vc4) (v := idv x y) (by kernel_rfl) vc_lit (by kernel_rfl) (by kernel_rfl) (fun c a W h => hP c _ _ _ W h) (Or.inl ⟨by kernel_rfl, fun W hW => run_ldid2 rfl rfl hW.1 hW.2⟩) S0 ?_
  rw [show Act.put _ vc4.dst _ = { tmps := #[.slice (some ⟨g, off, none⟩) N c, x1, x2, x3, x4, .pointer (some ⟨v, 0, none⟩), .pointer (some ⟨r, 0, none⟩), .int .i64 k, x8, x9, x10, x11, x12, x13, x14, x15, x16, x17, x18, x19, x20, x21, x22, x23, x24, x25, x26, x27, x28, x29, x30, x31, x32, .pointer (some ⟨v, 0, none⟩), .slice (some ⟨g, off, none⟩) N c, .int .i64 k, .pointer (some ⟨g, off + k * 2, none⟩), idv x y, x38, .pointer (some ⟨r, 0, none⟩), .slice (some ⟨g, off, none⟩) N c, .int .i64 k, .pointer (some ⟨g, off + k * 2, none⟩), x43, x44, x45, x46, x47, x48, x49, x50, x51, x52, x53, x54, x55, x56, x57, x58, x59, x60, x61, x62, x63, x64, x65, x66, x67, x68, x69, x70, x71, x72, x73, x74, x75, x76, x77, x78, x79, x80, x81, x82, x83, x84, x85, x86, x87, x88, x89, x90, x91, x92, x93, x94, x95, x96, x97, x98, x99], defers := [] } from by kernel_rfl]
  refine wpAnyH_take (i := 10) (oi := vc10) (v := idv x y) (by kernel_rfl) vc_lit (by kernel_rfl) (by kernel_rfl) (fun c a W h => hP c _ _ _ W h) (Or.inl ⟨by kernel_rfl, fun W hW => run_ldid2 rfl rfl hW.1 hW.2⟩) S0 ?_
  rw [show Act.put _ vc10.dst _ = { tmps := #[.slice (some ⟨g, off, none⟩) N c, x1, x2, x3, x4, .pointer (some ⟨v, 0, none⟩), .pointer (some ⟨r, 0, none⟩), .int .i64 k, x8, x9, x10, x11, x12, x13, x14, x15, x16, x17, x18, x19, x20, x21, x22, x23, x24, x25, x26, x27, x28, x29, x30, x31, x32, .pointer (some ⟨v, 0, none⟩), .slice (some ⟨g, off, none⟩) N c, .int .i64 k, .pointer (some ⟨g, off + k * 2, none⟩), idv x y, x38, .pointer (some ⟨r, 0, none⟩), .slice (some ⟨g, off, none⟩) N c, .int .i64 k, .pointer (some ⟨g, off + k * 2, none⟩), idv x y, x44, x45, x46, x47, x48, x49, x50, x51, x52, x53, x54, x55, x56, x57, x58, x59, x60, x61, x62, x63, x64, x65, x66, x67, x68, x69, x70, x71, x72, x73, x74, x75, x76, x77, x78, x79, x80, x81, x82, x83, x84, x85, x86, x87, x88, x89, x90, x91, x92, x93, x94, x95, x96, x97, x98, x99], defers := [] } from by kernel_rfl]
  refine wpAnyH_all (rs := [5]) (by kernel_rfl) (by simp) (fun i hi => ?_)
  obtain rfl := List.mem_singleton.1 hi
  refine hb_callx (o := vc5) (f := 25) (args := #[.pointer (some ⟨v, 0, none⟩), idv x y]) (D := fun u V => u = .int .i64 (addV l x y) ∧ Vc V v (putV l x y) ∧ Fr (fun i => i = v) W0 V) (by kernel_rfl) (by kernel_rfl) (by kernel_rfl) ((add_any v l x y _ hv).mono fun e V ⟨h1, h2, h3⟩ => ⟨_, h1, rfl, h2, h3⟩) ?_
  rintro _ W1 ⟨rfl, hv1, f1⟩
  have S1 := keep2 S0 f1 (fun e => hgv e)
  have hr1 := hr.fr f1 (fun e => hrv e)
  rw [show Act.put _ vc5.dst _ = { tmps := #[.slice (some ⟨g, off, none⟩) N c, x1, x2, x3, x4, .pointer (some ⟨v, 0, none⟩), .pointer (some ⟨r, 0, none⟩), .int .i64 k, x8, x9, x10, x11, x12, x13, x14, x15, x16, x17, x18, x19, x20, x21, x22, x23, x24, x25, x26, x27, x28, x29, x30, x31, x32, .pointer (some ⟨v, 0, none⟩), .slice (some ⟨g, off, none⟩) N c, .int .i64 k, .pointer (some ⟨g, off + k * 2, none⟩), idv x y, .int .i64 (addV l x y), .pointer (some ⟨r, 0, none⟩), .slice (some ⟨g, off, none⟩) N c, .int .i64 k, .pointer (some ⟨g, off + k * 2, none⟩), idv x y, x44, x45, x46, x47, x48, x49, x50, x51, x52, x53, x54, x55, x56, x57, x58, x59, x60, x61, x62, x63, x64, x65, x66, x67, x68, x69, x70, x71, x72, x73, x74, x75, x76, x77, x78, x79, x80, x81, x82, x83, x84, x85, x86, x87, x88, x89, x90, x91, x92, x93, x94, x95, x96, x97, x98, x99], defers := [] } from by kernel_rfl]
  refine ⟨S1, ?_⟩
  refine wpAnyH_all (rs := [11]) (by kernel_rfl) (by simp) (fun i hi => ?_)
  obtain rfl := List.mem_singleton.1 hi
  refine hb_callx (o := vc11) (f := 26) (args := #[.pointer (some ⟨r, 0, none⟩), idv x y]) (D := fun u V => u = .int .i64 (addV l x y) ∧ Vc V r (putV l x y) ∧ Fr (fun i => i = r) W1 V) (by kernel_rfl) (by kernel_rfl) (by kernel_rfl) ((xadd_any r l x y _ hr1).mono fun e V ⟨h1, h2, h3⟩ => ⟨_, h1, rfl, h2, h3⟩) ?_
  rintro _ W2 ⟨rfl, hr2, f2⟩
  have S2 := keep2 S1 f2 (fun e => hgr e)
  have hv2 := hv1.fr f2 (fun e => hrv e.symm)
  rw [show Act.put _ vc11.dst _ = { tmps := #[.slice (some ⟨g, off, none⟩) N c, x1, x2, x3, x4, .pointer (some ⟨v, 0, none⟩), .pointer (some ⟨r, 0, none⟩), .int .i64 k, x8, x9, x10, x11, x12, x13, x14, x15, x16, x17, x18, x19, x20, x21, x22, x23, x24, x25, x26, x27, x28, x29, x30, x31, x32, .pointer (some ⟨v, 0, none⟩), .slice (some ⟨g, off, none⟩) N c, .int .i64 k, .pointer (some ⟨g, off + k * 2, none⟩), idv x y, .int .i64 (addV l x y), .pointer (some ⟨r, 0, none⟩), .slice (some ⟨g, off, none⟩) N c, .int .i64 k, .pointer (some ⟨g, off + k * 2, none⟩), idv x y, .int .i64 (addV l x y), x45, x46, x47, x48, x49, x50, x51, x52, x53, x54, x55, x56, x57, x58, x59, x60, x61, x62, x63, x64, x65, x66, x67, x68, x69, x70, x71, x72, x73, x74, x75, x76, x77, x78, x79, x80, x81, x82, x83, x84, x85, x86, x87, x88, x89, x90, x91, x92, x93, x94, x95, x96, x97, x98, x99], defers := [] } from by kernel_rfl]
  refine ⟨S2, ?_⟩
  refine wpAnyH_take (i := 12) (oi := vc12) (v := .bool false) (by kernel_rfl) vc_lit (by kernel_rfl) (by kernel_rfl) (fun c a W h => hP c _ _ _ W h) (Or.inl ⟨by kernel_rfl, fun W hW => run_nei rfl rfl rfl⟩) S2 ?_
  rw [show Act.put _ vc12.dst _ = { tmps := #[.slice (some ⟨g, off, none⟩) N c, x1, x2, x3, x4, .pointer (some ⟨v, 0, none⟩), .pointer (some ⟨r, 0, none⟩), .int .i64 k, x8, x9, x10, x11, x12, x13, x14, x15, x16, x17, x18, x19, x20, x21, x22, x23, x24, x25, x26, x27, x28, x29, x30, x31, x32, .pointer (some ⟨v, 0, none⟩), .slice (some ⟨g, off, none⟩) N c, .int .i64 k, .pointer (some ⟨g, off + k * 2, none⟩), idv x y, .int .i64 (addV l x y), .pointer (some ⟨r, 0, none⟩), .slice (some ⟨g, off, none⟩) N c, .int .i64 k, .pointer (some ⟨g, off + k * 2, none⟩), idv x y, .int .i64 (addV l x y), .bool false, x46, x47, x48, x49, x50, x51, x52, x53, x54, x55, x56, x57, x58, x59, x60, x61, x62, x63, x64, x65, x66, x67, x68, x69, x70, x71, x72, x73, x74, x75, x76, x77, x78, x79, x80, x81, x82, x83, x84, x85, x86, x87, x88, x89, x90, x91, x92, x93, x94, x95, x96, x97, x98, x99], defers := [] } from by kernel_rfl]
  refine wpAnyH_take (i := 13) (oi := vc13) (v := .bool false) (by kernel_rfl) vc_lit (by kernel_rfl) (by kernel_rfl) (fun c a W h => hP c _ _ _ W h) (Or.inl ⟨by kernel_rfl, fun W hW => by kernel_rfl⟩) S2 ?_
  rw [show Act.put _ vc13.dst _ = { tmps := #[.slice (some ⟨g, off, none⟩) N c, x1, x2, x3, x4, .pointer (some ⟨v, 0, none⟩), .pointer (some ⟨r, 0, none⟩), .int .i64 k, x8, x9, x10, x11, x12, x13, x14, x15, x16, x17, x18, x19, x20, x21, x22, x23, x24, x25, x26, x27, x28, x29, x30, x31, x32, .pointer (some ⟨v, 0, none⟩), .slice (some ⟨g, off, none⟩) N c, .int .i64 k, .pointer (some ⟨g, off + k * 2, none⟩), idv x y, .int .i64 (addV l x y), .pointer (some ⟨r, 0, none⟩), .slice (some ⟨g, off, none⟩) N c, .int .i64 k, .pointer (some ⟨g, off + k * 2, none⟩), idv x y, .int .i64 (addV l x y), .bool false, .bool false, x47, x48, x49, x50, x51, x52, x53, x54, x55, x56, x57, x58, x59, x60, x61, x62, x63, x64, x65, x66, x67, x68, x69, x70, x71, x72, x73, x74, x75, x76, x77, x78, x79, x80, x81, x82, x83, x84, x85, x86, x87, x88, x89, x90, x91, x92, x93, x94, x95, x96, x97, x98, x99], defers := [] } from by kernel_rfl]
  refine wpAnyH_take (i := 14) (oi := vc14) (v := .pointer (some ⟨v, 0, none⟩)) (by kernel_rfl) vc_lit (by kernel_rfl) (by kernel_rfl) (fun c a W h => hP c _ _ _ W h) (Or.inl ⟨by kernel_rfl, fun W hW => by kernel_rfl⟩) S2 ?_
  rw [show Act.put _ vc14.dst _ = { tmps := #[.slice (some ⟨g, off, none⟩) N c, x1, x2, x3, x4, .pointer (some ⟨v, 0, none⟩), .pointer (some ⟨r, 0, none⟩), .int .i64 k, x8, x9, x10, x11, x12, x13, x14, x15, x16, x17, x18, x19, x20, x21, x22, x23, x24, x25, x26, x27, x28, x29, x30, x31, x32, .pointer (some ⟨v, 0, none⟩), .slice (some ⟨g, off, none⟩) N c, .int .i64 k, .pointer (some ⟨g, off + k * 2, none⟩), idv x y, .int .i64 (addV l x y), .pointer (some ⟨r, 0, none⟩), .slice (some ⟨g, off, none⟩) N c, .int .i64 k, .pointer (some ⟨g, off + k * 2, none⟩), idv x y, .int .i64 (addV l x y), .bool false, .bool false, .pointer (some ⟨v, 0, none⟩), x48, x49, x50, x51, x52, x53, x54, x55, x56, x57, x58, x59, x60, x61, x62, x63, x64, x65, x66, x67, x68, x69, x70, x71, x72, x73, x74, x75, x76, x77, x78, x79, x80, x81, x82, x83, x84, x85, x86, x87, x88, x89, x90, x91, x92, x93, x94, x95, x96, x97, x98, x99], defers := [] } from by kernel_rfl]
  refine wpAnyH_take (i := 16) (oi := vc16) (v := .pointer (some ⟨r, 0, none⟩)) (by kernel_rfl) vc_lit (by kernel_rfl) (by kernel_rfl) (fun c a W h => hP c _ _ _ W h) (Or.inl ⟨by kernel_rfl, fun W hW => by kernel_rfl⟩) S2 ?_
  rw [show Act.put _ vc16.dst _ = { tmps := #[.slice (some ⟨g, off, none⟩) N c, x1, x2, x3, x4, .pointer (some ⟨v, 0, none⟩), .pointer (some ⟨r, 0, none⟩), .int .i64 k, x8, x9, x10, x11, x12, x13, x14, x15, x16, x17, x18, x19, x20, x21, x22, x23, x24, x25, x26, x27, x28, x29, x30, x31, x32, .pointer (some ⟨v, 0, none⟩), .slice (some ⟨g, off, none⟩) N c, .int .i64 k, .pointer (some ⟨g, off + k * 2, none⟩), idv x y, .int .i64 (addV l x y), .pointer (some ⟨r, 0, none⟩), .slice (some ⟨g, off, none⟩) N c, .int .i64 k, .pointer (some ⟨g, off + k * 2, none⟩), idv x y, .int .i64 (addV l x y), .bool false, .bool false, .pointer (some ⟨v, 0, none⟩), x48, .pointer (some ⟨r, 0, none⟩), x50, x51, x52, x53, x54, x55, x56, x57, x58, x59, x60, x61, x62, x63, x64, x65, x66, x67, x68, x69, x70, x71, x72, x73, x74, x75, x76, x77, x78, x79, x80, x81, x82, x83, x84, x85, x86, x87, x88, x89, x90, x91, x92, x93, x94, x95, x96, x97, x98, x99], defers := [] } from by kernel_rfl]
  refine wpAnyH_all (rs := [15]) (by kernel_rfl) (by simp) (fun i hi => ?_)
  obtain rfl := List.mem_singleton.1 hi
  refine hb_callx (o := vc15) (f := 14) (args := #[.pointer (some ⟨v, 0, none⟩)]) (D := fun u V => Iz V u (putV l x y) ∧ Below W2.heap.size W2 V) (by kernel_rfl) (by kernel_rfl) (by kernel_rfl) ((have_any v (putV l x y) _ hv2).mono fun e V ⟨u, h1, h2, h3⟩ => ⟨u, h1, h2, h3⟩) ?_
  rintro u1 W3 ⟨z1, b3⟩
  have S3 := keep2b S2 b3
  have hv3 := hv2.below b3
  have hr3 := hr2.below b3
  rw [show Act.put _ vc15.dst _ = { tmps := #[.slice (some ⟨g, off, none⟩) N c, x1, x2, x3, x4, .pointer (some ⟨v, 0, none⟩), .pointer (some ⟨r, 0, none⟩), .int .i64 k, x8, x9, x10, x11, x12, x13, x14, x15, x16, x17, x18, x19, x20, x21, x22, x23, x24, x25, x26, x27, x28, x29, x30, x31, x32, .pointer (some ⟨v, 0, none⟩), .slice (some ⟨g, off, none⟩) N c, .int .i64 k, .pointer (some ⟨g, off + k * 2, none⟩), idv x y, .int .i64 (addV l x y), .pointer (some ⟨r, 0, none⟩), .slice (some ⟨g, off, none⟩) N c, .int .i64 k, .pointer (some ⟨g, off + k * 2, none⟩), idv x y, .int .i64 (addV l x y), .bool false, .bool false, .pointer (some ⟨v, 0, none⟩), u1, .pointer (some ⟨r, 0, none⟩), x50, x51, x52, x53, x54, x55, x56, x57, x58, x59, x60, x61, x62, x63, x64, x65, x66, x67, x68, x69, x70, x71, x72, x73, x74, x75, x76, x77, x78, x79, x80, x81, x82, x83, x84, x85, x86, x87, x88, x89, x90, x91, x92, x93, x94, x95, x96, x97, x98, x99], defers := [] } from by kernel_rfl]
  refine ⟨S3, ?_⟩
  refine wpAnyH_all (rs := [17]) (by kernel_rfl) (by simp) (fun i hi => ?_)
  obtain rfl := List.mem_singleton.1 hi
  refine hb_callx (o := vc17) (f := 15) (args := #[.pointer (some ⟨r, 0, none⟩)]) (D := fun u V => Iz V u (putV l x y) ∧ Below W3.heap.size W3 V) (by kernel_rfl) (by kernel_rfl) (by kernel_rfl) ((xlist_any r (putV l x y) _ hr3).mono fun e V ⟨u, h1, h2, h3⟩ => ⟨u, h1, h2, h3⟩) ?_
  rintro u2 W4 ⟨z2, b4⟩
  have S4 := keep2b S3 b4
  have hv4 := hv3.below b4
  have hr4 := hr3.below b4
  have z3 := z1.below b4
  rw [show Act.put _ vc17.dst _ = { tmps := #[.slice (some ⟨g, off, none⟩) N c, x1, x2, x3, x4, .pointer (some ⟨v, 0, none⟩), .pointer (some ⟨r, 0, none⟩), .int .i64 k, x8, x9, x10, x11, x12, x13, x14, x15, x16, x17, x18, x19, x20, x21, x22, x23, x24, x25, x26, x27, x28, x29, x30, x31, x32, .pointer (some ⟨v, 0, none⟩), .slice (some ⟨g, off, none⟩) N c, .int .i64 k, .pointer (some ⟨g, off + k * 2, none⟩), idv x y, .int .i64 (addV l x y), .pointer (some ⟨r, 0, none⟩), .slice (some ⟨g, off, none⟩) N c, .int .i64 k, .pointer (some ⟨g, off + k * 2, none⟩), idv x y, .int .i64 (addV l x y), .bool false, .bool false, .pointer (some ⟨v, 0, none⟩), u1, .pointer (some ⟨r, 0, none⟩), u2, x51, x52, x53, x54, x55, x56, x57, x58, x59, x60, x61, x62, x63, x64, x65, x66, x67, x68, x69, x70, x71, x72, x73, x74, x75, x76, x77, x78, x79, x80, x81, x82, x83, x84, x85, x86, x87, x88, x89, x90, x91, x92, x93, x94, x95, x96, x97, x98, x99], defers := [] } from by kernel_rfl]
  refine ⟨S4, ?_⟩
  refine wpAnyH_all (rs := [18]) (by kernel_rfl) (by simp) (fun i hi => ?_)
  obtain rfl := List.mem_singleton.1 hi
  refine hb_callx (o := vc18) (f := 11) (args := #[u1, u2]) (D := fun u V => u = .bool true ∧ Below W4.heap.size W4 V) (by kernel_rfl) (by kernel_rfl) (by kernel_rfl) ((sameints_any _ _ (putV l x y) (putV l x y) _ z3 z2).mono fun e V ⟨h1, h2⟩ => ⟨_, h1, by rw [decide_eq_true (rfl : putV l x y = putV l x y)], h2⟩) ?_
  rintro _ W5 ⟨rfl, b5⟩
  have S5 := keep2b S4 b5
  have hv5 := hv4.below b5
  have hr5 := hr4.below b5
  rw [show Act.put _ vc18.dst _ = { tmps := #[.slice (some ⟨g, off, none⟩) N c, x1, x2, x3, x4, .pointer (some ⟨v, 0, none⟩), .pointer (some ⟨r, 0, none⟩), .int .i64 k, x8, x9, x10, x11, x12, x13, x14, x15, x16, x17, x18, x19, x20, x21, x22, x23, x24, x25, x26, x27, x28, x29, x30, x31, x32, .pointer (some ⟨v, 0, none⟩), .slice (some ⟨g, off, none⟩) N c, .int .i64 k, .pointer (some ⟨g, off + k * 2, none⟩), idv x y, .int .i64 (addV l x y), .pointer (some ⟨r, 0, none⟩), .slice (some ⟨g, off, none⟩) N c, .int .i64 k, .pointer (some ⟨g, off + k * 2, none⟩), idv x y, .int .i64 (addV l x y), .bool false, .bool false, .pointer (some ⟨v, 0, none⟩), u1, .pointer (some ⟨r, 0, none⟩), u2, .bool true, x52, x53, x54, x55, x56, x57, x58, x59, x60, x61, x62, x63, x64, x65, x66, x67, x68, x69, x70, x71, x72, x73, x74, x75, x76, x77, x78, x79, x80, x81, x82, x83, x84, x85, x86, x87, x88, x89, x90, x91, x92, x93, x94, x95, x96, x97, x98, x99], defers := [] } from by kernel_rfl]
  refine ⟨S5, ?_⟩
  refine wpAnyH_take (i := 19) (oi := vc19) (v := .bool false) (by kernel_rfl) vc_lit (by kernel_rfl) (by kernel_rfl) (fun c a W h => hP c _ _ _ W h) (Or.inl ⟨by kernel_rfl, fun W hW => by kernel_rfl⟩) S5 ?_
  rw [show Act.put _ vc19.dst _ = { tmps := #[.slice (some ⟨g, off, none⟩) N c, x1, x2, x3, x4, .pointer (some ⟨v, 0, none⟩), .pointer (some ⟨r, 0, none⟩), .int .i64 k, x8, x9, x10, x11, x12, x13, x14, x15, x16, x17, x18, x19, x20, x21, x22, x23, x24, x25, x26, x27, x28, x29, x30, x31, x32, .pointer (some ⟨v, 0, none⟩), .slice (some ⟨g, off, none⟩) N c, .int .i64 k, .pointer (some ⟨g, off + k * 2, none⟩), idv x y, .int .i64 (addV l x y), .pointer (some ⟨r, 0, none⟩), .slice (some ⟨g, off, none⟩) N c, .int .i64 k, .pointer (some ⟨g, off + k * 2, none⟩), idv x y, .int .i64 (addV l x y), .bool false, .bool false, .pointer (some ⟨v, 0, none⟩), u1, .pointer (some ⟨r, 0, none⟩), u2, .bool true, .bool false, x53, x54, x55, x56, x57, x58, x59, x60, x61, x62, x63, x64, x65, x66, x67, x68, x69, x70, x71, x72, x73, x74, x75, x76, x77, x78, x79, x80, x81, x82, x83, x84, x85, x86, x87, x88, x89, x90, x91, x92, x93, x94, x95, x96, x97, x98, x99], defers := [] } from by kernel_rfl]
  refine wpAnyH_take (i := 20) (oi := vc20) (v := .bool false) (by kernel_rfl) vc_lit (by kernel_rfl) (by kernel_rfl) (fun c a W h => hP c _ _ _ W h) (Or.inl ⟨by kernel_rfl, fun W hW => by kernel_rfl⟩) S5 ?_
  rw [show Act.put _ vc20.dst _ = { tmps := #[.slice (some ⟨g, off, none⟩) N c, x1, x2, x3, x4, .pointer (some ⟨v, 0, none⟩), .pointer (some ⟨r, 0, none⟩), .int .i64 k, x8, x9, x10, x11, x12, x13, x14, x15, x16, x17, x18, x19, x20, x21, x22, x23, x24, x25, x26, x27, x28, x29, x30, x31, x32, .pointer (some ⟨v, 0, none⟩), .slice (some ⟨g, off, none⟩) N c, .int .i64 k, .pointer (some ⟨g, off + k * 2, none⟩), idv x y, .int .i64 (addV l x y), .pointer (some ⟨r, 0, none⟩), .slice (some ⟨g, off, none⟩) N c, .int .i64 k, .pointer (some ⟨g, off + k * 2, none⟩), idv x y, .int .i64 (addV l x y), .bool false, .bool false, .pointer (some ⟨v, 0, none⟩), u1, .pointer (some ⟨r, 0, none⟩), u2, .bool true, .bool false, .bool false, x54, x55, x56, x57, x58, x59, x60, x61, x62, x63, x64, x65, x66, x67, x68, x69, x70, x71, x72, x73, x74, x75, x76, x77, x78, x79, x80, x81, x82, x83, x84, x85, x86, x87, x88, x89, x90, x91, x92, x93, x94, x95, x96, x97, x98, x99], defers := [] } from by kernel_rfl]
  refine wpAnyH_done (by kernel_rfl) (hQ _ _ _ hv5 hr5 ?_) _
  have t1 : Fr (fun i => i = v ∨ i = r) W0 W2 := (f1.mono fun k e => .inl e).trans f2 (fun i _ e => .inr e)
  have t2 : Fr (fun i => i = v ∨ i = r) W0 W3 := t1.trans (Fr.of_below (S := fun _ => False) b3) (fun i _ e => e.elim)
  have t3 : Fr (fun i => i = v ∨ i = r) W0 W4 := t2.trans (Fr.of_below (S := fun _ => False) b4) (fun i _ e => e.elim)
  exact t3.trans (Fr.of_below (S := fun _ => False) b5) (fun i _ e => e.elim)

end Go.Proofs.Ytkcjkncpaopjbaa

/-
  What both answers, where there is a vector of the numbers, and what it tells in any case.
-/
namespace Go.Proofs.Ytkcjkncpaopjbaa
open Go.RowKit
set_option linter.unusedVariables false
set_option maxRecDepth 100000

theorem bo_yes (v : Value) (l : List Int) (w : World) (h : Iz w v l) (hok : okV l = true) : Calls Try.prog 10 #[v] w fun e w' =>
    ∃ c d, e = .returned (.tuple #[.pointer (some ⟨c, 0, none⟩), .pointer (some ⟨d, 0, none⟩), .bool true, .bool true]) ∧ w.heap.size ≤ c ∧ c < d ∧ Vc w' c (padV l) ∧ Vc w' d (padV l) ∧ Below w.heap.size w w' :=
  (both_any v l w h).mono fun e w' h => h.elim (fun h => h.2) (fun h => absurd h.1 (by rw [hok]; decide))
theorem bo_flag (v : Value) (l : List Int) (w : World) (h : Iz w v l) : Calls Try.prog 10 #[v] w fun e w' =>
    ∃ P R, e = .returned (.tuple #[P, R, .bool true, .bool (okV l)]) ∧ Below w.heap.size w w' :=
  (both_any v l w h).mono fun e w' h => h.elim (fun ⟨h1, c, d, h2, _, _, _, _, h5⟩ => ⟨_, _, by rw [h1]; exact h2, h5⟩) (fun ⟨h1, h2, h3⟩ => ⟨_, _, by rw [h1]; exact h2, h3⟩)
end Go.Proofs.Ytkcjkncpaopjbaa
