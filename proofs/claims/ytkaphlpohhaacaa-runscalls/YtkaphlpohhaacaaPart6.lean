/-
  Parts of the proof, one behind the other; what each proves stands at its head.
-/
import Derived.Test.YtkaphlpohhaacaaPart2
import Derived.Test.YtkaphlpohhaacaaPart5
import Derived.Lib.AppendStr
import Derived.Lib.UnsafeStr

/-
  What strings.Builder's WriteString does to a builder that a call has made is proved here; strings.Clone, String are the library's.
-/
namespace Go.Proofs.Ytkaphlpohhaacaa
open Go.RowKit
set_option linter.unusedVariables false
set_option linter.unusedSimpArgs false
set_option maxRecDepth 100000

/-- A builder's block. -/
abbrev Bl (B b : Nat) (bs : List Value) (w : World) : Prop := Lib.IsBuilder 76 5 B b bs w

theorem sizeBl : (Try.prog.info? 76).map (·.size) = some 2 := by kernel_rfl
theorem infoBy : (Try.prog.info? 5).map (fun i => (i.zero, i.size, i.bytes)) = some (some (.int .u8 0), 1, 1) := by kernel_rfl

set_option maxHeartbeats 1000000 in
theorem check_used (b : Nat) (w : World) (h0 : w.cell? ⟨b, 0, none⟩ = some (.pointer (some ⟨b, 0, none⟩))) :
    Calls Try.prog 47 #[.pointer (some ⟨b, 0, none⟩)] w fun e w' => e = .returned (.tuple #[]) ∧ w = w' := by
  obtain ⟨j, hj, _⟩ := Option.map_eq_some_iff.1 sizeBl
  go_enter Try.func47, Try.ntmps47
  go_wp2
  rw [Lib.run_neq_ptr_same w _ Try.underlying73 hj]
  go_wp2
  go_end0
  exact ⟨rfl, rfl⟩

theorem r_pgm {α : Type} (P : Program) (f : Program → Sem α) (w : World) : Sem.run P (Sem.program f) w = Sem.run P (f P) w := rfl
theorem r_bnd {α β : Type} (P : Program) (m : Sem α) (f : α → Sem β) (w : World) : Sem.run P (m.bind f) w = (Sem.run P m w).andThen (fun x w => Sem.run P (f x) w) := Sem.run_bind ..
/-- A builder's address as a plain one, and back. -/
theorem conv_there {j : TypeInfo} (b : Nat) (w : World) (ht : Try.prog.info? 76 = some j) (hj : j.size ≠ 0) (hsh : w.shape? b = some (76, 2)) : (convert 73 93 (.pointer (some ⟨b, 0, none⟩))).run Try.prog w = .ok (.pointer (some ⟨b, 0, none⟩)) w := by
  have hu : Try.prog.underlying 93 = _ := Try.underlying93
  have hu2 : Try.prog.underlying 73 = _ := Try.underlying73
  simp [convert, run_underlying hu, run_underlying hu2]
  conv => lhs; arg 2; whnf
  simp [r_pgm, r_bnd, hu2, run_underlying hu, Conv.seenAt, viewAt, cellsIn, hsh, sizeOf, typeInfo, ht, hj]
theorem conv_back {j : TypeInfo} (b : Nat) (w : World) (ht : Try.prog.info? 76 = some j) (hj : j.size ≠ 0) (hsh : w.shape? b = some (76,2)) (hl : liesAt Try.prog Try.prog.depth 76 (2 / Try.prog.cellsOf 76) 0 76 1 = true) : (convert 93 73 (.pointer (some ⟨b,0,none⟩))).run Try.prog w = .ok (.pointer (some ⟨b,0,none⟩)) w := by
  have hu : Try.prog.underlying 93 = _ := Try.underlying93
  have hu2 : Try.prog.underlying 73 = _ := Try.underlying73
  simp [convert, run_underlying hu, run_underlying hu2]
  conv => lhs; arg 2; whnf
  simp [r_pgm, r_bnd, hu, run_underlying hu2, Conv.seenAt, viewAt, variablesAt, hl, hsh, sizeOf, typeInfo, ht, hj]

set_option maxHeartbeats 1000000 in
theorem check_fresh (b : Nat) (w : World) (h0 : w.cell? ⟨b, 0, none⟩ = some (.pointer none)) (hsh : w.shape? b = some (76, 2)) (hfz : w.frozen? ⟨b, 0, none⟩ = false) :
    Calls Try.prog 47 #[.pointer (some ⟨b, 0, none⟩)] w fun e w' => e = .returned (.tuple #[]) ∧ w' = w.setCell ⟨b, 0, none⟩ (.pointer (some ⟨b, 0, none⟩)) := by
  obtain ⟨j, hj, hjs⟩ := Option.map_eq_some_iff.1 sizeBl
  go_enter Try.func47, Try.ntmps47
  go_wp2
  rw [conv_there b w hj (by rw [hjs]; decide) hsh]
  simp only [Result.andThen]
  rw [Oper.upon_value]
  go_wp2
  rw [run_callFunc_extern Try.func56 (by kernel_rfl) (by kernel_rfl) (by kernel_rfl) (e := Extern.AbiNoEscape.same) (by kernel_rfl)]
  rw [Lib.run_noEscape]
  simp only [Result.andThen]
  rw [Oper.upon_value]
  go_wp2
  rw [conv_back b w hj (by rw [hjs]; decide) hsh (by kernel_rfl)]
  simp only [Result.andThen]
  rw [Oper.upon_value]
  go_wp2
  go_end0
  exact ⟨rfl, rfl⟩

theorem check_any (B b : Nat) (bs : List Value) (w : World) (h : Bl B b bs w) :
    Calls Try.prog 47 #[.pointer (some ⟨b, 0, none⟩)] w fun e w' => e = .returned (.tuple #[]) ∧ Lib.BuilderAt 76 5 B b (.pointer (some ⟨b, 0, none⟩)) bs w' ∧ Below B w w' := by
  rcases h with h | h
  · refine (check_fresh b w h.cell0 h.shape h.frozen0).mono ?_
    rintro e w' ⟨rfl, rfl⟩
    exact ⟨rfl, h.used _, (Below.refl B w).setCell (p := ⟨b, 0, none⟩) h.1 _⟩
  · refine (check_used b w h.cell0).mono ?_
    rintro e w' ⟨rfl, rfl⟩
    exact ⟨rfl, h, Below.refl B _⟩

set_option maxHeartbeats 2000000 in
theorem bwrite_any (B b : Nat) (bs : List Value) (s : ByteArray) (w : World) (h : Bl B b bs w) (hlen : bs.length + s.size ≤ 140737488355328) (hBw : B ≤ w.heap.size) :
    Calls Try.prog 40 #[.pointer (some ⟨b, 0, none⟩), .string s] w fun e w' => e = .returned (.tuple #[.int .i64 s.size, .nilIface]) ∧ Bl B b (bs ++ Lib.strCells s) w' ∧ Below B w w' := by
  obtain ⟨i0, hi, hz0, hz1, hz2⟩ := info_parts infoBy
  have HC := hid (check_any B b bs w h)
  clear h
  go_enter Try.func40, Try.ntmps40
  go_wp2_with fail
  refine HC.out.mono ?_
  rintro e w1 ⟨rfl, h1, hb1⟩
  obtain ⟨hB, v, hbk, hown, hne⟩ := h1
  have c0 : w1.cell? ⟨b, 0, none⟩ = some (.pointer (some ⟨b, 0, none⟩)) := by rw [Lib.cell_of_heap hbk]; rfl
  have c1 : w1.cell? ⟨b, 1, none⟩ = some v := by rw [Lib.cell_of_heap hbk]; rfl
  have hs1 := hb1.size
  have HH := hid hbk
  have HO := hid hown
  have HN := hid hne
  have HB1 := hid hb1
  clear hbk hown hne hb1
  go_wp2_with (at_builtin; refine Lib.wpList_append_own_string _ rfl _ _ 74 9 rfl B 5 i0 Try.underlying74 Try.underlying9 hi hz0 hz1 hz2 _ _ _ rfl HO.out s rfl (by unfold maxLen; omega) (by omega) (by omega) ?_)
  intro v' w2 hown' hgrow _
  have hb2 : w2.heap[b]? = some (.cells #[.pointer (some ⟨b, 0, none⟩), v] 76 (0, 0)) := by
    rw [hgrow.block b (Array.getElem?_eq_some_iff.1 HH.out).1 (fun e => HN.out e.symm)]
    exact HH.out
  have d0 : w2.cell? ⟨b, 0, none⟩ = some (.pointer (some ⟨b, 0, none⟩)) := by rw [Lib.cell_of_heap hb2]; rfl
  have d1 : w2.cell? ⟨b, 1, none⟩ = some v := by rw [Lib.cell_of_heap hb2]; rfl
  have f1 : w2.frozen? ⟨b, 1, none⟩ = false := Lib.frozen_of_heap hb2 1
  obtain ⟨ao, n', cap, rfl⟩ : ∃ ao n' cap, v' = .slice ao n' cap := by
    rcases hown'.2 with ⟨hv, _⟩ | ⟨g, cap, cur, hv, _⟩
    · exact ⟨_, _, _, hv⟩
    · exact ⟨_, _, _, hv⟩
  have H2 := hid hb2
  have HO2 := hid hown'
  have HG := hid hgrow
  clear hb2 hown' hgrow
  go_wp2
  go_ret2
  refine ⟨rfl, .inr ?_, ?_⟩
  · exact Lib.BuilderAt.put (T := 76) (e := 5) hB H2.out (bs' := bs ++ Lib.strCells s) (by simpa [Lib.strCells_length] using HO2.out) (by decide)
  · exact (HB1.out.grown HG.out (by omega) (fun k hk => (HO.out.lt k hk).1)).setCell (p := ⟨b, 1, none⟩) hB _

theorem clone_any (s : ByteArray) (w : World) (hlim : s.size ≤ 281474976710656) :
    Calls Try.prog 46 #[.string s] w fun e w' => e = .returned (.string s) ∧ Below w.heap.size w w' := by
  have HC := hid (Try.stringslite_Clone s w hlim)
  go_enter Try.func46, Try.ntmps46
  go_wp2_with fail
  refine HC.out.mono ?_
  rintro e w1 ⟨rfl, b1⟩
  have HB := hid b1
  clear b1
  go_wp2
  go_ret
  exact ⟨rfl, HB.out⟩

end Go.Proofs.Ytkaphlpohhaacaa

/-
  What a run's end, live, part and told, and own and right of an item, answer is proved here.
-/
namespace Go.Proofs.Ytkaphlpohhaacaa
open Go.RowKit
set_option linter.unusedVariables false
set_option linter.unusedSimpArgs false
set_option maxRecDepth 100000

/-- Numbers and text of a run fit (it may have no character). -/
structure Fi (x : Un) : Prop where
  f : 0 ≤ x.f
  l : 0 ≤ x.l
  s : x.f + x.l ≤ 64
  t : (x.t.size : Int) = x.l

theorem end_any (x : Un) (w : World) (h : Fi x) :
    Calls Try.prog 33 #[unv x] w fun e w' => e = .returned (.int .i64 (x.f + x.l)) ∧ Below w.heap.size w w' := by
  have h0 := h.f
  have h1 := h.l
  have h2 := h.s
  clear h
  go_enter Try.func33, Try.ntmps33
  go_wp2_with (first | (refine wl_boxR rfl rfl rfl ?_; intro W1 b1 e1 hub hb1; have c2 : W1.cell? ⟨b1, 2, none⟩ = some (.int .i64 x.f) := hub.cells.c2; have c3 : W1.cell? ⟨b1, 3, none⟩ = some (.int .i64 x.l) := hub.cells.c3; have HB := hid hb1; clear e1 hub hb1) | fail)
  go_ret
  exact ⟨rfl, HB.out⟩

def liveB (x : Un) : Bool := !x.g && !x.m
theorem live_any (x : Un) (w : World) :
    Calls Try.prog 39 #[unv x] w fun e w' => e = .returned (.bool (liveB x)) ∧ Below w.heap.size w w' := by
  obtain ⟨g, hg⟩ : ∃ g, x.g = g := ⟨_, rfl⟩
  obtain ⟨m, hm⟩ : ∃ m, x.m = m := ⟨_, rfl⟩
  have hl : liveB x = (!g && !m) := by unfold liveB; rw [hg, hm]
  rw [hl]
  have HG := hid hg
  have HM := hid hm
  clear hg hm hl
  cases g
  all_goals cases m
  all_goals
    go_enter Try.func39, Try.ntmps39
    go_wp2_with (first | (refine wl_boxR rfl rfl rfl ?_; intro W1 b1 e1 hub hb1; have c10 : W1.cell? ⟨b1,10,none⟩ = some (.bool x.g) := hub.cells.c10; have c11 : W1.cell? ⟨b1,11,none⟩ = some (.bool x.m) := hub.cells.c11; rw [HG.out] at c10; rw [HM.out] at c11; have HB := hid hb1; clear e1 hub hb1) | fail)
    go_ret
    exact ⟨rfl, HB.out⟩

/-- Those with numbers from a on, below b. -/
def cutU (x : Un) (a b : Int) : Un := { x with f := a, l := b - a, t := x.t.extract (a - x.f).toNat (b - x.f).toNat }

set_option maxHeartbeats 2000000 in
theorem part_any (x : Un) (a b : Int) (w : World) (h : Fi x) (ha : x.f ≤ a) (hab : a ≤ b) (hb : b ≤ x.f + x.l) :
    Calls Try.prog 32 #[unv x, .int .i64 a, .int .i64 b] w fun e w' => e = .returned (unv (cutU x a b)) ∧ Below w.heap.size w w' := by
  have h0 := h.f
  have h1 := h.l
  have h2 := h.s
  have h3 : (0 : Int) ≤ a - x.f := by omega
  have h4 : a - x.f ≤ b - x.f := by omega
  have h5 : b - x.f ≤ (x.t.size : Int) := by have := h.t; omega
  have h6 : b - a ≤ 64 := by omega
  clear h
  go_enter Try.func32, Try.ntmps32
  go_wp2_with (first
    | (refine wl_boxR rfl rfl rfl ?_; intro W1 b1 e1 hub hb1; have c2 : W1.cell? ⟨b1,2,none⟩ = some (.int .i64 x.f) := hub.cells.c2; have c12 : W1.cell? ⟨b1,12,none⟩ = some (.string x.t) := hub.cells.c12; have HB := hid hb1; have HU := hid hub; have HG1 := hid (by omega : w.heap.size ≤ b1); clear e1 hub hb1)
    | (refine wl_alR rfl rfl ?_; intro W2 b2 e2 hub2 hb2; have d2 : W2.cell? ⟨b1,2,none⟩ = some (.int .i64 x.f) := (HU.out.below hb2).cells.c2; have d12 : W2.cell? ⟨b1,12,none⟩ = some (.string x.t) := (HU.out.below hb2).cells.c12; have HU2 := hid (HU.out.below hb2); have HV2 := hid hub2; have HB2 := hid (bt HB.out hb2); have HE2 := hid (by have := HU.out.lt; omega : b1 ≠ b2); have HG2 := hid (by have := HB.out.size; omega : w.heap.size ≤ b2); clear c2 c12 e2 hub2 hb2)
    | (refine wl_st_text rfl rfl rfl rfl HU2.out ?_; intro W3 hu3 hf3; have e2 : W3.cell? ⟨b1, 2, none⟩ = some (.int .i64 x.f) := hu3.cells.c2; have HU3 := hid hu3; have HF3 := hid hf3; clear d2 d12 hu3 hf3)
    | (refine wl_st_from rfl rfl rfl rfl HU3.out ?_; intro W4 hu4 hf4; have HU4 := hid hu4; have HF4 := hid (HF3.out.trans' hf4); clear hu4 hf4)
    | (refine wl_st_len rfl rfl rfl rfl HU4.out ?_; intro W5 hu5 hf5; have HU5 := hid hu5; have HF5 := hid (HF4.out.trans' hf5); clear hu5 hf5)
    | (refine wl_ldR rfl rfl rfl HU5.out.cells ?_; have HV5 := hid (HV2.out.fr HF5.out (fun e => HE2.out e.symm)))
    | (refine wl_stR rfl rfl rfl rfl HV5.out ?_; intro W6 hu6 hf6; have HU6 := hid hu6; have HF6 := hid hf6; clear hu6 hf6)
    | fail)
  refine bodyPost_ret (resR rfl _ _ rfl HU6.out) rfl ?_
  refine ⟨rfl, ?_⟩
  exact below_fr (below_fr HB2.out HF5.out HG1.out) HF6.out HG2.out

set_option maxHeartbeats 2000000 in
theorem told_any (x : Un) (w : World) (h : Fi x) :
    Calls Try.prog 38 #[unv x] w fun e w' => e = .returned (unv x) ∧ Below w.heap.size w w' := by
  have hl : x.t.size ≤ 281474976710656 := by have := h.t; have := h.s; have := h.f; omega
  have HC : Hid (∀ W, Calls Try.prog 46 #[.string x.t] W fun e w' => e = .returned (.string x.t) ∧ Below W.heap.size W w') := hid (fun W => clone_any x.t W hl)
  clear hl h
  go_enter Try.func38, Try.ntmps38
  go_wp2_with (first
    | (refine wl_boxR rfl rfl rfl ?_; intro W1 b1 e1 hub hb1; have HB := hid hb1; have HU := hid hub; have HG1 := hid (by omega : w.heap.size ≤ b1); clear e1 hub hb1)
    | (refine wl_alI rfl rfl ?_; intro W2 b2 e2 hub2 hb2; have d12 : W2.cell? ⟨b1,12,none⟩ = some (.string x.t) := (HU.out.below hb2).cells.c12; have HU2 := hid (HU.out.below hb2); have HV2 := hid hub2; have HB2 := hid (bt HB.out hb2); have HE2 := hid (by have := HU.out.lt; omega : b1 ≠ b2); have HG2 := hid (by have := HB.out.size; omega : w.heap.size ≤ b2); clear e2 hub2 hb2)
    | fail)
  refine (HC.out _).mono ?_
  rintro e W3 ⟨rfl, b3⟩
  have HU3 := hid (HU2.out.below b3)
  have HV3 := hid (HV2.out.below b3)
  have HB3 := hid (bt HB2.out b3)
  clear b3 d12
  go_wp2_with (first
    | (refine wl_st_text rfl rfl rfl rfl HU3.out ?_; intro W4 hu4 hf4; have HU4 := hid hu4; have HF4 := hid hf4; have HV4 := hid (HV3.out.fr hf4 (fun e => HE2.out e.symm)); clear hu4 hf4)
    | (refine wl_ldI rfl rfl rfl HU4.out.cells ?_)
    | (refine wl_stI rfl rfl rfl rfl HV4.out ?_; intro W6 hu6 hf6; have HU6 := hid hu6; have HF6 := hid hf6; clear hu6 hf6)
    | fail)
  refine bodyPost_ret (resI rfl _ _ rfl HU6.out) rfl ?_
  exact ⟨rfl, below_fr (below_fr HB3.out HF4.out HG1.out) HF6.out HG2.out⟩

/-- A right item as a run. -/
def ownU (x : Un) : Un := { x with a := 0, b := 0, c := 0, d := 0, e := 0, h := 0 }
set_option maxHeartbeats 2000000 in
theorem own_any (x : Un) (w : World) (h : x.t.size ≤ 64) :
    Calls Try.prog 31 #[unv x] w fun e w' => e = .returned (unv (ownU x)) ∧ Below w.heap.size w w' := by
  have HC : Hid (∀ W, Calls Try.prog 46 #[.string x.t] W fun e w' => e = .returned (.string x.t) ∧ Below W.heap.size W w') := hid (fun W => clone_any x.t W (by omega))
  clear h
  go_enter Try.func31, Try.ntmps31
  go_wp2_with (first
    | (refine wl_boxI rfl rfl rfl ?_; intro W1 b1 e1 hub hb1; have HB := hid hb1; have HU := hid hub; have HG1 := hid (by omega : w.heap.size ≤ b1); clear e1 hub hb1)
    | (refine wl_alR rfl rfl ?_; intro W2 b2 e2 hub2 hb2; have HU2 := hid (HU.out.below hb2); have HV2 := hid hub2; have HB2 := hid (bt HB.out hb2); have HE2 := hid (by have := HU.out.lt; omega : b1 ≠ b2); have HG2 := hid (by have := HB.out.size; omega : w.heap.size ≤ b2); clear e2 hub2 hb2)
    | (refine wl_st_left rfl rfl rfl rfl HU2.out ?_; intro W3 hu3 hf3; have HU3 := hid hu3; have HF3 := hid hf3; clear hu3 hf3)
    | (refine wl_st_right rfl rfl rfl rfl HU3.out ?_; intro W4 hu4 hf4; have e12 : W4.cell? ⟨b1, 12, none⟩ = some (.string x.t) := hu4.cells.c12; have HU4 := hid hu4; have HF4 := hid (HF3.out.trans' hf4); clear hu4 hf4)
    | fail)
  refine (HC.out _).mono ?_
  rintro e W5 ⟨rfl, b5⟩
  have HU5 := hid (HU4.out.below b5)
  have HV5 := hid ((HV2.out.fr HF4.out (fun e => HE2.out e.symm)).below b5)
  have HB5 := hid (bt (below_fr HB2.out HF4.out HG1.out) b5)
  clear b5 e12
  go_wp2_with (first
    | (refine wl_st_text rfl rfl rfl rfl HU5.out ?_; intro W6 hu6 hf6; have HU6 := hid hu6; have HF6 := hid hf6; have HV6 := hid (HV5.out.fr hf6 (fun e => HE2.out e.symm)); clear hu6 hf6)
    | (refine wl_ldI rfl rfl rfl HU6.out.cells ?_)
    | (refine wl_buildR rfl rfl rfl ?_)
    | (refine wl_stR rfl rfl rfl rfl HV6.out ?_; intro W7 hu7 hf7; have HU7 := hid hu7; have HF7 := hid hf7; clear hu7 hf7)
    | fail)
  refine bodyPost_ret (resR rfl _ _ rfl HU7.out) rfl ?_
  exact ⟨rfl, below_fr (below_fr HB5.out HF6.out HG1.out) HF7.out HG2.out⟩

end Go.Proofs.Ytkaphlpohhaacaa

/-
  Steps of drawn regions over runs: tests, sums, lengths.
-/
namespace Go.Proofs.Ytkaphlpohhaacaa
open Go.RowKit
set_option linter.unusedVariables false
set_option linter.unusedSimpArgs false
set_option maxRecDepth 100000

section
variable {o : Oper} {a : Act} {W : World} {x y : Operand}
theorem runU_max {i j : Int} (ho : o.op = .call { callee := .builtin .max, args := #[x, y], argTypes := #[3, 3] }) (hx : a.eval x = .int .i64 i) (hy : a.eval y = .int .i64 j) : (execOp a.eval o).run Try.prog W = .ok (.value (.int .i64 (max i j))) W := by
  unfold execOp
  simp only [ho, resolve, invoke, builtin, Sem.run_bind, Sem.run_pure, Result.andThen_ok, List.map_toArray, List.map_cons, List.map_nil, hx, hy]
  simp [go_sem]
theorem runU_min {i j : Int} (ho : o.op = .call { callee := .builtin .min, args := #[x, y], argTypes := #[3, 3] }) (hx : a.eval x = .int .i64 i) (hy : a.eval y = .int .i64 j) : (execOp a.eval o).run Try.prog W = .ok (.value (.int .i64 (min i j))) W := by
  unfold execOp
  simp only [ho, resolve, invoke, builtin, Sem.run_bind, Sem.run_pure, Result.andThen_ok, List.map_toArray, List.map_cons, List.map_nil, hx, hy]
  simp [go_sem]
theorem runU_len {A : Option Addr} {n c : Nat} (ho : o.op = .call { callee := .builtin .len, args := #[x], argTypes := #[55] }) (hx : a.eval x = .slice A n c) : (execOp a.eval o).run Try.prog W = .ok (.value (.int .i64 (n : Int))) W := by
  unfold execOp
  simp only [ho, resolve, invoke, builtin, Sem.run_bind, Sem.run_pure, Result.andThen_ok, List.map_toArray, List.map_cons, List.map_nil, hx]
  simp [go_sem]
theorem runU_add {i j : Int} (ho : o.op = .binOp .add 3 x y 3) (hx : a.eval x = .int .i64 i) (hy : a.eval y = .int .i64 j) (h0 : -9223372036854775808 ≤ i + j) (h1 : i + j ≤ 9223372036854775807) : (execOp a.eval o).run Try.prog W = .ok (.value (.int .i64 (i + j))) W := by
  unfold execOp
  simp only [ho, hx, hy]
  have e : IntKind.i64.wrap (i + j) = i + j := by rw [IntKind.wrap_i64]; omega
  simp [go_sem, e]
theorem runU_sub {i j : Int} (ho : o.op = .binOp .sub 3 x y 3) (hx : a.eval x = .int .i64 i) (hy : a.eval y = .int .i64 j) (h0 : -9223372036854775808 ≤ i - j) (h1 : i - j ≤ 9223372036854775807) : (execOp a.eval o).run Try.prog W = .ok (.value (.int .i64 (i - j))) W := by
  unfold execOp
  simp only [ho, hx, hy]
  have e : IntKind.i64.wrap (i - j) = i - j := by rw [IntKind.wrap_i64]; omega
  simp [go_sem, e]
theorem runU_lss {i j : Int} {b : Bool} (ho : o.op = .binOp .lss 3 x y 3) (hx : a.eval x = .int .i64 i) (hy : a.eval y = .int .i64 j) (hb : decide (i < j) = b) : (execOp a.eval o).run Try.prog W = .ok (.value (.bool b)) W := by
  unfold execOp
  simp only [ho, hx, hy]
  simp [go_sem, ← hb]
theorem runU_leq {i j : Int} {b : Bool} (ho : o.op = .binOp .leq 3 x y 3) (hx : a.eval x = .int .i64 i) (hy : a.eval y = .int .i64 j) (hb : decide (i ≤ j) = b) : (execOp a.eval o).run Try.prog W = .ok (.value (.bool b)) W := by
  unfold execOp
  simp only [ho, hx, hy]
  simp [go_sem, ← hb]
theorem runU_geq {i j : Int} {b : Bool} (ho : o.op = .binOp .geq 3 x y 3) (hx : a.eval x = .int .i64 i) (hy : a.eval y = .int .i64 j) (hb : decide (j ≤ i) = b) : (execOp a.eval o).run Try.prog W = .ok (.value (.bool b)) W := by
  unfold execOp
  simp only [ho, hx, hy]
  simp [go_sem, ← hb]
theorem runU_eq {i j : Int} {b : Bool} (ho : o.op = .binOp .eql 3 x y 3) (hx : a.eval x = .int .i64 i) (hy : a.eval y = .int .i64 j) (hb : decide (i = j) = b) : (execOp a.eval o).run Try.prog W = .ok (.value (.bool b)) W := by
  have e : (i == j) = b := by rw [← hb]; rfl
  unfold execOp
  simp only [ho, hx, hy]
  simp [go_sem, e]
theorem runU_ne {i j : Int} {b : Bool} (ho : o.op = .binOp .neq 3 x y 3) (hx : a.eval x = .int .i64 i) (hy : a.eval y = .int .i64 j) (hb : decide (¬ i = j) = b) : (execOp a.eval o).run Try.prog W = .ok (.value (.bool b)) W := by
  have e : (i != j) = b := by rw [← hb]; by_cases h : i = j <;> simp [h]
  unfold execOp
  simp only [ho, hx, hy]
  simp [go_sem, e]
theorem runU_eqb {i j : Bool} {b : Bool} (ho : o.op = .binOp .eql 4 x y 4) (hx : a.eval x = .bool i) (hy : a.eval y = .bool j) (hb : (i == j) = b) : (execOp a.eval o).run Try.prog W = .ok (.value (.bool b)) W := by
  unfold execOp
  simp only [ho, hx, hy]
  simp [go_sem, hb]
def sameI (r n s m : Int) : Bool := decide (r = s ∧ n = m)
theorem runU_eqid {r n s m : Int} {b : Bool} (ho : o.op = .binOp .eql 24 x y 24) (hx : a.eval x = idv r n) (hy : a.eval y = idv s m) (hb : sameI r n s m = b) : (execOp a.eval o).run Try.prog W = .ok (.value (.bool b)) W := by
  unfold execOp
  simp only [ho, hx, hy]
  rw [← hb]
  unfold sameI
  by_cases h1 : r = s
  · by_cases h2 : n = m <;> simp [go_sem, h1, h2]
  · simp [go_sem, h1]
end

/-- A character's name, a cut in a block. -/
abbrev cuv (r n f t : Int) : Value := .agg #[.int .i64 r, .int .i64 n, .int .i64 f, .int .i64 t]
def Hb (w : World) (b : Nat) (r n i : Int) : Prop := w.heap[b]? = some (.cells #[.int .i64 r, .int .i64 n, .int .i64 i] 26 (0, 0))
def Kb (w : World) (b : Nat) (r n f t : Int) : Prop := w.heap[b]? = some (.cells #[.int .i64 r, .int .i64 n, .int .i64 f, .int .i64 t] 38 (0, 0))
structure Hc (w : World) (b o : Nat) (r n i : Int) : Prop where
  c0 : w.cell? ⟨b, o, none⟩ = some (.int .i64 r)
  c1 : w.cell? ⟨b, o + 1, none⟩ = some (.int .i64 n)
  c2 : w.cell? ⟨b, o + 2, none⟩ = some (.int .i64 i)
structure Kc (w : World) (b o : Nat) (r n f t : Int) : Prop where
  c0 : w.cell? ⟨b, o, none⟩ = some (.int .i64 r)
  c1 : w.cell? ⟨b, o + 1, none⟩ = some (.int .i64 n)
  c2 : w.cell? ⟨b, o + 2, none⟩ = some (.int .i64 f)
  c3 : w.cell? ⟨b, o + 3, none⟩ = some (.int .i64 t)
theorem Hb.lt {w : World} {b : Nat} {r n i : Int} (h : Hb w b r n i) : b < w.heap.size := (Array.getElem?_eq_some_iff.1 h).1
theorem Kb.lt {w : World} {b : Nat} {r n f t : Int} (h : Kb w b r n f t) : b < w.heap.size := (Array.getElem?_eq_some_iff.1 h).1
theorem Hb.fr {S : Nat → Prop} {w w' : World} {b : Nat} {r n i : Int} (h : Hb w b r n i) (hf : Fr S w w') (hs : ¬ S b) : Hb w' b r n i := by unfold Hb; rw [hf.block b h.lt hs]; exact h
theorem Kb.fr {S : Nat → Prop} {w w' : World} {b : Nat} {r n f t : Int} (h : Kb w b r n f t) (hf : Fr S w w') (hs : ¬ S b) : Kb w' b r n f t := by unfold Kb; rw [hf.block b h.lt hs]; exact h
theorem Hb.below {w w' : World} {b : Nat} {r n i : Int} (h : Hb w b r n i) (hb : Below w.heap.size w w') : Hb w' b r n i := h.fr (S := fun _ => False) (Fr.of_below hb) (fun h => h)
theorem Kb.below {w w' : World} {b : Nat} {r n f t : Int} (h : Kb w b r n f t) (hb : Below w.heap.size w w') : Kb w' b r n f t := h.fr (S := fun _ => False) (Fr.of_below hb) (fun h => h)
theorem Hb.cells {w : World} {b : Nat} {r n i : Int} (h : Hb w b r n i) : Hc w b 0 r n i := ⟨cell_of_row w b 0 _ _ _ h, cell_of_row w b 1 _ _ _ h, cell_of_row w b 2 _ _ _ h⟩
theorem Kb.cells {w : World} {b : Nat} {r n f t : Int} (h : Kb w b r n f t) : Kc w b 0 r n f t := ⟨cell_of_row w b 0 _ _ _ h, cell_of_row w b 1 _ _ _ h, cell_of_row w b 2 _ _ _ h, cell_of_row w b 3 _ _ _ h⟩
/-- An id's block. -/
def Nb (w : World) (b : Nat) (r n : Int) : Prop := w.heap[b]? = some (ido 24 r n)
structure Nc (w : World) (b : Nat) (r n : Int) : Prop where
  c0 : w.cell? ⟨b, 0, none⟩ = some (.int .i64 r)
  c1 : w.cell? ⟨b, 1, none⟩ = some (.int .i64 n)
theorem Nb.lt {w : World} {b : Nat} {r n : Int} (h : Nb w b r n) : b < w.heap.size := (Array.getElem?_eq_some_iff.1 h).1
theorem Nb.below {w w' : World} {b : Nat} {r n : Int} (h : Nb w b r n) (hb : Below w.heap.size w w') : Nb w' b r n := by unfold Nb; rw [hb.block b h.lt]; exact h
theorem Nb.cells {w : World} {b : Nat} {r n : Int} (h : Nb w b r n) : Nc w b r n := ⟨cell_of_row w b 0 _ _ _ h, cell_of_row w b 1 _ _ _ h⟩

section
variable {o : Oper} {a : Act} {W : World} {x y : Operand} {ops : Array Oper} {rest : List Oper} {Q : Exit → Act → World → Prop}
theorem wl_boxN {r n : Int} (hgd : Region.wanted o (yielded ops a.tmps) = true) (ho : o.op = .box 24 x) (hx : a.eval x = idv r n) (hk : ∀ W' b,b = W.heap.size → Nb W' b r n → Below W.heap.size W W' → wpList Try.prog ops Q rest (a.put o.dst (.pointer (some ⟨b,0,none⟩))) W') : wpList Try.prog ops Q (o :: rest) a W := by
  have hr : (execOp a.eval o).run Try.prog W = .ok (.value (.pointer (some ⟨W.heap.size, 0, none⟩))) (W.alloc (ido 24 r n)) := by
    unfold execOp
    simp only [ho, hx]
    simp [go_sem]
  exact BigFrame.wpList_want hgd fun K hK => by unfold Oper.wp; rw [hr]; exact hK _ _ (hk _ _ rfl (heap_alloc_new W _) (ba W _))
theorem wl_boxH {r n i : Int} (hgd : Region.wanted o (yielded ops a.tmps) = true) (ho : o.op = .box 26 x) (hx : a.eval x = chu r n i) (hk : ∀ W' b,b = W.heap.size → Hb W' b r n i → Below W.heap.size W W' → wpList Try.prog ops Q rest (a.put o.dst (.pointer (some ⟨b,0,none⟩))) W') : wpList Try.prog ops Q (o :: rest) a W := by
  have hr : (execOp a.eval o).run Try.prog W = .ok (.value (.pointer (some ⟨W.heap.size, 0, none⟩))) (W.alloc (.cells #[.int .i64 r, .int .i64 n, .int .i64 i] 26)) := by
    unfold execOp
    simp only [ho, hx]
    simp [go_sem]
  exact BigFrame.wpList_want hgd fun K hK => by unfold Oper.wp; rw [hr]; exact hK _ _ (hk _ _ rfl (heap_alloc_new W _) (ba W _))
theorem wl_boxK {r n f t : Int} (hgd : Region.wanted o (yielded ops a.tmps) = true) (ho : o.op = .box 38 x) (hx : a.eval x = cuv r n f t) (hk : ∀ W' b,b = W.heap.size → Kb W' b r n f t → Below W.heap.size W W' → wpList Try.prog ops Q rest (a.put o.dst (.pointer (some ⟨b,0,none⟩))) W') : wpList Try.prog ops Q (o :: rest) a W := by
  have hr : (execOp a.eval o).run Try.prog W = .ok (.value (.pointer (some ⟨W.heap.size, 0, none⟩))) (W.alloc (.cells #[.int .i64 r, .int .i64 n, .int .i64 f, .int .i64 t] 38)) := by
    unfold execOp
    simp only [ho, hx]
    simp [go_sem]
  exact BigFrame.wpList_want hgd fun K hK => by unfold Oper.wp; rw [hr]; exact hK _ _ (hk _ _ rfl (heap_alloc_new W _) (ba W _))
end

end Go.Proofs.Ytkaphlpohhaacaa
