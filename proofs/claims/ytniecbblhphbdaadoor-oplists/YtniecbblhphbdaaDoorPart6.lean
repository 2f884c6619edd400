/-
  Parts of the proof, one behind the other; what each proves stands at its head.
-/
import Derived.Test.YtniecbblhphbdaaDoorPart4
import Derived.Test.YtniecbblhphbdaaDoorPart5
import Derived.BigFrame
import Derived.Deep.WholeRow
import Derived.Test.YtniecbblhphbdaaDoorPart3
import Derived.RangeFuncRecord
import Derived.BigQuiet
import Derived.Deep.CutRange

/-
  What Decode answers is proved here, for all bytes of which there are at most 2^40.
-/
namespace Go.Proofs.YtniecbblhphbdaaDoor
open Go.RowKit
set_option linter.unusedVariables false
set_option maxRecDepth 100000

/-- An op of which the kind alone is told. -/
abbrev zopc (k : Int) : Array Value := #[.int .i64 k, .int .i64 0, .int .i64 0, .int .i64 0, .int .i64 0, .int .i64 0, .int .i64 0, .int .i64 0, .string ⟨#[]⟩, .int .i64 0, .int .i64 0, .int .i64 0, .int .i64 0, .int .i64 0, .int .i64 0, .int .i64 0, .int .i64 0, .string ⟨#[]⟩, .slice none 0 0, .bool false]
abbrev zop (k : Int) : Obj := .cells (zopc k) 30

/-- A load of a whole op where a guard stands ahead of it. -/
theorem wpList_load_opg {ops : Array Oper} {rest : List Oper} {p : Oper} {a : Act} {w : World} {Q : Exit → Act → World → Prop} (hgd : Region.wanted p (yielded ops a.tmps) = true) (x : Operand) (ho : p.op = .load 30 x)
    (b : Nat) (hx : a.eval x = .pointer (some ⟨b, 0, none⟩)) (o : Opn) (v : Value) (h : Ob w b o v)
    (hk : wpList Tryd.prog ops Q rest (a.put p.dst (opv o v)) w) : wpList Tryd.prog ops Q (p :: rest) a w :=
  BigFrame.wpList_want hgd fun _ hK => wp_load_row 30 x ho b hx 30 (opl o v) (0, 0) _ h Tryd.underlying30 rfl (by kernel_rfl) (hK _ _ hk)
/-- A store of a whole op. -/
theorem wpList_store_op {ops : Array Oper} {rest : List Oper} {p : Oper} {a : Act} {w : World} {Q : Exit → Act → World → Prop} (hgd : p.guard = none) (x y : Operand) (ho : p.op = .store 30 x y)
    (b : Nat) (hx : a.eval x = .pointer (some ⟨b, 0, none⟩)) (o : Opn) (v : Value) (hv : ∃ va n vc, v = .slice va n vc) (hy : a.eval y = opv o v) (o' : Opn) (v' : Value) (h : Ob w b o' v')
    (hk : wpList Tryd.prog ops Q rest (a.put p.dst undef) (w.setRow b (opl o v))) : wpList Tryd.prog ops Q (p :: rest) a w :=
  wpList_store_row hgd 30 x y ho b (opl o v) hx hy 30 (opl o' v') h (by kernel_rfl) rfl (by obtain ⟨va, n, vc, rfl⟩ := hv; simp [Value.oneCell']) hk
/-- An op of which the kind alone is told, built. -/
theorem built_kind (n : Int) : Tryd.prog.built 30 [(0, .int .i64 n)] = some #[.int .i64 n, .int .i64 0, .int .i64 0, .int .i64 0, .int .i64 0, .int .i64 0, .int .i64 0, .int .i64 0, .string ⟨#[]⟩, .int .i64 0, .int .i64 0, .int .i64 0, .int .i64 0, .int .i64 0, .int .i64 0, .int .i64 0, .int .i64 0, .string ⟨#[]⟩, .slice none 0 0, .bool false] := by kernel_rfl
theorem wpList_build_kind {ops : Array Oper} {rest : List Oper} {p : Oper} {a : Act} {w : World} {Q : Exit → Act → World → Prop} (hgd : p.guard = none) (x : Operand) (ho : p.op = .build 30 #[(0, x)]) (n : Int) (hx : a.eval x = .int .i64 n)
    (hk : wpList Tryd.prog ops Q rest (a.put p.dst (.agg #[.int .i64 n, .int .i64 0, .int .i64 0, .int .i64 0, .int .i64 0, .int .i64 0, .int .i64 0, .int .i64 0, .string ⟨#[]⟩, .int .i64 0, .int .i64 0, .int .i64 0, .int .i64 0, .int .i64 0, .int .i64 0, .int .i64 0, .int .i64 0, .string ⟨#[]⟩, .slice none 0 0, .bool false])) w) : wpList Tryd.prog ops Q (p :: rest) a w := by
  have e : (Array.map (fun (i, x) => (i, a.eval x)) #[(0, x)]).toList = [(0, Value.int .i64 n)] := by simp [hx]
  refine wpList_build hgd 30 #[(0, x)] ho ?_ ?_
  · rw [e, built_kind]; rfl
  · rw [e, built_kind]; exact hk
theorem built_zero : Tryd.prog.built 30 [] = some (zopc 0) := by kernel_rfl
theorem wpList_build_zero {ops : Array Oper} {rest : List Oper} {p : Oper} {a : Act} {w : World} {Q : Exit → Act → World → Prop} (hgd : p.guard = none) (ho : p.op = .build 30 #[])
    (hk : wpList Tryd.prog ops Q rest (a.put p.dst (.agg (zopc 0))) w) : wpList Tryd.prog ops Q (p :: rest) a w := by
  have e : (Array.map (fun ((i, x) : Nat × Operand) => (i, a.eval x)) #[]).toList = [] := by simp
  refine wpList_build hgd 30 #[] ho ?_ ?_
  · rw [e, built_zero]; rfl
  · rw [e, built_zero]; exact hk
theorem Fr.up {S : Nat → Prop} {N : Nat} {a w w' : World} (h : Fr (fun k => N ≤ k) a w) (k : Fr S w w') (hs : ∀ j, S j → N ≤ j) : Fr (fun k => N ≤ k) a w' := h.trans k (fun _ _ hj => hs _ hj)
/-- A store of a whole op into the block that was made last. -/
theorem wpList_store_opn {ops : Array Oper} {rest : List Oper} {p : Oper} {a : Act} {W : World} {Q : Exit → Act → World → Prop} (hgd : p.guard = none) (x y : Operand) (ho : p.op = .store 30 x y)
    (z cells : Array Value) (hx : a.eval x = .pointer (some ⟨W.heap.size, 0, none⟩)) (hy : a.eval y = .agg cells) (hz : z.size = cells.size) (hi : cells.size = 20) (h1 : cells.all (·.oneCell') = true)
    (hk : wpList Tryd.prog ops Q rest (a.put p.dst undef) (W.alloc (.cells cells 30))) : wpList Tryd.prog ops Q (p :: rest) a (W.alloc (.cells z 30)) := by
  have hi' : (Tryd.prog.info? 30).map (·.size) = some cells.size := by rw [hi]; kernel_rfl
  refine wpList_store_row hgd 30 x y ho W.heap.size cells hx hy 30 z (heap_alloc_new W _) hi' hz h1 ?_
  rw [World.setRow_alloc_new]
  exact hk
theorem wpList_store_zop {ops : Array Oper} {rest : List Oper} {p : Oper} {a : Act} {W : World} {Q : Exit → Act → World → Prop} (hgd : p.guard = none) (x y : Operand) (ho : p.op = .store 30 x y) (k0 n : Int)
    (hx : a.eval x = .pointer (some ⟨W.heap.size, 0, none⟩)) (hy : a.eval y = .agg (zopc n))
    (hk : wpList Tryd.prog ops Q rest (a.put p.dst undef) (W.alloc (.cells (zopc n) 30))) : wpList Tryd.prog ops Q (p :: rest) a (W.alloc (.cells (zopc k0) 30)) :=
  wpList_store_opn hgd x y ho (zopc k0) (zopc n) hx hy rfl rfl (by simp [Value.oneCell']) hk
theorem size_set (w : World) (a : Addr) (v : Value) : (w.setCell a v).heap.size = w.heap.size := by simp [World.setCell]
theorem Fr.of_row (w : World) (b : Nat) (cs : Array Value) : Fr (fun k => k = b) w (w.setRow b cs) :=
  ⟨rfl, rfl, rfl, by simp [World.setRow], fun k _ hn => setRow_other w b k cs hn⟩

/-- Texts that are read are no longer than the bytes. -/
theorem rn_short (m : Int) (s : St) : (rn m s).2.1.length ≤ s.1.length := by
  unfold rn M.numS
  dsimp only
  split
  · rw [List.length_drop]; omega
  · simp
theorem rt_short (m : Int) (s : St) (h : K.Byt s.1) : (rt m s).1.size ≤ s.1.length ∧ (rt m s).2.1.length ≤ s.1.length := by
  have h1 := rn_short m s
  have hb : K.Byt (rn m s).2.1 := by
    unfold rn M.numS
    dsimp only
    split
    · exact fun x hx => h x (List.mem_of_mem_drop hx)
    · exact fun x hx => by cases hx
  rw [rt_text.1, rt_text.2, size_str (takeV_byt hb)]
  constructor
  · unfold M.takeV
    split
    · rw [List.length_take]; omega
    · simp
  · unfold M.takeS
    split
    · rw [List.length_drop]; omega
    · simp
theorem rcuts_short (B : Bnd) (j : Nat) (s : St) : (rcuts B j s).2.1.length ≤ s.1.length := by
  induction j with
  | zero => exact Nat.le_refl _
  | succ j ih =>
    unfold rcuts rcut
    dsimp only
    exact Nat.le_trans (rn_short _ _) (Nat.le_trans (rn_short _ _) (Nat.le_trans (rn_short _ _) (Nat.le_trans (rn_short _ _) ih)))
def Shrt (N : Nat) (p : Opn × St) : Prop := p.1.key.size ≤ N ∧ p.1.text.size ≤ N ∧ p.2.1.length ≤ N
theorem rdF_short (B : Bnd) (f : Nat) (hf : f ≤ 8) (p : Opn × St) (N : Nat) (hv : Vl p.2) (h : Shrt N p) : Shrt N (rdF B f p) := by
  obtain ⟨o, s⟩ := p
  obtain ⟨h1, h2, h3⟩ := h
  have k1 := rn_short B.n (rn B.r s).2
  have k2 := rn_short B.r s
  have k3 := rn_short B.i (rn B.n (rn B.r s).2).2
  dsimp only at h1 h2 h3 hv
  rcases nine hf with rfl | rfl | rfl | rfl | rfl | rfl | rfl | rfl | rfl
  · exact ⟨h1, h2, Nat.le_trans k1 (Nat.le_trans k2 h3)⟩
  · exact ⟨h1, h2, Nat.le_trans k1 (Nat.le_trans k2 h3)⟩
  · have := rt_short B.key s hv.1
    exact ⟨Nat.le_trans this.1 h3, h2, Nat.le_trans this.2 h3⟩
  · exact ⟨h1, h2, Nat.le_trans k1 (Nat.le_trans k2 h3)⟩
  · exact ⟨h1, h2, Nat.le_trans k3 (Nat.le_trans k1 (Nat.le_trans k2 h3))⟩
  · exact ⟨h1, h2, Nat.le_trans k3 (Nat.le_trans k1 (Nat.le_trans k2 h3))⟩
  · have := rt_short B.text s hv.1
    exact ⟨h1, Nat.le_trans this.1 h3, Nat.le_trans this.2 h3⟩
  · exact ⟨h1, h2, Nat.le_trans (rcuts_short B _ _) (Nat.le_trans (rn_short 16 s) h3)⟩
  · exact ⟨h1, h2, Nat.le_trans (rn_short 1 s) h3⟩
theorem rdH_short (B : Bnd) (b : List Int) : Shrt b.length (rdH B b) :=
  ⟨Nat.zero_le _, Nat.zero_le _, Nat.le_trans (rn_short _ _) (Nat.le_trans (rn_short _ _) (Nat.le_trans (rn_short _ _) (rn_short _ _)))⟩
theorem rdH_vl (B : Bnd) {b : List Int} (hb : K.Byt b) : Vl (rdH B b).2 := rn_vl (rn_vl (rn_vl (rn_vl (s := (b, false)) ⟨hb, fun h => by cases h⟩)))
/-- The fields that are read so far. -/
def rdK (B : Bnd) (b : List Int) (k : Nat) : Opn × St := ((told (rdH B b).1.k).take k).foldl (fun p f => rdF B f p) (rdH B b)
theorem rdK_zero (B : Bnd) (b : List Int) : rdK B b 0 = rdH B b := rfl
theorem rdK_step (B : Bnd) (b : List Int) (k : Nat) (hk : k < (told (rdH B b).1.k).length) : rdK B b (k + 1) = rdF B ((told (rdH B b).1.k)[k]) (rdK B b k) := by
  unfold rdK
  rw [List.take_succ_eq_append_getElem hk, List.foldl_append]
  rfl
theorem rdK_all (B : Bnd) (b : List Int) (k : Nat) (hk : (told (rdH B b).1.k).length ≤ k) : rdK B b k = rdO B b := by
  unfold rdK rdO
  rw [List.take_of_length_le hk]
theorem rdK_ok (B : Bnd) {b : List Int} (hb : K.Byt b) (k : Nat) : Vl (rdK B b k).2 ∧ Shrt b.length (rdK B b k) := by
  induction k with
  | zero => exact ⟨rdH_vl B hb, rdH_short B b⟩
  | succ k ih =>
    by_cases hk : k < (told (rdH B b).1.k).length
    · rw [rdK_step B b k hk]
      have h8 := told_le _ _ (List.getElem_mem hk)
      exact ⟨rdF_vl B _ h8 _ ih.1, rdF_short B _ h8 _ _ ih.1 ih.2⟩
    · rw [rdK_all B b (k + 1) (by omega), ← rdK_all B b k (by omega)]
      exact ih

/-- Results: an op in a block, and a slot. -/
theorem results_op2 {fn : Func} {p u : Tmp} (h : fn.results = #[.cell p 30, .tmp u]) (tmps : Array Value) (w : World) {b : Nat} {o : Opn} {v : Value} (hp : tmps.getD p undef = .pointer (some ⟨b, 0, none⟩)) (hs : Ob w b o v) :
    (results fn tmps).run Tryd.prog w = .ok (.tuple #[opv o v, tmps.getD u undef]) w := by
  have hl := hs.load
  have hp' : tmps[p]?.getD undef = .pointer (some ⟨b, 0, none⟩) := by simpa using hp
  simp [results, h, hp', asAddr, hl]


theorem Ob.zop (w : World) (k : Int) : Ob (w.alloc (zop k)) w.heap.size { Opn.zero with k := k } (.slice none 0 0) := heap_alloc_new w _

set_option maxHeartbeats 8000000 in
theorem decode_any (vb : Value) (xs : List Int) (w : World) (hL : Lay w) (h : Bs w vb xs) (hn : xs.length ≤ 1099511627776) :
    Calls Tryd.prog 9 #[vb] w fun e w' => ∃ v, e = .returned (.tuple #[opv (decO Bnd.own xs).1 v, .bool (decO Bnd.own xs).2]) ∧ Cs w' v (decO Bnd.own xs).1.cuts ∧ Below w.heap.size w w' ∧ ∀ k, v.ownBlock = some k → w.heap.size ≤ k := by
  have hby := h.range
  have HBY := hid hby
  have HA := hid (ba w (opo Opn.zero (.slice none 0 0)))
  have HB := hid (h.below HA.out)
  have HL := hid hL
  have R0 := hid (Ob.new w Opn.zero (.slice none 0 0))
  obtain ⟨dec, hdec⟩ : ∃ d, decO Bnd.own xs = d := ⟨_, rfl⟩
  rw [hdec]
  have HD := hid hdec
  have N0 := hid (fun W c => num_s c (xs, false) 6 W)
  have hH : rdH Bnd.own xs = ({ Opn.zero with k := (rn 6 (xs, false)).1, ir := (rn 15 (rn 6 (xs, false)).2).1, im := (rn 1048576 (rn 15 (rn 6 (xs, false)).2).2).1, t := (rn 1099511627776 (rn 1048576 (rn 15 (rn 6 (xs, false)).2).2).2).1 }, (rn 1099511627776 (rn 1048576 (rn 15 (rn 6 (xs, false)).2).2).2).2) := rfl
  obtain ⟨p0, hp0⟩ : ∃ p, rn 6 (xs, false) = p := ⟨_, rfl⟩
  rw [hp0] at N0 hH
  have N1 := hid (fun W c => name_r c p0.2 W)
  obtain ⟨p1, hp1⟩ : ∃ p, rn 15 p0.2 = p := ⟨_, rfl⟩
  rw [hp1] at N1 hH
  obtain ⟨p2, hp2⟩ : ∃ p, rn 1048576 p1.2 = p := ⟨_, rfl⟩
  rw [hp2] at N1 hH
  have N2 := hid (fun W c => num_s c p2.2 1099511627776 W)
  obtain ⟨p3, hp3⟩ : ∃ p, rn 1099511627776 p2.2 = p := ⟨_, rfl⟩
  rw [hp3] at N2 hH
  have HH := hid hH
  obtain ⟨a, cc, rfl⟩ := h.form
  clear h hL hby hdec hp0 hp1 hp2 hp3 hH
  go_enter Tryd.func9, Tryd.ntmps9
  go_wp2_with fail
  refine (at_any _ xs _ HB.out (by omega)).mono ?_
  rintro e w1 ⟨c, rfl, hcn, hc1, hb1⟩
  have hsz0 : (w.alloc (opo Opn.zero (.slice none 0 0))).heap.size = w.heap.size + 1 := by simp
  rw [hsz0] at hcn
  have hcl := hc1.lt
  have HA2 := hid (ba w1 (rdo c))
  have HC2 := hid (hc1.below HA2.out)
  have HB2 := hid (bt hb1 HA2.out)
  have R2 := hid (R0.out.below HB2.out)
  have K2 := hid (heap_alloc_new w1 (rdo c))
  have HBb := hid ((HA.out.trans (hb1.mono HA.out.size)).trans (HA2.out.mono (by omega)) : Below w.heap.size w _)
  have d1 := cell_of_row _ _ 0 _ _ _ K2.out
  simp at d1
  clear hc1 hb1
  go_wp2_with fail
  refine (N0.out _ c HC2.out).mono ?_
  rintro e w3 ⟨rfl, hc3, hg3⟩
  have HG3 := hid hg3
  have HC3 := hid hc3
  have R3 := hid (grown_row hg3 R2.out (by omega))
  have K3 := hid (grown_row hg3 K2.out (by omega))
  have hs3 := hg3.size
  rw [show (w1.alloc (rdo c)).heap.size = w1.heap.size + 1 by simp] at hs3
  clear hc3 hg3 d1
  have HA4 := hid (ba w3 (zop p0.1))
  have HC4 := hid (HC3.out.below HA4.out)
  have R4 := hid ((Fr.of_below HA4.out : Fr (fun k => k = c) _ _).rows R3.out (by omega))
  have K4 := hid ((Fr.of_below HA4.out : Fr (fun k => k = c) _ _).rows K3.out (by omega))
  have O4 := hid (Ob.zop w3 p0.1)
  have d2 := cell_of_row _ _ 0 _ _ _ K4.out
  simp at d2
  go_wp2_with (first | (refine wpList_build_kind rfl _ rfl _ rfl ?_) | (refine wpList_store_zop rfl _ _ rfl 0 p0.1 rfl rfl ?_))
  refine (N1.out _ c HC4.out).mono ?_
  rintro e w5 ⟨rfl, hc5, hf5⟩
  have HF5 := hid hf5
  have HC5 := hid hc5
  have R5 := hid (hf5.rows R4.out (by omega))
  have K5 := hid (hf5.rows K4.out (by omega))
  have O5 := hid (hf5.rows O4.out (by omega))
  have hs5 := hf5.size
  rw [show (w3.alloc (zop p0.1)).heap.size = w3.heap.size + 1 by simp] at hs5
  have e1 : w5.cell? ⟨w3.heap.size, 1, none⟩ = some (.int .i64 0) := Ob.cell (w := w5) O5.out 1
  have e2 : w5.cell? ⟨w3.heap.size, 2, none⟩ = some (.int .i64 0) := Ob.cell (w := w5) O5.out 2
  have f1 := Ob.frozen (w := w5) O5.out 1
  have f2 := Ob.frozen (w := w5) O5.out 2
  have d3 := cell_of_row _ w1.heap.size 0 _ _ _ K5.out
  simp at d3
  clear hc5 hf5 d2
  have K6a := hid (set_row (i := 1) O5.out (.int .i64 p1.1))
  have O6 := hid (set_row (i := 2) K6a.out (.int .i64 p2.1))
  have HC6 := hid (Cur.set_row (i := 2) (Cur.set_row (i := 1) HC5.out O5.out (by omega) ⟨_, rfl, fun x => by simp⟩ (.int .i64 p1.1)) K6a.out (by omega) ⟨_, rfl, fun x => by simp⟩ (.int .i64 p2.1))
  have F6 := hid ((Fr.of_set w5 w3.heap.size 1 (.int .i64 p1.1)).set 2 (.int .i64 p2.1) (.inr rfl))
  have R6 := hid (F6.out.rows R5.out (by omega))
  have K6 := hid (F6.out.rows K5.out (by omega))
  go_wp2_with fail
  refine (N2.out _ c HC6.out).mono ?_
  rintro e w7 ⟨rfl, hc7, hg7⟩
  have HC7 := hid hc7
  have O7 := hid (grown_row hg7 O6.out (by omega))
  have R7 := hid (grown_row hg7 R6.out (by omega))
  have K7 := hid (grown_row hg7 K6.out (by omega))
  have HG7 := hid hg7
  have e3 : w7.cell? ⟨w3.heap.size, 3, none⟩ = some (.int .i64 0) := cell_of_row w7 _ 3 _ _ _ O7.out
  have f3 := frozen_of_row w7 w3.heap.size 3 _ _ O7.out
  have e0 : w7.cell? ⟨w3.heap.size, 0, none⟩ = some (.int .i64 p0.1) := cell_of_row w7 _ 0 _ _ _ O7.out
  have hs7 := hg7.size
  simp only [size_set] at hs7
  clear hc7 hg7 d3 e1 e2 f1 f2
  have O8 : Hid (Ob (w7.setCell ⟨w3.heap.size, 3, none⟩ (.int .i64 p3.1)) w3.heap.size (rdH Bnd.own xs).1 (.slice none 0 0)) := hid (by rw [HH.out]; exact set_row (i := 3) O7.out (.int .i64 p3.1))
  have HC8 : Hid (Cu (w7.setCell ⟨w3.heap.size, 3, none⟩ (.int .i64 p3.1)) c (rdH Bnd.own xs).2) := hid (by rw [HH.out]; exact Cur.set_row HC7.out O7.out (by omega) ⟨_, rfl, fun x => by simp⟩ (.int .i64 p3.1))
  have F8 := hid (Fr.of_set w7 w3.heap.size 3 (.int .i64 p3.1))
  have R8 := hid (F8.out.rows R7.out (by omega))
  have K8 := hid (F8.out.rows K7.out (by omega))
  have hkk : (rdH Bnd.own xs).1.k = p0.1 := by rw [HH.out]
  have G8 : Fr (fun k => w.heap.size ≤ k) w (w7.setCell ⟨w3.heap.size, 3, none⟩ (.int .i64 p3.1)) := by
    have g1 : Fr (fun k => w.heap.size ≤ k) w (w1.alloc (rdo c)) := Fr.of_below HBb.out
    have g2 := (g1.up (Fr.grown HG3.out) (by omega)).up (Fr.of_below HA4.out : Fr (fun k => k = c) _ _) (by omega)
    have g3 := (g2.up HF5.out (by omega)).up F6.out (by omega)
    exact (g3.up (Fr.grown HG7.out) (by omega)).up F8.out (by omega)
  have HG8 := hid G8
  clear G8
  go_wp2_with fail
  refine (told_any p0.1 _).mono ?_
  rintro e w9 ⟨vt, rfl, hFs, hbt, hfr⟩
  have hs9 := hbt.size
  simp only [size_set] at hs9 hfr
  have O9 := hid (O8.out.below hbt)
  have HC9 := hid (HC8.out.below hbt)
  have R9 := hid ((Fr.of_below hbt : Fr (fun k => k = c) _ _).rows R8.out (by omega))
  have K9 := hid ((Fr.of_below hbt : Fr (fun k => k = c) _ _).rows K8.out (by omega))
  have HG9 := hid (HG8.out.up (Fr.of_below hbt : Fr (fun k => k = c) _ _) (by omega))
  obtain ⟨ta, tc, hvt, htc, htm⟩ := Sl.form hFs
  obtain ⟨n, hn⟩ : ∃ n, (told p0.1).length = n := ⟨_, rfl⟩
  have HN := hid hn
  rw [hn] at hvt htc
  subst hvt
  have HFs := hid hFs
  have HFR := hid hfr
  unfold maxLen at htm
  clear hFs hbt hfr hn O8 HC8 R8 K8 O7 R7 K7 HC7 O6 R6 K6 K6a HC6 O5 R5 K5 HC5 O4 R4 K4 HC4 R3 K3 HC3 R2 K2 HC2 e0 e3 f3 N0 N1 N2 HG8 F8 HG7 F6 HF5 HG3 HB R0
  go_wp2
  go_loopw [26] (fun i wr => ∃ k : Nat, k ≤ n ∧ i = .int .i64 k ∧ Oi w.heap.size c wr w3.heap.size (rdK Bnd.own xs k).1 ∧ Cu wr c (rdK Bnd.own xs k).2 ∧ Fr (fun j => j = w3.heap.size ∨ j = c) w9 wr) (fun i _ => n - (intOf i).toNat)
  case atStart => exact ⟨0, Nat.zero_le _, rfl, ⟨.slice none 0 0, by rw [rdK_zero]; exact O9.out, Cs.nil _, fun h => absurd h (Nat.not_lt_zero _), fun k hk => by cases hk⟩, by rw [rdK_zero]; exact HC9.out, Fr.refl _ _⟩
  case round =>
    obtain ⟨k, hk, rfl, hok, hck, hfk⟩ := hrel
    have HOK := hid hok
    have HCK := hid hck
    have HFK := hid hfk
    have K10 := hid (hfk.rows K9.out (by omega))
    have R10 := hid (hfk.rows R9.out (by omega))
    have HG10 := hid (HG9.out.up hfk (by omega))
    have d4 := cell_of_row wr w1.heap.size 0 _ _ _ K10.out
    simp at d4
    clear hok hck hfk
    by_cases hlt : k < n
    · have hkl : k < (told p0.1).length := by rw [HN.out]; exact hlt
      have hkl' : k < (told (rdH Bnd.own xs).1.k).length := by rw [hkk]; exact hkl
      have hF : Fs wr (.slice ta n tc) (told p0.1) := Sl.kept HFs.out (fun j hj hjl => HFK.out.block j hjl (by have := HFR.out j hj; omega))
      obtain ⟨tb, toff, tc', hv', _, _, _, hcell⟩ := hF.inv (by omega)
      simp only [Value.slice.injEq] at hv'
      obtain ⟨rfl, -, rfl⟩ := hv'
      have g1 := hcell k hkl
      obtain ⟨f, hf⟩ : ∃ f, (told p0.1)[k] = f := ⟨_, rfl⟩
      rw [hf] at g1
      have hf8 : f ≤ 8 := by rw [← hf]; exact told_le _ _ (List.getElem_mem hkl)
      have hst : rdK Bnd.own xs (k + 1) = rdF Bnd.own f (rdK Bnd.own xs k) := by
        rw [rdK_step Bnd.own xs k hkl']
        simp only [hkk, hf]
      have HST := hid hst
      have HI := hid (field_r f hf8 w.heap.size c w3.heap.size (rdK Bnd.own xs k).1 (rdK Bnd.own xs k).2 wr (by have := HFK.out.size; omega) HOK.out HCK.out (by omega) (rdK_ok Bnd.own HBY.out k).1.1)
      have b1' : (k : Int) < (n : Int) := by omega
      clear hcell hF hf hst
      go_wp2_with fail
      refine HI.out.mono ?_
      rintro e w11 ⟨rfl, ho11, hc11, hf11⟩
      have HO11 := hid ho11
      have HC11 := hid hc11
      have HF11 := hid (HFK.out.trans hf11 (fun _ _ h => h))
      clear ho11 hc11 hf11 HI g1 d4
      go_wp2
      go_roundw
      case rel =>
        refine ⟨k + 1, by omega, by go_num, ?_, ?_, HF11.out⟩
        · rw [HST.out]; exact HO11.out
        · rw [HST.out]; exact HC11.out
      case measure => simp [intOf]; omega
    · have e1 : k = n := by omega
      have hall : rdK Bnd.own xs k = rdO Bnd.own xs := rdK_all Bnd.own xs k (by rw [hkk, HN.out]; omega)
      have hsh := (rdK_ok Bnd.own HBY.out k).2
      obtain ⟨r, hr⟩ : ∃ r, rdK Bnd.own xs k = r := ⟨_, rfl⟩
      rw [hr] at HOK HCK hall hsh
      have HR := hid hall
      have hfin : r.1.fine := ⟨by have := hsh.1; omega, by have := hsh.2.1; omega⟩
      have HFI := hid hfin
      obtain ⟨v, hob, hcs, hvb, hvB⟩ := HOK.out
      have HVB := hid hvB
      clear hvB
      have HOB := hid hob
      have HCS := hid hcs
      have hbel : Below w.heap.size w wr := HG10.out.below (fun j hj hs => by omega) (Nat.le_refl _)
      have HBE := hid hbel
      have hvf : ∃ va n vc, v = .slice va n vc := by
        obtain ⟨va, vc, e, _⟩ := hcs.form
        exact ⟨va, _, vc, e⟩
      have HVF := hid hvf
      clear hr hall hsh hfin hob hcs hvb hbel HOK hvf
      go_wp2_with fail
      refine (end_any c _ _ _ HCK.out).mono ?_
      rintro e w12 ⟨rfl, rfl⟩
      cases hE : (!r.2.2 && r.2.1.isEmpty)
      · have HE := hid hE
        clear hE
        go_wp2_with (first | (refine wpList_build_zero rfl rfl ?_) | (refine wpList_store_op rfl _ _ rfl _ rfl Opn.zero (.slice none 0 0) ⟨_, _, _, rfl⟩ rfl _ _ R10.out ?_))
        refine bodyPost_ret (results_op2 rfl _ _ rfl (b := w.heap.size) (o := Opn.zero) (v := .slice none 0 0) (setRow_heap _ _ _ _ _ _ R10.out)) rfl ?_
        have hd : dec = (Opn.zero, false) := by
          rw [← HD.out]
          unfold decO decB
          rw [← HR.out, HE.out]
          rfl
        rw [hd]
        exact ⟨_, rfl, Cs.nil _, HBE.out.trans ((Fr.of_row wr w.heap.size _).below (fun k hk e => by omega) HBE.out.size), fun k hk => by cases hk⟩
      · have HE := hid hE
        clear hE
        have HRI := hid (right_any r.1 v wr (HL.out.below HBE.out) HCS.out HFI.out)
        go_wp2_with (refine wpList_load_opg ?_ _ rfl _ rfl _ _ HOB.out ?_; (· kernel_rfl))
        refine HRI.out.mono ?_
        rintro e w13 ⟨rfl, hb13⟩
        have HB13 := hid hb13
        have HOB13 := hid (HOB.out.below hb13)
        have R13 := hid ((Fr.of_below hb13 : Fr (fun k => k = c) _ _).rows R10.out (by omega))
        have HCS13 := hid (HCS.out.below hb13)
        clear hb13
        cases hri : rightO r.1
        · have HRR := hid hri
          clear hri
          go_wp2_with (first | (refine wpList_build_zero rfl rfl ?_) | (refine wpList_store_op rfl _ _ rfl _ rfl Opn.zero (.slice none 0 0) ⟨_, _, _, rfl⟩ rfl _ _ R13.out ?_))
          refine bodyPost_ret (results_op2 rfl _ _ rfl (b := w.heap.size) (o := Opn.zero) (v := .slice none 0 0) (setRow_heap _ _ _ _ _ _ R13.out)) rfl ?_
          have hd : dec = (Opn.zero, false) := by
            rw [← HD.out]
            unfold decO decB
            rw [← HR.out, HE.out, HRR.out]
            rfl
          rw [hd]
          have hbl := bt HBE.out HB13.out
          exact ⟨_, rfl, Cs.nil _, hbl.trans ((Fr.of_row w13 w.heap.size _).below (fun k hk e => by omega) hbl.size), fun k hk => by cases hk⟩
        · have HRR := hid hri
          clear hri
          go_wp2_with (first | (refine wpList_load_op rfl _ rfl _ rfl _ _ HOB13.out ?_) | (refine wpList_store_op rfl _ _ rfl _ rfl r.1 v HVF.out rfl _ _ R13.out ?_))
          refine bodyPost_ret (results_op2 rfl _ _ rfl (b := w.heap.size) (o := r.1) (v := v) (setRow_heap _ _ _ _ _ _ R13.out)) rfl ?_
          have hd : dec = (r.1, true) := by
            rw [← HD.out]
            unfold decO decB
            rw [← HR.out, HE.out, HRR.out]
            rfl
          rw [hd]
          have hbl := bt HBE.out HB13.out
          refine ⟨_, rfl, ?_, hbl.trans ((Fr.of_row w13 w.heap.size _).below (fun k hk e => by omega) hbl.size), ?_⟩
          · exact HCS13.out.fr (Fr.of_row w13 w.heap.size _) (fun _ k hk e => by have := HVB.out k hk; omega)
          · intro k hk
            exact Nat.le_of_lt (HVB.out k hk)

end Go.Proofs.YtniecbblhphbdaaDoor

/-
  A set of names as a map in memory: what a look-up and a store come to; an append to rows of whatever elements.
-/
namespace Go.Proofs.YtniecbblhphbdaaDoor
open Go.RowKit
set_option linter.unusedVariables false
set_option maxRecDepth 100000

/-- A map's entries are these names, without a value. -/
def Ents (es : List MapEntry) (l : List (Int × Int)) : Prop := es.map (fun e => (e.key, e.val)) = l.map (fun x => (idv x.1 x.2, Value.agg #[]))

theorem equalIn_int (e : Nat) (a c : Int) (w : World) : (Op.equalIn (e + 1) 3 (.int .i64 a) (.int .i64 c)).run Tryd.prog w = .ok (a == c) w := by
  simp [Op.equalIn, run_underlying Tryd.underlying3]
theorem equalIn_id (e : Nat) (a b c d : Int) (w : World) : (Op.equalIn (e + 2) 25 (idv a b) (idv c d)).run Tryd.prog w = .ok (a == c && b == d) w := by
  have i1 := equalIn_int e a c w
  have i2 := equalIn_int e b d w
  cases h1 : (a == c)
  all_goals
    rw [h1] at i1
    rw [show e + 2 = (e + 1) + 1 from rfl, Op.equalIn]
    simp [run_underlying Tryd.underlying25, go_sem]
  · intro h; simp [h] at h1
  · simp at h1
    rw [if_pos h1]
    by_cases h2 : b = d
    · simp [h2]
    · simp [h2]
theorem equal_id (a b c d : Int) (w : World) : (Op.equal 25 (idv a b) (idv c d)).run Tryd.prog w = .ok (a == c && b == d) w := equalIn_id 9998 a b c d w


theorem find_asking (r n : Int) (w : World) : ∀ (es : List MapEntry) (l : List (Int × Int)) (i : Nat), Ents es l →
    ∃ o, (Instr.findAsking 25 (idv r n) es i).run Tryd.prog w = .ok o w ∧ (o.isSome = decide ((r, n) ∈ l)) ∧ ∀ j u, o = some (j, u) → u = .agg #[] := by
  intro es
  induction es with
  | nil =>
    intro l i h
    have : l = [] := by
      cases l with
      | nil => rfl
      | cons x l => simp [Ents] at h
    subst this
    exact ⟨none, rfl, by simp, fun j u h => by cases h⟩
  | cons e es ih =>
    intro l i h
    cases l with
    | nil => simp [Ents] at h
    | cons x l =>
      unfold Ents at h
      simp only [List.map_cons, List.cons.injEq, Prod.mk.injEq] at h
      obtain ⟨⟨hk, hv⟩, ht⟩ := h
      have he := equal_id r n x.1 x.2 w
      cases hc : (r == x.1 && n == x.2)
      · obtain ⟨o, h1, h2, h3⟩ := ih l (i + 1) ht
        refine ⟨o, ?_, ?_, h3⟩
        · unfold Instr.findAsking
          rw [hk, Sem.run_bind, he, hc]
          exact h1
        · rw [h2]
          have : (r, n) ≠ x := by
            intro e
            subst e
            simp at hc
          simp [this]
      · refine ⟨some (i, e.val), ?_, ?_, fun j u h => by simp at h; rw [← h.2]; exact hv⟩
        · unfold Instr.findAsking
          rw [hk, Sem.run_bind, he, hc]
          rfl
        · simp at hc
          have : (r, n) = x := by rw [hc.1, hc.2]
          simp [this]
theorem find_key (r n : Int) (w : World) (es : List MapEntry) (l : List (Int × Int)) (h : Ents es l) :
    ∃ o, (Instr.findKey 25 (idv r n) es).run Tryd.prog w = .ok o w ∧ (o.isSome = decide ((r, n) ∈ l)) ∧ ∀ j u, o = some (j, u) → u = .agg #[] := by
  unfold Instr.findKey
  rw [Sem.run_bind, run_underlying Tryd.underlying25]
  cases es with
  | nil =>
    have : l = [] := by
      cases l with
      | nil => rfl
      | cons x l => simp [Ents] at h
    subst this
    exact ⟨none, rfl, by simp, fun j u h => by cases h⟩
  | cons e es => exact find_asking r n w (e :: es) l 0 h
theorem check_key (b : Bool) (r n : Int) (w : World) : (Instr.checkKey b 10000 25 (idv r n)).run Tryd.prog w = .ok () w := by kernel_rfl

/-- A look-up. -/
theorem run_look (r n : Int) (w : World) (mb : Nat) (es : Array MapEntry) (clock : Nat) (l : List (Int × Int)) (hm : w.heap[mb]? = some (.map es clock)) (h : Ents es.toList l) :
    (Instr.lookup 87 (.map (some mb)) (idv r n) true).run Tryd.prog w = .ok (.tuple #[.agg #[], .bool (decide ((r, n) ∈ l))]) w := by
  obtain ⟨o, h1, h2, h3⟩ := find_key r n w es.toList l h
  have hz : (zeroValue 88).run Tryd.prog w = .ok (.agg #[]) w := by kernel_rfl
  unfold Instr.lookup
  rw [Sem.run_bind, run_underlying Tryd.underlying87]
  have hg : (getObj mb).run Tryd.prog w = .ok (.map es clock) w := by simp [getObj, Sem.run, hm]
  cases o with
  | none =>
    have : decide ((r, n) ∈ l) = false := by rw [← h2]; rfl
    rw [this]
    simp [Sem.run_bind, hg, check_key, h1, hz]
  | some x =>
    obtain ⟨j, u⟩ := x
    obtain rfl := h3 j u rfl
    have : decide ((r, n) ∈ l) = true := by rw [← h2]; rfl
    rw [this]
    simp [Sem.run_bind, hg, check_key, h1]

/-- A store of a name that isn't there. -/
theorem run_put (r n : Int) (w : World) (mb : Nat) (es : Array MapEntry) (clock : Nat) (l : List (Int × Int)) (hm : w.heap[mb]? = some (.map es clock)) (h : Ents es.toList l) (hn : (r, n) ∉ l) :
    (Instr.mapUpdate 87 (.map (some mb)) (idv r n) (.agg #[])).run Tryd.prog w = .ok () (w.putObj mb (.map (es.push ⟨idv r n, .agg #[], clock⟩) (clock + 1))) := by
  obtain ⟨o, h1, h2, h3⟩ := find_key r n w es.toList l h
  have ho : o = none := by
    cases o with
    | none => rfl
    | some x => simp [hn] at h2
  subst ho
  unfold Instr.mapUpdate
  rw [Sem.run_bind, run_underlying Tryd.underlying87]
  have hg : (getObj mb).run Tryd.prog w = .ok (.map es clock) w := by simp [getObj, Sem.run, hm]
  have hs : ∀ o', (setObj mb o').run Tryd.prog w = .ok () (w.putObj mb o') := fun o' => by simp [setObj, Sem.run, hm, World.putObj]
  simp [Sem.run_bind, hg, check_key, h1, hs]

/-- The same at the operations. -/
theorem wpList_look {ops : Array Oper} {rest : List Oper} {o : Oper} {a : Act} {w : World} {Q : Exit → Act → World → Prop} (hgd : o.guard = none) (m x : Operand) (hop : o.op = Op.lookup 87 m x true)
    (mb : Nat) (hm : a.eval m = .map (some mb)) (r n : Int) (hx : a.eval x = idv r n) (es : Array MapEntry) (clock : Nat) (l : List (Int × Int)) (hb : w.heap[mb]? = some (.map es clock)) (h : Ents es.toList l)
    (hk : wpList Tryd.prog ops Q rest (a.put o.dst (.tuple #[.agg #[], .bool (decide ((r, n) ∈ l))])) w) : wpList Tryd.prog ops Q (o :: rest) a w := by
  refine wpList_plain hgd fun K hK => ?_
  have hrun := run_look r n w mb es clock l hb h
  unfold Oper.wp
  simp only [execOp, hop, hm, hx, Sem.run_bind, hrun, Result.andThen_ok, Sem.run_pure]
  exact hK _ _ hk
theorem wpList_put {ops : Array Oper} {rest : List Oper} {o : Oper} {a : Act} {w : World} {Q : Exit → Act → World → Prop} (hgd : o.guard = none) (m x y : Operand) (hop : o.op = Op.mapUpdate 87 m x y)
    (mb : Nat) (hm : a.eval m = .map (some mb)) (r n : Int) (hx : a.eval x = idv r n) (hy : a.eval y = .agg #[]) (es : Array MapEntry) (clock : Nat) (l : List (Int × Int)) (hb : w.heap[mb]? = some (.map es clock)) (h : Ents es.toList l) (hn : (r, n) ∉ l)
    (hk : wpList Tryd.prog ops Q rest (a.put o.dst undef) (w.putObj mb (.map (es.push ⟨idv r n, .agg #[], clock⟩) (clock + 1)))) : wpList Tryd.prog ops Q (o :: rest) a w := by
  refine wpList_plain hgd fun K hK => ?_
  have hrun := run_put r n w mb es clock l hb h hn
  unfold Oper.wp
  simp only [execOp, hop, hm, hx, hy, Sem.run_bind, hrun, Result.andThen_ok, Sem.run_pure]
  exact hK _ _ hk
theorem Ents.push {es : Array MapEntry} {l : List (Int × Int)} (h : Ents es.toList l) (r n : Int) (c : Nat) : Ents (es.push ⟨idv r n, .agg #[], c⟩).toList (l ++ [(r, n)]) := by
  unfold Ents at h ⊢
  simp [h]
theorem Fr.of_put (w : World) (b : Nat) (o : Obj) : Fr (fun k => k = b) w (w.putObj b o) := ⟨rfl, rfl, rfl, by simp, fun k _ hn => World.putObj_heap_other hn⟩

/-- An append to a row of the call's own, whatever its elements. -/
theorem wpList_append_sl {w : World} {ops : Array Oper} {rest : List Oper} {o : Oper} {a : Act} {Q : Exit → Act → World → Prop} (t e : TypeId) (sz bytes : Nat) (z : Value) (ht : Tryd.prog.underlying t = some (.slice e))
    (hinfo : (Tryd.prog.info? e).map (fun i => (i.zero, i.size, i.bytes)) = some (some z, sz, bytes)) (hzs : z.cells.size = sz) (hsz : 0 < sz) (hgd : o.guard = none) (s x : Operand)
    (ho : o.op = .call { callee := .builtin .append, args := #[s, x], argTypes := #[t, t] })
    (base : Nat) (v : Value) (n : Nat) (cells : List Value) (hs : a.eval s = v) (hown : w.ownsRow base e sz v n cells) (u : Value) (m : Nat) (news : List Value) (hx : a.eval x = u) (hu : Sl sz w u m news) (h1c : ∀ u ∈ news, u.oneCell' = true)
    (hb : (n + m) * bytes ≤ 140737488355328) (hl : n + m ≤ maxLen) (hbase : base ≤ w.heap.size)
    (h : ∀ v' w', w'.ownsRow base e sz v' (n + m) (cells ++ news) → w.grownBy w' v.ownBlock → (v'.ownBlock = v.ownBlock ∨ v'.ownBlock = some w.heap.size) → wpList Tryd.prog ops Q rest (a.put o.dst v') w') :
    wpList Tryd.prog ops Q (o :: rest) a w := by
  obtain ⟨i0, hi, hz0, hz1, hz2⟩ := info_parts hinfo
  obtain ⟨A, c, rfl, _, _⟩ := hu.form
  cases A with
  | none =>
    obtain ⟨rfl, rfl, rfl⟩ := hu.none_nil
    refine wpList_append_own_none hgd s x t ho base e i0 sz ht hi v n cells hs hown hx ?_
    exact h v w (by simpa using hown) ⟨rfl, rfl, rfl, Nat.le_refl _, fun _ _ _ => rfl⟩ (Or.inl rfl)
  | some A =>
    refine wpList_append_own_at _ hgd s x t ho base e i0 z sz bytes ht hi hz0 hz1 hz2 hzs hsz v n cells hs hown A m c news hx hu.1 hu.cells_at h1c hl hb hbase ?_
    intro v' w' h1 h2 _ h4
    exact h v' w' h1 h2 h4

end Go.Proofs.YtniecbblhphbdaaDoor

/-
  What the function inside Needs does, for all names: proved here by what the map and the list hold behind it.
-/
namespace Go.Proofs.YtniecbblhphbdaaDoor
open Go.RowKit
set_option linter.unusedVariables false
set_option maxRecDepth 100000

/-- A name, noted. -/
def noteL (l : List (Int × Int)) (x : Int × Int) : List (Int × Int) := if x ∈ l ∨ x.2 = 0 then l else l ++ [x]

structure Nt (B : Nat) (w : World) (bv mb bl : Nat) (v : Value) (l : List (Int × Int)) : Prop where
  h1 : w.heap[bv]? = some (.cells #[.map (some mb)] 87 (0, 0))
  h2 : ∃ es clock, w.heap[mb]? = some (.map es clock) ∧ Ents es.toList l
  h3 : w.heap[bl]? = some (.cells #[v] 48 (0, 0))
  h4 : w.ownsRow B 25 2 v l.length (l.flatMap idc)
  le : B ≤ bv ∧ B ≤ mb ∧ B ≤ bl
theorem Nt.far {B : Nat} {w : World} {bv mb bl : Nat} {v : Value} {l : List (Int × Int)} (h : Nt B w bv mb bl v l) : mb ≠ bv ∧ mb ≠ bl ∧ bv ≠ bl ∧ v.ownBlock ≠ some bv ∧ v.ownBlock ≠ some mb ∧ v.ownBlock ≠ some bl := by
  obtain ⟨es, clock, hm, _⟩ := h.h2
  have k1 := h.h1
  have k3 := h.h3
  have own : ∀ k, v.ownBlock = some k → ∃ c, w.heap[k]? = some (.cells c 25 (0, 0)) := by
    intro k hk
    rcases h.h4.2 with ⟨rfl, _⟩ | ⟨g, cap, cur, rfl, _, hg, _⟩
    · cases hk
    · simp [Value.ownBlock] at hk
      subst hk
      exact ⟨_, hg⟩
  refine ⟨?_, ?_, ?_, ?_, ?_, ?_⟩
  · intro e; subst e; rw [hm] at k1; simp at k1
  · intro e; subst e; rw [hm] at k3; simp at k3
  · intro e; subst e; rw [k1] at k3; simp at k3
  · intro e; obtain ⟨c, hc⟩ := own _ e; rw [hc] at k1; simp at k1
  · intro e; obtain ⟨c, hc⟩ := own _ e; rw [hc] at hm; simp at hm
  · intro e; obtain ⟨c, hc⟩ := own _ e; rw [hc] at k3; simp at k3
theorem heap_lt {w : World} {k : Nat} {o : Obj} (h : w.heap[k]? = some o) : k < w.heap.size := (Array.getElem?_eq_some_iff.1 h).1
theorem own_below2 {w w' : World} {base e sz : Nat} {v : Value} {n : Nat} {xs : List Value} (h : w.ownsRow base e sz v n xs) (hb : ∀ k, v.ownBlock = some k → w'.heap[k]? = w.heap[k]?) : w'.ownsRow base e sz v n xs := by
  refine ⟨h.1, ?_⟩
  rcases h.2 with h0 | ⟨g, cap, cur, rfl, hg, hh, r⟩
  · exact .inl h0
  · exact .inr ⟨g, cap, cur, rfl, hg, by rw [hb g rfl]; exact hh, r⟩
theorem Nt.below {B : Nat} {w w' : World} {bv mb bl : Nat} {v : Value} {l : List (Int × Int)} (h : Nt B w bv mb bl v l) (hb : Below w.heap.size w w') : Nt B w' bv mb bl v l := by
  obtain ⟨es, clock, hm, he⟩ := h.h2
  exact ⟨by rw [hb.block _ (heap_lt h.h1)]; exact h.h1, ⟨es, clock, by rw [hb.block _ (heap_lt hm)]; exact hm, he⟩, by rw [hb.block _ (heap_lt h.h3)]; exact h.h3, own_below2 h.h4 (fun k hk => hb.block k (h.h4.lt k hk).2), h.le⟩
theorem info_id : (Tryd.prog.info? 25).map (fun i => (i.zero, i.size, i.bytes)) = some (some (idv 0 0), 2, 16) := by kernel_rfl

set_option maxHeartbeats 2000000 in
theorem note_stay (B bv mb bl : Nat) (v : Value) (l : List (Int × Int)) (r n : Int) (w : World) (h : Nt B w bv mb bl v l) (hs : (r, n) ∈ l ∨ n = 0) (hB : B ≤ w.heap.size) :
    Calls Tryd.prog 52 #[idv r n, .pointer (some ⟨bv, 0, none⟩), .pointer (some ⟨bl, 0, none⟩)] w fun e w' => e = .returned (.tuple #[]) ∧ Nt B w' bv mb bl v l ∧ Below w.heap.size w w' := by
  have HA := hid (ba w (ido 25 r n))
  have HN := hid (h.below HA.out)
  have HA2 := hid (ba (w.alloc (ido 25 r n)) (.cells #[] 88))
  have HN2 := hid (HN.out.below HA2.out)
  obtain ⟨es, clock, hm, he⟩ := HN.out.h2
  have HM := hid hm
  have HE := hid he
  have c1 : (w.alloc (ido 25 r n)).cell? ⟨bv, 0, none⟩ = some (.map (some mb)) := cell_of_row _ _ 0 _ _ _ HN.out.h1
  have n1 : ((w.alloc (ido 25 r n)).alloc (.cells #[] 88)).cell? ⟨w.heap.size, 1, none⟩ = some (.int .i64 n) := cell_of_row _ _ 1 _ _ _ (heap_alloc2_old w _ _)
  clear h hm he
  cases hd : decide ((r, n) ∈ l)
  · have hn0 : n = 0 := by
      rcases hs with hs | hs
      · simp [hs] at hd
      · exact hs
    subst hn0
    clear hs
    go_enter Tryd.func52, Tryd.ntmps52
    go_wp2_with (refine wpList_look rfl _ _ rfl mb rfl r 0 rfl es clock l HM.out HE.out ?_; rw [hd])
    refine bodyPost_ret (results_none rfl _ _ _) rfl ?_
    exact ⟨rfl, HN2.out, bt HA.out HA2.out⟩
  · clear hs
    go_enter Tryd.func52, Tryd.ntmps52
    go_wp2_with (refine wpList_look rfl _ _ rfl mb rfl r n rfl es clock l HM.out HE.out ?_; rw [hd])
    refine bodyPost_ret (results_none rfl _ _ _) rfl ?_
    exact ⟨rfl, HN2.out, bt HA.out HA2.out⟩


theorem noteL_len (l : List (Int × Int)) (x : Int × Int) : (noteL l x).length ≤ l.length + 1 := by
  unfold noteL
  split <;> simp
theorem own_shape {w : World} {B e sz n : Nat} {v : Value} {xs : List Value} (h : w.ownsRow B e sz v n xs) : ∃ a c, v = .slice a n c := by
  rcases h.2 with ⟨rfl, h0⟩ | ⟨g, cap, cur, rfl, _⟩
  · exact ⟨none, 0, by rw [h0]⟩
  · exact ⟨_, _, rfl⟩
theorem id_cells (l : List (Int × Int)) : ∀ u ∈ l.flatMap idc, u.oneCell' = true := by
  intro u hu
  obtain ⟨x, _, hx⟩ := List.mem_flatMap.1 hu
  simp [idc] at hx
  rcases hx with rfl | rfl <;> rfl

set_option maxHeartbeats 4000000 in
theorem note_new (B bv mb bl : Nat) (v : Value) (l : List (Int × Int)) (r n : Int) (w : World) (h : Nt B w bv mb bl v l) (hs : (r, n) ∉ l) (hn0 : n ≠ 0) (hB : B ≤ w.heap.size) (hl : l.length ≤ 1000000) :
    Calls Tryd.prog 52 #[idv r n, .pointer (some ⟨bv, 0, none⟩), .pointer (some ⟨bl, 0, none⟩)] w fun e w' => e = .returned (.tuple #[]) ∧ (∃ v', Nt B w' bv mb bl v' (l ++ [(r, n)])) ∧ Below B w w' := by
  have HA := hid (ba w (ido 25 r n))
  have HN := hid (h.below HA.out)
  have HA2 := hid (ba (w.alloc (ido 25 r n)) (.cells #[] 88))
  have HN2 := hid (HN.out.below HA2.out)
  have hlt1 := heap_lt h.h1
  have hlt3 := heap_lt h.h3
  obtain ⟨es, clock, hm, he⟩ := h.h2
  have hltm := heap_lt hm
  have hfar := h.far
  have hle := h.le
  have hm1 : (w.alloc (ido 25 r n)).heap[mb]? = some (.map es clock) := by rw [HA.out.block _ hltm]; exact hm
  have hm2 : ((w.alloc (ido 25 r n)).alloc (.cells #[] 88)).heap[mb]? = some (.map es clock) := by rw [HA2.out.block _ (heap_lt hm1)]; exact hm1
  have HM := hid hm1
  have HM2 := hid hm2
  have HE := hid he
  have c1 : (w.alloc (ido 25 r n)).cell? ⟨bv, 0, none⟩ = some (.map (some mb)) := cell_of_row _ _ 0 _ _ _ HN.out.h1
  have c2 : ((w.alloc (ido 25 r n)).alloc (.cells #[] 88)).cell? ⟨bv, 0, none⟩ = some (.map (some mb)) := cell_of_row _ _ 0 _ _ _ HN2.out.h1
  have n1 : ((w.alloc (ido 25 r n)).alloc (.cells #[] 88)).cell? ⟨w.heap.size, 1, none⟩ = some (.int .i64 n) := cell_of_row _ _ 1 _ _ _ (heap_alloc2_old w _ _)
  have n0 : ((w.alloc (ido 25 r n)).alloc (.cells #[] 88)).cell? ⟨w.heap.size, 0, none⟩ = some (.int .i64 r) := cell_of_row _ _ 0 _ _ _ (heap_alloc2_old w _ _)
  have hd : decide ((r, n) ∈ l) = false := decide_eq_false hs
  have hz : (n == 0) = false := by simpa using hn0
  -- behind the store into the map
  obtain ⟨w3, hw3⟩ : ∃ w3, ((w.alloc (ido 25 r n)).alloc (.cells #[] 88)).putObj mb (.map (es.push ⟨idv r n, .agg #[], clock⟩) (clock + 1)) = w3 := ⟨_, rfl⟩
  have hsz2 : ((w.alloc (ido 25 r n)).alloc (.cells #[] 88)).heap.size = w.heap.size + 2 := by simp
  have hF3 : Fr (fun k => k = mb) ((w.alloc (ido 25 r n)).alloc (.cells #[] 88)) w3 := by rw [← hw3]; exact Fr.of_put _ _ _
  have hs3 : w3.heap.size = w.heap.size + 2 := by rw [← hw3]; simp
  have m3 : w3.heap[mb]? = some (.map (es.push ⟨idv r n, .agg #[], clock⟩) (clock + 1)) := by rw [← hw3]; exact World.putObj_heap_same (by omega)
  have v3 : w3.heap[bv]? = some (.cells #[.map (some mb)] 87 (0, 0)) := hF3.rows HN2.out.h1 (by omega)
  have l3 : w3.heap[bl]? = some (.cells #[v] 48 (0, 0)) := hF3.rows HN2.out.h3 (by omega)
  have i3 : w3.heap[w.heap.size]? = some (.cells #[.int .i64 r, .int .i64 n] 25 (0, 0)) := hF3.rows (heap_alloc2_old w _ _) (by omega)
  have o3 : w3.ownsRow B 25 2 v l.length (l.flatMap idc) := own_below2 HN2.out.h4 (fun k hk => hF3.block k (HN2.out.h4.lt k hk).2 (fun e => hfar.2.2.2.2.1 (by rw [hk, e])))
  have a1 : w3.cell? ⟨bl, 0, none⟩ = some v := cell_of_row _ _ 0 _ _ _ l3
  have a2 : w3.cell? ⟨w.heap.size, 0, none⟩ = some (.int .i64 r) := cell_of_row _ _ 0 _ _ _ i3
  have a3 : w3.cell? ⟨w.heap.size, 1, none⟩ = some (.int .i64 n) := cell_of_row _ _ 1 _ _ _ i3
  have HW3 := hid hw3
  have HF3 := hid hF3
  have M3 := hid m3
  have V3 := hid v3
  have L3 := hid l3
  -- behind the one name that is laid for the append
  have hA4 := ba w3 (ido 25 r n)
  have O4 : Hid ((w3.alloc (ido 25 r n)).ownsRow B 25 2 v l.length (l.flatMap idc)) := hid (own_below2 o3 (fun k hk => hA4.block k (o3.lt k hk).2))
  have S4 : Hid (Sl 2 (w3.alloc (ido 25 r n)) (.slice (some ⟨w3.heap.size, 0, none⟩) 1 1) 1 ([(r, n)].flatMap idc)) := hid (Sl.lit (sz := 2) w3 25 #[.int .i64 r, .int .i64 n] 1 (by unfold maxLen; omega) rfl)
  rw [hs3] at S4
  have HA4 := hid hA4
  have HFAR := hid hfar
  obtain ⟨va, vc, hv, _⟩ : ∃ a c, v = .slice a l.length c ∧ l.length ≤ c := by
    rcases o3.2 with ⟨rfl, h0⟩ | ⟨g, cap, cur, rfl, _, _, h3, _⟩
    · exact ⟨none, 0, by rw [h0], by omega⟩
    · exact ⟨_, _, rfl, h3⟩
  have hbytes : (l.length + 1) * 16 ≤ 140737488355328 := by omega
  have hml : l.length + 1 ≤ maxLen := by unfold maxLen; omega
  have hb4 : B ≤ (w3.alloc (ido 25 r n)).heap.size := by have := HA4.out.size; omega
  have HB5 : Hid (bl < (w3.alloc (ido 25 r n)).heap.size) := hid (by have := HA4.out.size; omega)
  have K4 : Hid ((w3.alloc (ido 25 r n)).heap[bl]? = some (.cells #[v] 48 (0, 0))) := hid ((HA4.out.block bl (by omega)).trans L3.out)
  have HNE : Hid (some bl ≠ v.ownBlock) := hid (Ne.symm HFAR.out.2.2.2.2.2)
  subst hv
  clear h hm he hs hm1 hm2 hw3 hF3 m3 v3 l3 i3 o3 hA4 hfar
  go_enter Tryd.func52, Tryd.ntmps52
  go_wp2_with (first
    | (refine wpList_look rfl _ _ rfl mb rfl r n rfl es clock l HM.out HE.out ?_; rw [hd])
    | (refine wpList_put rfl _ _ _ rfl mb rfl r n rfl rfl es clock l HM2.out HE.out (by simpa using hd) ?_; rw [HW3.out])
    | (at_builtin; refine wpList_append_sl 48 25 2 16 (idv 0 0) Tryd.underlying48 info_id rfl (Nat.succ_pos 1) rfl _ _ rfl B _ _ _ rfl O4.out _ 1 ([(r, n)].flatMap idc) rfl S4.out (id_cells _) hbytes hml hb4 ?_; intro v5 w5 hown5 hg5 hv5; obtain ⟨a5, c5, rfl⟩ := own_shape hown5; have HO5 := hid hown5; have HG5 := hid hg5; have HV5 := hid hv5; have l5 := (hg5.block bl HB5.out HNE.out).trans K4.out; have L5 := hid l5; have z1 := cell_of_row w5 bl 0 _ _ _ l5; have z2 := frozen_of_row w5 bl 0 _ _ l5; simp at z1; clear hown5 hg5 hv5 l5))
  go_end0
  have hown := HO5.out
  have hne5 : (Value.slice a5 (l.length + 1) c5).ownBlock ≠ some bl := by
    rcases HV5.out with e | e
    · rw [e]; exact HFAR.out.2.2.2.2.2
    · rw [e]
      have := HB5.out
      simp
      omega
  have hgr : ∀ k, k < w.heap.size → k ≠ bl → (.slice va l.length vc : Value).ownBlock ≠ some k → (w5.setCell ⟨bl, 0, none⟩ (.slice a5 (l.length + 1) c5)).heap[k]? = w3.heap[k]? := fun k hk hkb hkv => by
    rw [heap_setCell_other _ _ _ _ (by simpa using hkb), HG5.out.block k (Nat.lt_of_lt_of_le (show k < w3.heap.size by omega) HA4.out.size) (Ne.symm hkv)]
    exact HA4.out.block k (by omega)
  refine ⟨rfl, ⟨.slice a5 (l.length + 1) c5, ?_, ⟨es.push ⟨idv r n, .agg #[], clock⟩, clock + 1, ?_, HE.out.push r n clock⟩, ?_, ?_, hle⟩, ?_⟩
  · rw [hgr bv hlt1 HFAR.out.2.2.1 HFAR.out.2.2.2.1]; exact V3.out
  · rw [hgr mb hltm HFAR.out.2.1 HFAR.out.2.2.2.2.1]; exact M3.out
  · exact set_row (i := 0) L5.out _
  · have := ownsRow_setCell_other (a := ⟨bl, 0, none⟩) hown hne5 (.slice a5 (l.length + 1) c5)
    simpa using this
  · refine Fr.below (S := fun k => B ≤ k) ?_ (fun k hk hs => by omega) hB
    have f1 : Fr (fun k => B ≤ k) w w3 := (Fr.of_below (bt HA.out HA2.out)).trans HF3.out (fun k _ e => by omega)
    have f2 := f1.trans (Fr.of_below HA4.out : Fr (fun k => B ≤ k) _ _) (fun _ _ h => h)
    have f3 := f2.trans (Fr.of_grown HG5.out (S := fun k => B ≤ k) (fun k hk => (O4.out.lt k hk).1)) (fun _ _ h => h)
    exact f3.set 0 _ (.inr hle.2.2)

theorem note_any (B bv mb bl : Nat) (v : Value) (l : List (Int × Int)) (r n : Int) (w : World) (h : Nt B w bv mb bl v l) (hB : B ≤ w.heap.size) (hl : l.length ≤ 1000000) :
    Calls Tryd.prog 52 #[idv r n, .pointer (some ⟨bv, 0, none⟩), .pointer (some ⟨bl, 0, none⟩)] w fun e w' => e = .returned (.tuple #[]) ∧ (∃ v', Nt B w' bv mb bl v' (noteL l (r, n))) ∧ Below B w w' := by
  unfold noteL
  by_cases hs : (r, n) ∈ l ∨ (r, n).2 = 0
  · rw [if_pos hs]
    exact (note_stay B bv mb bl v l r n w h hs hB).mono fun _ _ ⟨h1, h2, h3⟩ => ⟨h1, ⟨v, h2⟩, h3.mono hB⟩
  · rw [if_neg hs]
    exact note_new B bv mb bl v l r n w h (fun e => hs (.inl e)) (fun e => hs (.inr e)) hB hl

end Go.Proofs.YtniecbblhphbdaaDoor

/-
  A whole op, boxed: for the walk.
-/
namespace Go.Proofs.YtniecbblhphbdaaDoor
open Go.RowKit
set_option linter.unusedVariables false
set_option maxRecDepth 100000

/-- A whole op, boxed: the world behind it by a name. -/
theorem wpList_box_op {ops : Array Oper} {rest : List Oper} {p : Oper} {a : Act} {w : World} {Q : Exit → Act → World → Prop} (hgd : p.guard = none) (x : Operand) (ho : p.op = .box 30 x) (A : Value) (hx : a.eval x = A) (o : Opn) (v : Value) (hA : A = opv o v)
    (hk : ∀ w', Ob w' w.heap.size o v → Below w.heap.size w w' → w.heap.size < w'.heap.size → wpList Tryd.prog ops Q rest (a.put p.dst (.pointer (some ⟨w.heap.size, 0, none⟩))) w') : wpList Tryd.prog ops Q (p :: rest) a w := by
  subst hA
  have h := hk (w.alloc (opo o v)) (Ob.new w o v) (ba w _) (by simp)
  refine wpList_plain hgd fun K hK => ?_
  unfold Oper.wp execOp
  simp only [ho, hx]
  simp [Instr.box, go_sem]
  exact hK _ _ h

end Go.Proofs.YtniecbblhphbdaaDoor
