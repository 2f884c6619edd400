/-
  Parts of the proof, one behind the other; what each proves stands at its head.
-/
import Derived.Test.YteckjkblngmenaaDoorPart4
import Derived.Test.YteckjkblngmenaaDoorPart5
import Derived.BigFrame
import Derived.Deep.WholeRow
import Derived.Test.YteckjkblngmenaaDoorPart3
import Derived.RangeFuncRecord
import Derived.BigQuiet
import Derived.Deep.CutRange
import Derived.Test.YteckjkblngmenaaDoorRows

/-
  What Decode answers is proved here, for all bytes of which there are at most 2^40.
-/
namespace Go.Proofs.YteckjkblngmenaaDoor
open Go.RowKit
set_option linter.unusedVariables false
set_option maxRecDepth 100000

/-- An op of which the kind alone is told. -/
abbrev zopc (k : Int) : Array Value := #[.int .i64 k, .int .i64 0, .int .i64 0, .int .i64 0, .int .i64 0, .int .i64 0, .int .i64 0, .int .i64 0, .string ⟨#[]⟩, .int .i64 0, .int .i64 0, .int .i64 0, .int .i64 0, .int .i64 0, .int .i64 0, .int .i64 0, .int .i64 0, .string ⟨#[]⟩, .slice none 0 0, .bool false]
abbrev zop (k : Int) : Obj := .cells (zopc k) 57

/-- A load of a whole op where a guard stands ahead of it. -/
theorem wpList_load_opg {ops : Array Oper} {rest : List Oper} {p : Oper} {a : Act} {w : World} {Q : Exit → Act → World → Prop} (hgd : Region.wanted p (yielded ops a.tmps) = true) (x : Operand) (ho : p.op = .load 57 x)
    (b : Nat) (hx : a.eval x = .pointer (some ⟨b, 0, none⟩)) (o : Opn) (v : Value) (h : Ob w b o v)
    (hk : wpList Tryd.prog ops Q rest (a.put p.dst (opv o v)) w) : wpList Tryd.prog ops Q (p :: rest) a w :=
  BigFrame.wpList_want hgd fun _ hK => wp_load_row 57 x ho b hx 57 (opl o v) (0, 0) _ h Tryd.underlying57 rfl (by kernel_rfl) (hK _ _ hk)
/-- A store of a whole op. -/
theorem wpList_store_op {ops : Array Oper} {rest : List Oper} {p : Oper} {a : Act} {w : World} {Q : Exit → Act → World → Prop} (hgd : p.guard = none) (x y : Operand) (ho : p.op = .store 57 x y)
    (b : Nat) (hx : a.eval x = .pointer (some ⟨b, 0, none⟩)) (o : Opn) (v : Value) (hv : ∃ va n vc, v = .slice va n vc) (hy : a.eval y = opv o v) (o' : Opn) (v' : Value) (h : Ob w b o' v')
    (hk : wpList Tryd.prog ops Q rest (a.put p.dst undef) (w.setRow b (opl o v))) : wpList Tryd.prog ops Q (p :: rest) a w :=
  wpList_store_row hgd 57 x y ho b (opl o v) hx hy 57 (opl o' v') h (by kernel_rfl) rfl (by obtain ⟨va, n, vc, rfl⟩ := hv; simp [Value.oneCell']) hk
/-- An op of which the kind alone is told, built. -/
theorem built_kind (n : Int) : Tryd.prog.built 57 [(0, .int .i64 n)] = some #[.int .i64 n, .int .i64 0, .int .i64 0, .int .i64 0, .int .i64 0, .int .i64 0, .int .i64 0, .int .i64 0, .string ⟨#[]⟩, .int .i64 0, .int .i64 0, .int .i64 0, .int .i64 0, .int .i64 0, .int .i64 0, .int .i64 0, .int .i64 0, .string ⟨#[]⟩, .slice none 0 0, .bool false] := by kernel_rfl
theorem wpList_build_kind {ops : Array Oper} {rest : List Oper} {p : Oper} {a : Act} {w : World} {Q : Exit → Act → World → Prop} (hgd : p.guard = none) (x : Operand) (ho : p.op = .build 57 #[(0, x)]) (n : Int) (hx : a.eval x = .int .i64 n)
    (hk : wpList Tryd.prog ops Q rest (a.put p.dst (.agg #[.int .i64 n, .int .i64 0, .int .i64 0, .int .i64 0, .int .i64 0, .int .i64 0, .int .i64 0, .int .i64 0, .string ⟨#[]⟩, .int .i64 0, .int .i64 0, .int .i64 0, .int .i64 0, .int .i64 0, .int .i64 0, .int .i64 0, .int .i64 0, .string ⟨#[]⟩, .slice none 0 0, .bool false])) w) : wpList Tryd.prog ops Q (p :: rest) a w := by
  have e : (Array.map (fun (i, x) => (i, a.eval x)) #[(0, x)]).toList = [(0, Value.int .i64 n)] := by simp [hx]
  refine wpList_build hgd 57 #[(0, x)] ho ?_ ?_
  · rw [e, built_kind]; rfl
  · rw [e, built_kind]; exact hk
theorem built_zero : Tryd.prog.built 57 [] = some (zopc 0) := by kernel_rfl
theorem wpList_build_zero {ops : Array Oper} {rest : List Oper} {p : Oper} {a : Act} {w : World} {Q : Exit → Act → World → Prop} (hgd : p.guard = none) (ho : p.op = .build 57 #[])
    (hk : wpList Tryd.prog ops Q rest (a.put p.dst (.agg (zopc 0))) w) : wpList Tryd.prog ops Q (p :: rest) a w := by
  have e : (Array.map (fun ((i, x) : Nat × Operand) => (i, a.eval x)) #[]).toList = [] := by simp
  refine wpList_build hgd 57 #[] ho ?_ ?_
  · rw [e, built_zero]; rfl
  · rw [e, built_zero]; exact hk
theorem Fr.up {S : Nat → Prop} {N : Nat} {a w w' : World} (h : Fr (fun k => N ≤ k) a w) (k : Fr S w w') (hs : ∀ j, S j → N ≤ j) : Fr (fun k => N ≤ k) a w' := h.trans k (fun _ _ hj => hs _ hj)
/-- A store of a whole op into the block that was made last. -/
theorem wpList_store_opn {ops : Array Oper} {rest : List Oper} {p : Oper} {a : Act} {W : World} {Q : Exit → Act → World → Prop} (hgd : p.guard = none) (x y : Operand) (ho : p.op = .store 57 x y)
    (z cells : Array Value) (hx : a.eval x = .pointer (some ⟨W.heap.size, 0, none⟩)) (hy : a.eval y = .agg cells) (hz : z.size = cells.size) (hi : cells.size = 20) (h1 : cells.all (·.oneCell') = true)
    (hk : wpList Tryd.prog ops Q rest (a.put p.dst undef) (W.alloc (.cells cells 57))) : wpList Tryd.prog ops Q (p :: rest) a (W.alloc (.cells z 57)) := by
  have hi' : (Tryd.prog.info? 57).map (·.size) = some cells.size := by rw [hi]; kernel_rfl
  refine wpList_store_row hgd 57 x y ho W.heap.size cells hx hy 57 z (heap_alloc_new W _) hi' hz h1 ?_
  rw [World.setRow_alloc_new]
  exact hk
theorem wpList_store_zop {ops : Array Oper} {rest : List Oper} {p : Oper} {a : Act} {W : World} {Q : Exit → Act → World → Prop} (hgd : p.guard = none) (x y : Operand) (ho : p.op = .store 57 x y) (k0 n : Int)
    (hx : a.eval x = .pointer (some ⟨W.heap.size, 0, none⟩)) (hy : a.eval y = .agg (zopc n))
    (hk : wpList Tryd.prog ops Q rest (a.put p.dst undef) (W.alloc (.cells (zopc n) 57))) : wpList Tryd.prog ops Q (p :: rest) a (W.alloc (.cells (zopc k0) 57)) :=
  wpList_store_opn hgd x y ho (zopc k0) (zopc n) hx hy rfl rfl (by simp [Value.oneCell']) hk
theorem size_set (w : World) (a : Addr) (v : Value) : (w.setCell a v).heap.size = w.heap.size := by simp [World.setCell]
theorem Fr.of_row (w : World) (b : Nat) (cs : Array Value) : Fr (fun k => k = b) w (w.setRow b cs) :=
  ⟨rfl, rfl, rfl, by simp [World.setRow], fun k _ hn => setRow_other w b k cs hn⟩

/-- Texts that are read are no longer than the bytes. -/
theorem rn_short (m : Int) (s : St) : (rn m s).2.1.length ≤ s.1.length := by
  unfold rn M.numS
  dsimp only
  split
  · rw [List.length_drop]; omega
  · simp
theorem rt_short (m : Int) (s : St) (h : K.Byt s.1) : (rt m s).1.size ≤ s.1.length ∧ (rt m s).2.1.length ≤ s.1.length := by
  have h1 := rn_short m s
  have hb : K.Byt (rn m s).2.1 := by
    unfold rn M.numS
    dsimp only
    split
    · exact fun x hx => h x (List.mem_of_mem_drop hx)
    · exact fun x hx => by cases hx
  rw [rt_text.1, rt_text.2, size_str (takeV_byt hb)]
  constructor
  · unfold M.takeV
    split
    · rw [List.length_take]; omega
    · simp
  · unfold M.takeS
    split
    · rw [List.length_drop]; omega
    · simp
theorem rcuts_short (B : Bnd) (j : Nat) (s : St) : (rcuts B j s).2.1.length ≤ s.1.length := by
  induction j with
  | zero => exact Nat.le_refl _
  | succ j ih =>
    unfold rcuts rcut
    dsimp only
    exact Nat.le_trans (rn_short _ _) (Nat.le_trans (rn_short _ _) (Nat.le_trans (rn_short _ _) (Nat.le_trans (rn_short _ _) ih)))
def Shrt (N : Nat) (p : Opn × St) : Prop := p.1.key.size ≤ N ∧ p.1.text.size ≤ N ∧ p.2.1.length ≤ N
theorem rdF_short (B : Bnd) (f : Nat) (hf : f ≤ 8) (p : Opn × St) (N : Nat) (hv : Vl p.2) (h : Shrt N p) : Shrt N (rdF B f p) := by
  obtain ⟨o, s⟩ := p
  obtain ⟨h1, h2, h3⟩ := h
  have k1 := rn_short B.n (rn B.r s).2
  have k2 := rn_short B.r s
  have k3 := rn_short B.i (rn B.n (rn B.r s).2).2
  dsimp only at h1 h2 h3 hv
  rcases nine hf with rfl | rfl | rfl | rfl | rfl | rfl | rfl | rfl | rfl
  · exact ⟨h1, h2, Nat.le_trans k1 (Nat.le_trans k2 h3)⟩
  · exact ⟨h1, h2, Nat.le_trans k1 (Nat.le_trans k2 h3)⟩
  · have := rt_short B.key s hv.1
    exact ⟨Nat.le_trans this.1 h3, h2, Nat.le_trans this.2 h3⟩
  · exact ⟨h1, h2, Nat.le_trans k1 (Nat.le_trans k2 h3)⟩
  · exact ⟨h1, h2, Nat.le_trans k3 (Nat.le_trans k1 (Nat.le_trans k2 h3))⟩
  · exact ⟨h1, h2, Nat.le_trans k3 (Nat.le_trans k1 (Nat.le_trans k2 h3))⟩
  · have := rt_short B.text s hv.1
    exact ⟨h1, Nat.le_trans this.1 h3, Nat.le_trans this.2 h3⟩
  · exact ⟨h1, h2, Nat.le_trans (rcuts_short B _ _) (Nat.le_trans (rn_short 16 s) h3)⟩
  · exact ⟨h1, h2, Nat.le_trans (rn_short 1 s) h3⟩
theorem rdH_short (B : Bnd) (b : List Int) : Shrt b.length (rdH B b) :=
  ⟨Nat.zero_le _, Nat.zero_le _, Nat.le_trans (rn_short _ _) (Nat.le_trans (rn_short _ _) (Nat.le_trans (rn_short _ _) (rn_short _ _)))⟩
theorem rdH_vl (B : Bnd) {b : List Int} (hb : K.Byt b) : Vl (rdH B b).2 := rn_vl (rn_vl (rn_vl (rn_vl (s := (b, false)) ⟨hb, fun h => by cases h⟩)))
/-- The fields that are read so far. -/
def rdK (B : Bnd) (b : List Int) (k : Nat) : Opn × St := ((told (rdH B b).1.k).take k).foldl (fun p f => rdF B f p) (rdH B b)
theorem rdK_zero (B : Bnd) (b : List Int) : rdK B b 0 = rdH B b := rfl
theorem rdK_step (B : Bnd) (b : List Int) (k : Nat) (hk : k < (told (rdH B b).1.k).length) : rdK B b (k + 1) = rdF B ((told (rdH B b).1.k)[k]) (rdK B b k) := by
  unfold rdK
  rw [List.take_succ_eq_append_getElem hk, List.foldl_append]
  rfl
theorem rdK_all (B : Bnd) (b : List Int) (k : Nat) (hk : (told (rdH B b).1.k).length ≤ k) : rdK B b k = rdO B b := by
  unfold rdK rdO
  rw [List.take_of_length_le hk]
theorem rdK_ok (B : Bnd) {b : List Int} (hb : K.Byt b) (k : Nat) : Vl (rdK B b k).2 ∧ Shrt b.length (rdK B b k) := by
  induction k with
  | zero => exact ⟨rdH_vl B hb, rdH_short B b⟩
  | succ k ih =>
    by_cases hk : k < (told (rdH B b).1.k).length
    · rw [rdK_step B b k hk]
      have h8 := told_le _ _ (List.getElem_mem hk)
      exact ⟨rdF_vl B _ h8 _ ih.1, rdF_short B _ h8 _ _ ih.1 ih.2⟩
    · rw [rdK_all B b (k + 1) (by omega), ← rdK_all B b k (by omega)]
      exact ih

/-- Results: an op in a block, and a slot. -/
theorem results_op2 {fn : Func} {p u : Tmp} (h : fn.results = #[.cell p 57, .tmp u]) (tmps : Array Value) (w : World) {b : Nat} {o : Opn} {v : Value} (hp : tmps.getD p undef = .pointer (some ⟨b, 0, none⟩)) (hs : Ob w b o v) :
    (results fn tmps).run Tryd.prog w = .ok (.tuple #[opv o v, tmps.getD u undef]) w := by
  have hl := hs.load
  have hp' : tmps[p]?.getD undef = .pointer (some ⟨b, 0, none⟩) := by simpa using hp
  simp [results, h, hp', asAddr, hl]


theorem Ob.zop (w : World) (k : Int) : Ob (w.alloc (zop k)) w.heap.size { Opn.zero with k := k } (.slice none 0 0) := heap_alloc_new w _

set_option maxHeartbeats 8000000 in
theorem decode_any (vb : Value) (xs : List Int) (w : World) (hL : Lay w) (h : Bs w vb xs) (hn : xs.length ≤ 1099511627776) :
    Calls Tryd.prog 56 #[vb] w fun e w' => ∃ v, e = .returned (.tuple #[opv (decO Bnd.own xs).1 v, .bool (decO Bnd.own xs).2]) ∧ Cs w' v (decO Bnd.own xs).1.cuts ∧ Below w.heap.size w w' ∧ ∀ k, v.ownBlock = some k → w.heap.size ≤ k := by
  have hby := h.range
  have HBY := hid hby
  have HA := hid (ba w (opo Opn.zero (.slice none 0 0)))
  have HB := hid (h.below HA.out)
  have HL := hid hL
  have R0 := hid (Ob.new w Opn.zero (.slice none 0 0))
  obtain ⟨dec, hdec⟩ : ∃ d, decO Bnd.own xs = d := ⟨_, rfl⟩
  rw [hdec]
  have HD := hid hdec
  have N0 := hid (fun W c => num_s c (xs, false) 6 W)
  have hH : rdH Bnd.own xs = ({ Opn.zero with k := (rn 6 (xs, false)).1, ir := (rn 15 (rn 6 (xs, false)).2).1, im := (rn 1048576 (rn 15 (rn 6 (xs, false)).2).2).1, t := (rn 1099511627776 (rn 1048576 (rn 15 (rn 6 (xs, false)).2).2).2).1 }, (rn 1099511627776 (rn 1048576 (rn 15 (rn 6 (xs, false)).2).2).2).2) := rfl
  obtain ⟨p0, hp0⟩ : ∃ p, rn 6 (xs, false) = p := ⟨_, rfl⟩
  rw [hp0] at N0 hH
  have N1 := hid (fun W c => name_r c p0.2 W)
  obtain ⟨p1, hp1⟩ : ∃ p, rn 15 p0.2 = p := ⟨_, rfl⟩
  rw [hp1] at N1 hH
  obtain ⟨p2, hp2⟩ : ∃ p, rn 1048576 p1.2 = p := ⟨_, rfl⟩
  rw [hp2] at N1 hH
  have N2 := hid (fun W c => num_s c p2.2 1099511627776 W)
  obtain ⟨p3, hp3⟩ : ∃ p, rn 1099511627776 p2.2 = p := ⟨_, rfl⟩
  rw [hp3] at N2 hH
  have HH := hid hH
  obtain ⟨a, cc, rfl⟩ := h.form
  clear h hL hby hdec hp0 hp1 hp2 hp3 hH
  go_enter Tryd.func56, Tryd.ntmps56
  go_wp2_with fail
  refine (at_any _ xs _ HB.out (by omega)).mono ?_
  rintro e w1 ⟨c, rfl, hcn, hc1, hb1⟩
  have hsz0 : (w.alloc (opo Opn.zero (.slice none 0 0))).heap.size = w.heap.size + 1 := by simp
  rw [hsz0] at hcn
  have hcl := hc1.lt
  have HA2 := hid (ba w1 (rdo c))
  have HC2 := hid (hc1.below HA2.out)
  have HB2 := hid (bt hb1 HA2.out)
  have R2 := hid (R0.out.below HB2.out)
  have K2 := hid (heap_alloc_new w1 (rdo c))
  have HBb := hid ((HA.out.trans (hb1.mono HA.out.size)).trans (HA2.out.mono (by omega)) : Below w.heap.size w _)
  have d1 := cell_of_row _ _ 0 _ _ _ K2.out
  simp at d1
  clear hc1 hb1
  go_wp2_with fail
  refine (N0.out _ c HC2.out).mono ?_
  rintro e w3 ⟨rfl, hc3, hg3⟩
  have HG3 := hid hg3
  have HC3 := hid hc3
  have R3 := hid (grown_row hg3 R2.out (by omega))
  have K3 := hid (grown_row hg3 K2.out (by omega))
  have hs3 := hg3.size
  rw [show (w1.alloc (rdo c)).heap.size = w1.heap.size + 1 by simp] at hs3
  clear hc3 hg3 d1
  have HA4 := hid (ba w3 (zop p0.1))
  have HC4 := hid (HC3.out.below HA4.out)
  have R4 := hid ((Fr.of_below HA4.out : Fr (fun k => k = c) _ _).rows R3.out (by omega))
  have K4 := hid ((Fr.of_below HA4.out : Fr (fun k => k = c) _ _).rows K3.out (by omega))
  have O4 := hid (Ob.zop w3 p0.1)
  have d2 := cell_of_row _ _ 0 _ _ _ K4.out
  simp at d2
  go_wp2_with (first | (refine wpList_build_kind rfl _ rfl _ rfl ?_) | (refine wpList_store_zop rfl _ _ rfl 0 p0.1 rfl rfl ?_))
  refine (N1.out _ c HC4.out).mono ?_
  rintro e w5 ⟨rfl, hc5, hf5⟩
  have HF5 := hid hf5
  have HC5 := hid hc5
  have R5 := hid (hf5.rows R4.out (by omega))
  have K5 := hid (hf5.rows K4.out (by omega))
  have O5 := hid (hf5.rows O4.out (by omega))
  have hs5 := hf5.size
  rw [show (w3.alloc (zop p0.1)).heap.size = w3.heap.size + 1 by simp] at hs5
  have e1 : w5.cell? ⟨w3.heap.size, 1, none⟩ = some (.int .i64 0) := Ob.cell (w := w5) O5.out 1
  have e2 : w5.cell? ⟨w3.heap.size, 2, none⟩ = some (.int .i64 0) := Ob.cell (w := w5) O5.out 2
  have f1 := Ob.frozen (w := w5) O5.out 1
  have f2 := Ob.frozen (w := w5) O5.out 2
  have d3 := cell_of_row _ w1.heap.size 0 _ _ _ K5.out
  simp at d3
  clear hc5 hf5 d2
  have K6a := hid (set_row (i := 1) O5.out (.int .i64 p1.1))
  have O6 := hid (set_row (i := 2) K6a.out (.int .i64 p2.1))
  have HC6 := hid (Cur.set_row (i := 2) (Cur.set_row (i := 1) HC5.out O5.out (by omega) ⟨_, rfl, fun x => by simp⟩ (.int .i64 p1.1)) K6a.out (by omega) ⟨_, rfl, fun x => by simp⟩ (.int .i64 p2.1))
  have F6 := hid ((Fr.of_set w5 w3.heap.size 1 (.int .i64 p1.1)).set 2 (.int .i64 p2.1) (.inr rfl))
  have R6 := hid (F6.out.rows R5.out (by omega))
  have K6 := hid (F6.out.rows K5.out (by omega))
  go_wp2_with fail
  refine (N2.out _ c HC6.out).mono ?_
  rintro e w7 ⟨rfl, hc7, hg7⟩
  have HC7 := hid hc7
  have O7 := hid (grown_row hg7 O6.out (by omega))
  have R7 := hid (grown_row hg7 R6.out (by omega))
  have K7 := hid (grown_row hg7 K6.out (by omega))
  have HG7 := hid hg7
  have e3 : w7.cell? ⟨w3.heap.size, 3, none⟩ = some (.int .i64 0) := cell_of_row w7 _ 3 _ _ _ O7.out
  have f3 := frozen_of_row w7 w3.heap.size 3 _ _ O7.out
  have e0 : w7.cell? ⟨w3.heap.size, 0, none⟩ = some (.int .i64 p0.1) := cell_of_row w7 _ 0 _ _ _ O7.out
  have hs7 := hg7.size
  simp only [size_set] at hs7
  clear hc7 hg7 d3 e1 e2 f1 f2
  have O8 : Hid (Ob (w7.setCell ⟨w3.heap.size, 3, none⟩ (.int .i64 p3.1)) w3.heap.size (rdH Bnd.own xs).1 (.slice none 0 0)) := hid (by rw [HH.out]; exact set_row (i := 3) O7.out (.int .i64 p3.1))
  have HC8 : Hid (Cu (w7.setCell ⟨w3.heap.size, 3, none⟩ (.int .i64 p3.1)) c (rdH Bnd.own xs).2) := hid (by rw [HH.out]; exact Cur.set_row HC7.out O7.out (by omega) ⟨_, rfl, fun x => by simp⟩ (.int .i64 p3.1))
  have F8 := hid (Fr.of_set w7 w3.heap.size 3 (.int .i64 p3.1))
  have R8 := hid (F8.out.rows R7.out (by omega))
  have K8 := hid (F8.out.rows K7.out (by omega))
  have hkk : (rdH Bnd.own xs).1.k = p0.1 := by rw [HH.out]
  have G8 : Fr (fun k => w.heap.size ≤ k) w (w7.setCell ⟨w3.heap.size, 3, none⟩ (.int .i64 p3.1)) := by
    have g1 : Fr (fun k => w.heap.size ≤ k) w (w1.alloc (rdo c)) := Fr.of_below HBb.out
    have g2 := (g1.up (Fr.grown HG3.out) (by omega)).up (Fr.of_below HA4.out : Fr (fun k => k = c) _ _) (by omega)
    have g3 := (g2.up HF5.out (by omega)).up F6.out (by omega)
    exact (g3.up (Fr.grown HG7.out) (by omega)).up F8.out (by omega)
  have HG8 := hid G8
  clear G8
  go_wp2_with fail
  refine (told_any p0.1 _).mono ?_
  rintro e w9 ⟨vt, rfl, hFs, hbt, hfr⟩
  have hs9 := hbt.size
  simp only [size_set] at hs9 hfr
  have O9 := hid (O8.out.below hbt)
  have HC9 := hid (HC8.out.below hbt)
  have R9 := hid ((Fr.of_below hbt : Fr (fun k => k = c) _ _).rows R8.out (by omega))
  have K9 := hid ((Fr.of_below hbt : Fr (fun k => k = c) _ _).rows K8.out (by omega))
  have HG9 := hid (HG8.out.up (Fr.of_below hbt : Fr (fun k => k = c) _ _) (by omega))
  obtain ⟨ta, tc, hvt, htc, htm⟩ := Sl.form hFs
  obtain ⟨n, hn⟩ : ∃ n, (told p0.1).length = n := ⟨_, rfl⟩
  have HN := hid hn
  rw [hn] at hvt htc
  subst hvt
  have HFs := hid hFs
  have HFR := hid hfr
  unfold maxLen at htm
  clear hFs hbt hfr hn O8 HC8 R8 K8 O7 R7 K7 HC7 O6 R6 K6 K6a HC6 O5 R5 K5 HC5 O4 R4 K4 HC4 R3 K3 HC3 R2 K2 HC2 e0 e3 f3 N0 N1 N2 HG8 F8 HG7 F6 HF5 HG3 HB R0
  go_wp2
  go_loopw [26] (fun i wr => ∃ k : Nat, k ≤ n ∧ i = .int .i64 k ∧ Oi w.heap.size c wr w3.heap.size (rdK Bnd.own xs k).1 ∧ Cu wr c (rdK Bnd.own xs k).2 ∧ Fr (fun j => j = w3.heap.size ∨ j = c) w9 wr) (fun i _ => n - (intOf i).toNat)
  case atStart => exact ⟨0, Nat.zero_le _, rfl, ⟨.slice none 0 0, by rw [rdK_zero]; exact O9.out, Cs.nil _, fun h => absurd h (Nat.not_lt_zero _), fun k hk => by cases hk⟩, by rw [rdK_zero]; exact HC9.out, Fr.refl _ _⟩
  case round =>
    obtain ⟨k, hk, rfl, hok, hck, hfk⟩ := hrel
    have HOK := hid hok
    have HCK := hid hck
    have HFK := hid hfk
    have K10 := hid (hfk.rows K9.out (by omega))
    have R10 := hid (hfk.rows R9.out (by omega))
    have HG10 := hid (HG9.out.up hfk (by omega))
    have d4 := cell_of_row wr w1.heap.size 0 _ _ _ K10.out
    simp at d4
    clear hok hck hfk
    by_cases hlt : k < n
    · have hkl : k < (told p0.1).length := by rw [HN.out]; exact hlt
      have hkl' : k < (told (rdH Bnd.own xs).1.k).length := by rw [hkk]; exact hkl
      have hF : Fs wr (.slice ta n tc) (told p0.1) := Sl.kept HFs.out (fun j hj hjl => HFK.out.block j hjl (by have := HFR.out j hj; omega))
      obtain ⟨tb, toff, tc', hv', _, _, _, hcell⟩ := hF.inv (by omega)
      simp only [Value.slice.injEq] at hv'
      obtain ⟨rfl, -, rfl⟩ := hv'
      have g1 := hcell k hkl
      obtain ⟨f, hf⟩ : ∃ f, (told p0.1)[k] = f := ⟨_, rfl⟩
      rw [hf] at g1
      have hf8 : f ≤ 8 := by rw [← hf]; exact told_le _ _ (List.getElem_mem hkl)
      have hst : rdK Bnd.own xs (k + 1) = rdF Bnd.own f (rdK Bnd.own xs k) := by
        rw [rdK_step Bnd.own xs k hkl']
        simp only [hkk, hf]
      have HST := hid hst
      have HI := hid (field_r f hf8 w.heap.size c w3.heap.size (rdK Bnd.own xs k).1 (rdK Bnd.own xs k).2 wr (by have := HFK.out.size; omega) HOK.out HCK.out (by omega) (rdK_ok Bnd.own HBY.out k).1.1)
      have b1' : (k : Int) < (n : Int) := by omega
      clear hcell hF hf hst
      go_wp2_with fail
      refine HI.out.mono ?_
      rintro e w11 ⟨rfl, ho11, hc11, hf11⟩
      have HO11 := hid ho11
      have HC11 := hid hc11
      have HF11 := hid (HFK.out.trans hf11 (fun _ _ h => h))
      clear ho11 hc11 hf11 HI g1 d4
      go_wp2
      go_roundw
      case rel =>
        refine ⟨k + 1, by omega, by go_num, ?_, ?_, HF11.out⟩
        · rw [HST.out]; exact HO11.out
        · rw [HST.out]; exact HC11.out
      case measure => simp [intOf]; omega
    · have e1 : k = n := by omega
      have hall : rdK Bnd.own xs k = rdO Bnd.own xs := rdK_all Bnd.own xs k (by rw [hkk, HN.out]; omega)
      have hsh := (rdK_ok Bnd.own HBY.out k).2
      obtain ⟨r, hr⟩ : ∃ r, rdK Bnd.own xs k = r := ⟨_, rfl⟩
      rw [hr] at HOK HCK hall hsh
      have HR := hid hall
      have hfin : r.1.fine := ⟨by have := hsh.1; omega, by have := hsh.2.1; omega⟩
      have HFI := hid hfin
      obtain ⟨v, hob, hcs, hvb, hvB⟩ := HOK.out
      have HVB := hid hvB
      clear hvB
      have HOB := hid hob
      have HCS := hid hcs
      have hbel : Below w.heap.size w wr := HG10.out.below (fun j hj hs => by omega) (Nat.le_refl _)
      have HBE := hid hbel
      have hvf : ∃ va n vc, v = .slice va n vc := by
        obtain ⟨va, vc, e, _⟩ := hcs.form
        exact ⟨va, _, vc, e⟩
      have HVF := hid hvf
      clear hr hall hsh hfin hob hcs hvb hbel HOK hvf
      go_wp2_with fail
      refine (end_any c _ _ _ HCK.out).mono ?_
      rintro e w12 ⟨rfl, rfl⟩
      cases hE : (!r.2.2 && r.2.1.isEmpty)
      · have HE := hid hE
        clear hE
        go_wp2_with (first | (refine wpList_build_zero rfl rfl ?_) | (refine wpList_store_op rfl _ _ rfl _ rfl Opn.zero (.slice none 0 0) ⟨_, _, _, rfl⟩ rfl _ _ R10.out ?_))
        refine bodyPost_ret (results_op2 rfl _ _ rfl (b := w.heap.size) (o := Opn.zero) (v := .slice none 0 0) (setRow_heap _ _ _ _ _ _ R10.out)) rfl ?_
        have hd : dec = (Opn.zero, false) := by
          rw [← HD.out]
          unfold decO decB
          rw [← HR.out, HE.out]
          rfl
        rw [hd]
        exact ⟨_, rfl, Cs.nil _, HBE.out.trans ((Fr.of_row wr w.heap.size _).below (fun k hk e => by omega) HBE.out.size), fun k hk => by cases hk⟩
      · have HE := hid hE
        clear hE
        have HRI := hid (right_any r.1 v wr (HL.out.below HBE.out) HCS.out HFI.out)
        go_wp2_with (refine wpList_load_opg ?_ _ rfl _ rfl _ _ HOB.out ?_; (· kernel_rfl))
        refine HRI.out.mono ?_
        rintro e w13 ⟨rfl, hb13⟩
        have HB13 := hid hb13
        have HOB13 := hid (HOB.out.below hb13)
        have R13 := hid ((Fr.of_below hb13 : Fr (fun k => k = c) _ _).rows R10.out (by omega))
        have HCS13 := hid (HCS.out.below hb13)
        clear hb13
        cases hri : rightO r.1
        · have HRR := hid hri
          clear hri
          go_wp2_with (first | (refine wpList_build_zero rfl rfl ?_) | (refine wpList_store_op rfl _ _ rfl _ rfl Opn.zero (.slice none 0 0) ⟨_, _, _, rfl⟩ rfl _ _ R13.out ?_))
          refine bodyPost_ret (results_op2 rfl _ _ rfl (b := w.heap.size) (o := Opn.zero) (v := .slice none 0 0) (setRow_heap _ _ _ _ _ _ R13.out)) rfl ?_
          have hd : dec = (Opn.zero, false) := by
            rw [← HD.out]
            unfold decO decB
            rw [← HR.out, HE.out, HRR.out]
            rfl
          rw [hd]
          have hbl := bt HBE.out HB13.out
          exact ⟨_, rfl, Cs.nil _, hbl.trans ((Fr.of_row w13 w.heap.size _).below (fun k hk e => by omega) hbl.size), fun k hk => by cases hk⟩
        · have HRR := hid hri
          clear hri
          go_wp2_with (first | (refine wpList_load_op rfl _ rfl _ rfl _ _ HOB13.out ?_) | (refine wpList_store_op rfl _ _ rfl _ rfl r.1 v HVF.out rfl _ _ R13.out ?_))
          refine bodyPost_ret (results_op2 rfl _ _ rfl (b := w.heap.size) (o := r.1) (v := v) (setRow_heap _ _ _ _ _ _ R13.out)) rfl ?_
          have hd : dec = (r.1, true) := by
            rw [← HD.out]
            unfold decO decB
            rw [← HR.out, HE.out, HRR.out]
            rfl
          rw [hd]
          have hbl := bt HBE.out HB13.out
          refine ⟨_, rfl, ?_, hbl.trans ((Fr.of_row w13 w.heap.size _).below (fun k hk e => by omega) hbl.size), ?_⟩
          · exact HCS13.out.fr (Fr.of_row w13 w.heap.size _) (fun _ k hk e => by have := HVB.out k hk; omega)
          · intro k hk
            exact Nat.le_of_lt (HVB.out k hk)

end Go.Proofs.YteckjkblngmenaaDoor

/-
  A set of names as a map in memory: what a look-up and a store come to; an append to rows of whatever elements.
-/
namespace Go.Proofs.YteckjkblngmenaaDoor
open Go.RowKit
set_option linter.unusedVariables false
set_option maxRecDepth 100000

/-- A map's entries are these names, without a value. -/
def Ents (es : List MapEntry) (l : List (Int × Int)) : Prop := es.map (fun e => (e.key, e.val)) = l.map (fun x => (idv x.1 x.2, Value.agg #[]))

theorem equalIn_int (e : Nat) (a c : Int) (w : World) : (Op.equalIn (e + 1) 3 (.int .i64 a) (.int .i64 c)).run Tryd.prog w = .ok (a == c) w := by
  simp [Op.equalIn, run_underlying Tryd.underlying3]
theorem equalIn_id (e : Nat) (a b c d : Int) (w : World) : (Op.equalIn (e + 2) 52 (idv a b) (idv c d)).run Tryd.prog w = .ok (a == c && b == d) w := by
  have i1 := equalIn_int e a c w
  have i2 := equalIn_int e b d w
  cases h1 : (a == c)
  all_goals
    rw [h1] at i1
    rw [show e + 2 = (e + 1) + 1 from rfl, Op.equalIn]
    simp [run_underlying Tryd.underlying52, go_sem]
  · intro h; simp [h] at h1
  · simp at h1
    rw [if_pos h1]
    by_cases h2 : b = d
    · simp [h2]
    · simp [h2]
theorem equal_id (a b c d : Int) (w : World) : (Op.equal 52 (idv a b) (idv c d)).run Tryd.prog w = .ok (a == c && b == d) w := equalIn_id 9998 a b c d w


theorem find_asking (r n : Int) (w : World) : ∀ (es : List MapEntry) (l : List (Int × Int)) (i : Nat), Ents es l →
    ∃ o, (Instr.findAsking 52 (idv r n) es i).run Tryd.prog w = .ok o w ∧ (o.isSome = decide ((r, n) ∈ l)) ∧ ∀ j u, o = some (j, u) → u = .agg #[] := by
  intro es
  induction es with
  | nil =>
    intro l i h
    have : l = [] := by
      cases l with
      | nil => rfl
      | cons x l => simp [Ents] at h
    subst this
    exact ⟨none, rfl, by simp, fun j u h => by cases h⟩
  | cons e es ih =>
    intro l i h
    cases l with
    | nil => simp [Ents] at h
    | cons x l =>
      unfold Ents at h
      simp only [List.map_cons, List.cons.injEq, Prod.mk.injEq] at h
      obtain ⟨⟨hk, hv⟩, ht⟩ := h
      have he := equal_id r n x.1 x.2 w
      cases hc : (r == x.1 && n == x.2)
      · obtain ⟨o, h1, h2, h3⟩ := ih l (i + 1) ht
        refine ⟨o, ?_, ?_, h3⟩
        · unfold Instr.findAsking
          rw [hk, Sem.run_bind, he, hc]
          exact h1
        · rw [h2]
          have : (r, n) ≠ x := by
            intro e
            subst e
            simp at hc
          simp [this]
      · refine ⟨some (i, e.val), ?_, ?_, fun j u h => by simp at h; rw [← h.2]; exact hv⟩
        · unfold Instr.findAsking
          rw [hk, Sem.run_bind, he, hc]
          rfl
        · simp at hc
          have : (r, n) = x := by rw [hc.1, hc.2]
          simp [this]
theorem find_key (r n : Int) (w : World) (es : List MapEntry) (l : List (Int × Int)) (h : Ents es l) :
    ∃ o, (Instr.findKey 52 (idv r n) es).run Tryd.prog w = .ok o w ∧ (o.isSome = decide ((r, n) ∈ l)) ∧ ∀ j u, o = some (j, u) → u = .agg #[] := by
  unfold Instr.findKey
  rw [Sem.run_bind, run_underlying Tryd.underlying52]
  cases es with
  | nil =>
    have : l = [] := by
      cases l with
      | nil => rfl
      | cons x l => simp [Ents] at h
    subst this
    exact ⟨none, rfl, by simp, fun j u h => by cases h⟩
  | cons e es => exact find_asking r n w (e :: es) l 0 h
theorem check_key (b : Bool) (r n : Int) (w : World) : (Instr.checkKey b 10000 52 (idv r n)).run Tryd.prog w = .ok () w := by kernel_rfl

theorem Ents.push {es : Array MapEntry} {l : List (Int × Int)} (h : Ents es.toList l) (r n : Int) (c : Nat) : Ents (es.push ⟨idv r n, .agg #[], c⟩).toList (l ++ [(r, n)]) := by
  unfold Ents at h ⊢
  simp [h]
theorem Fr.of_put (w : World) (b : Nat) (o : Obj) : Fr (fun k => k = b) w (w.putObj b o) := ⟨rfl, rfl, rfl, by simp, fun k _ hn => World.putObj_heap_other hn⟩

/-- An append to a row of the call's own, whatever its elements. -/
theorem wpList_append_sl {w : World} {ops : Array Oper} {rest : List Oper} {o : Oper} {a : Act} {Q : Exit → Act → World → Prop} (t e : TypeId) (sz bytes : Nat) (z : Value) (ht : Tryd.prog.underlying t = some (.slice e))
    (hinfo : (Tryd.prog.info? e).map (fun i => (i.zero, i.size, i.bytes)) = some (some z, sz, bytes)) (hzs : z.cells.size = sz) (hsz : 0 < sz) (hgd : o.guard = none) (s x : Operand)
    (ho : o.op = .call { callee := .builtin .append, args := #[s, x], argTypes := #[t, t] })
    (base : Nat) (v : Value) (n : Nat) (cells : List Value) (hs : a.eval s = v) (hown : w.ownsRow base e sz v n cells) (u : Value) (m : Nat) (news : List Value) (hx : a.eval x = u) (hu : Sl sz w u m news) (h1c : ∀ u ∈ news, u.oneCell' = true)
    (hb : (n + m) * bytes ≤ 140737488355328) (hl : n + m ≤ maxLen) (hbase : base ≤ w.heap.size)
    (h : ∀ v' w', w'.ownsRow base e sz v' (n + m) (cells ++ news) → w.grownBy w' v.ownBlock → (v'.ownBlock = v.ownBlock ∨ v'.ownBlock = some w.heap.size) → wpList Tryd.prog ops Q rest (a.put o.dst v') w') :
    wpList Tryd.prog ops Q (o :: rest) a w := by
  obtain ⟨i0, hi, hz0, hz1, hz2⟩ := info_parts hinfo
  obtain ⟨A, c, rfl, _, _⟩ := hu.form
  cases A with
  | none =>
    obtain ⟨rfl, rfl, rfl⟩ := hu.none_nil
    refine wpList_append_own_none hgd s x t ho base e i0 sz ht hi v n cells hs hown hx ?_
    exact h v w (by simpa using hown) ⟨rfl, rfl, rfl, Nat.le_refl _, fun _ _ _ => rfl⟩ (Or.inl rfl)
  | some A =>
    refine wpList_append_own_at _ hgd s x t ho base e i0 z sz bytes ht hi hz0 hz1 hz2 hzs hsz v n cells hs hown A m c news hx hu.1 hu.cells_at h1c hl hb hbase ?_
    intro v' w' h1 h2 _ h4
    exact h v' w' h1 h2 h4

end Go.Proofs.YteckjkblngmenaaDoor

/-
  What the function inside Needs does, for all names: proved here by what the map and the list hold behind it.
-/
namespace Go.Proofs.YteckjkblngmenaaDoor
open Go.RowKit
set_option linter.unusedVariables false
set_option maxRecDepth 100000

/-- A name, noted. -/
def noteL (l : List (Int × Int)) (x : Int × Int) : List (Int × Int) := if x ∈ l ∨ x.2 = 0 then l else l ++ [x]

theorem heap_lt {w : World} {k : Nat} {o : Obj} (h : w.heap[k]? = some o) : k < w.heap.size := (Array.getElem?_eq_some_iff.1 h).1
theorem own_below2 {w w' : World} {base e sz : Nat} {v : Value} {n : Nat} {xs : List Value} (h : w.ownsRow base e sz v n xs) (hb : ∀ k, v.ownBlock = some k → w'.heap[k]? = w.heap[k]?) : w'.ownsRow base e sz v n xs := by
  refine ⟨h.1, ?_⟩
  rcases h.2 with h0 | ⟨g, cap, cur, rfl, hg, hh, r⟩
  · exact .inl h0
  · exact .inr ⟨g, cap, cur, rfl, hg, by rw [hb g rfl]; exact hh, r⟩
theorem info_id : (Tryd.prog.info? 52).map (fun i => (i.zero, i.size, i.bytes)) = some (some (idv 0 0), 2, 16) := by kernel_rfl

theorem noteL_len (l : List (Int × Int)) (x : Int × Int) : (noteL l x).length ≤ l.length + 1 := by
  unfold noteL
  split <;> simp
theorem own_shape {w : World} {B e sz n : Nat} {v : Value} {xs : List Value} (h : w.ownsRow B e sz v n xs) : ∃ a c, v = .slice a n c := by
  rcases h.2 with ⟨rfl, h0⟩ | ⟨g, cap, cur, rfl, _⟩
  · exact ⟨none, 0, by rw [h0]⟩
  · exact ⟨_, _, rfl⟩
theorem id_cells (l : List (Int × Int)) : ∀ u ∈ l.flatMap idc, u.oneCell' = true := by
  intro u hu
  obtain ⟨x, _, hx⟩ := List.mem_flatMap.1 hu
  simp [idc] at hx
  rcases hx with rfl | rfl <;> rfl

end Go.Proofs.YteckjkblngmenaaDoor

/-
  A whole op, boxed: for the walk.
-/
namespace Go.Proofs.YteckjkblngmenaaDoor
open Go.RowKit
set_option linter.unusedVariables false
set_option maxRecDepth 100000

/-- A whole op, boxed: the world behind it by a name. -/
theorem wpList_box_op {ops : Array Oper} {rest : List Oper} {p : Oper} {a : Act} {w : World} {Q : Exit → Act → World → Prop} (hgd : p.guard = none) (x : Operand) (ho : p.op = .box 57 x) (A : Value) (hx : a.eval x = A) (o : Opn) (v : Value) (hA : A = opv o v)
    (hk : ∀ w', Ob w' w.heap.size o v → Below w.heap.size w w' → w.heap.size < w'.heap.size → wpList Tryd.prog ops Q rest (a.put p.dst (.pointer (some ⟨w.heap.size, 0, none⟩))) w') : wpList Tryd.prog ops Q (p :: rest) a w := by
  subst hA
  have h := hk (w.alloc (opo o v)) (Ob.new w o v) (ba w _) (by simp)
  refine wpList_plain hgd fun K hK => ?_
  unfold Oper.wp execOp
  simp only [ho, hx]
  simp [Instr.box, go_sem]
  exact hK _ _ h

end Go.Proofs.YteckjkblngmenaaDoor

/-
  What Needs answers is proved here, for all ops of at most 100,000 cuts.
-/
namespace Go.Proofs.YteckjkblngmenaaDoor
open Go.RowKit
set_option linter.unusedVariables false
set_option maxRecDepth 100000

def fiveO (o : Opn) : List (Int × Int) := [(o.br, o.bm), (o.pr, o.pm), (o.sr, o.sm), (o.lr, o.lm), (o.gr, o.gm)]
def cutsN (l : List Ct) : List (Int × Int) := l.map (fun c => (c.r, c.n))
def needsO (o : Opn) : List (Int × Int) := (fiveO o ++ cutsN o.cuts).foldl noteL []
theorem fold_len (xs : List (Int × Int)) : ∀ l, (xs.foldl noteL l).length ≤ l.length + xs.length := by
  induction xs with
  | nil => intro l; simp
  | cons x xs ih =>
    intro l
    rw [List.foldl_cons, List.length_cons]
    have := ih (noteL l x)
    have := noteL_len l x
    omega
theorem fold_step (xs : List (Int × Int)) (k : Nat) (hk : k < xs.length) : (xs.take (k + 1)).foldl noteL [] = noteL ((xs.take k).foldl noteL []) xs[k] := by
  rw [List.take_succ_eq_append_getElem hk, List.foldl_append]
  rfl

/-- As it was below B, which is there. -/
structure Up (B : Nat) (w w' : World) : Prop where
  b : Below B w w'
  le : B ≤ w.heap.size
theorem Up.size6 {B : Nat} {w w' : World} (h : Up B w w') : B ≤ w'.heap.size := Nat.le_trans h.le h.b.size

end Go.Proofs.YteckjkblngmenaaDoor

/-
  The op that the law fixes: what fold answers, its bytes, what it names.
-/
namespace Go.Proofs.YteckjkblngmenaaDoor
open Go.RowKit
set_option linter.unusedVariables false
set_option maxRecDepth 100000

def foldO : Opn := ⟨6, 1, 2, 3, 0, 1, 0, 0, ⟨#[]⟩, 0, 0, 0, 0, 0, 0, 0, 0, ⟨#[]⟩, [], true⟩
abbrev foldc : Array Value := #[.int .i64 6, .int .i64 1, .int .i64 2, .int .i64 3, .int .i64 0, .int .i64 1, .int .i64 0, .int .i64 0, .string ⟨#[]⟩, .int .i64 0, .int .i64 0, .int .i64 0, .int .i64 0, .int .i64 0, .int .i64 0, .int .i64 0, .int .i64 0, .string ⟨#[]⟩, .slice none 0 0, .bool true]
theorem fold_right : rightO foldO = true := by decide
theorem fold_enc : encO foldO = [6, 1, 2, 3, 0, 1, 1] := by decide
theorem fold_dec : decO Bnd.own [6, 1, 2, 3, 0, 1, 1] = (foldO, true) := by rw [← fold_enc]; exact decO_full own_ok fold_right
theorem fold_needs : needsO foldO = [(0, 1)] := by decide
theorem fold_fine : foldO.fine := ⟨by decide, by decide⟩

theorem built_fold : Tryd.prog.built 57 [(0, .int .i64 6), (1, idv 1 2), (2, .int .i64 3), (3, idv 0 1), (11, .bool true)] = some foldc := by kernel_rfl
theorem wpList_build_fold {ops : Array Oper} {rest : List Oper} {p : Oper} {a : Act} {w : World} {Q : Exit → Act → World → Prop} (hgd : p.guard = none) (x y z u v : Operand) (ho : p.op = .build 57 #[(0, x), (1, y), (2, z), (3, u), (11, v)])
    (h0 : a.eval x = .int .i64 6) (h1 : a.eval y = idv 1 2) (h2 : a.eval z = .int .i64 3) (h3 : a.eval u = idv 0 1) (h4 : a.eval v = .bool true)
    (hk : wpList Tryd.prog ops Q rest (a.put p.dst (.agg foldc)) w) : wpList Tryd.prog ops Q (p :: rest) a w := by
  have e : (Array.map (fun ((i, x) : Nat × Operand) => (i, a.eval x)) #[(0, x), (1, y), (2, z), (3, u), (11, v)]).toList = [(0, .int .i64 6), (1, idv 1 2), (2, .int .i64 3), (3, idv 0 1), (11, .bool true)] := by simp [h0, h1, h2, h3, h4]
  refine wpList_build hgd 57 #[(0, x), (1, y), (2, z), (3, u), (11, v)] ho ?_ ?_
  · rw [e, built_fold]; rfl
  · rw [e, built_fold]; exact hk
theorem wpList_store_fold {ops : Array Oper} {rest : List Oper} {p : Oper} {a : Act} {W : World} {Q : Exit → Act → World → Prop} (hgd : p.guard = none) (x y : Operand) (ho : p.op = .store 57 x y) (k0 : Int)
    (hx : a.eval x = .pointer (some ⟨W.heap.size, 0, none⟩)) (hy : a.eval y = .agg foldc)
    (hk : wpList Tryd.prog ops Q rest (a.put p.dst undef) (W.alloc (.cells foldc 57))) : wpList Tryd.prog ops Q (p :: rest) a (W.alloc (.cells (zopc k0) 57)) :=
  wpList_store_opn hgd x y ho (zopc k0) foldc hx hy rfl rfl (by simp [Value.oneCell']) hk

end Go.Proofs.YteckjkblngmenaaDoor

/-
  A file in memory ('Fi'), what may change while it is used ('Fx'), and what slices.Clone returns, for all slices that read as bytes.
-/
namespace Go.Proofs.YteckjkblngmenaaDoor
open Go.RowKit
set_option linter.unusedVariables false
set_option maxRecDepth 100000

/-- The bytes' range. -/
def Byt (xs : List Int) : Prop := ∀ x ∈ xs, 0 ≤ x ∧ x < 256
theorem Byt.append {xs ys : List Int} (h : Byt xs) (k : Byt ys) : Byt (xs ++ ys) := fun x hx => (List.mem_append.1 hx).elim (h x) (k x)
theorem Byt.take {xs : List Int} (h : Byt xs) (n : Nat) : Byt (xs.take n) := fun x hx => h x (List.mem_of_mem_take hx)
theorem Byt.nil : Byt [] := fun x hx => by cases hx

abbrev Ow (B : Nat) (w : World) (v : Value) (xs : List Int) : Prop := w.ownsRow B 5 1 v xs.length (cs xs)

theorem Ow.mono {B C : Nat} {w : World} {v : Value} {xs : List Int} (h : Ow B w v xs) (hc : C ≤ B) : Ow C w v xs := by
  refine ⟨h.1, ?_⟩
  rcases h.2 with h0 | ⟨g, cap, cur, hv, hg, r⟩
  · exact .inl h0
  · exact .inr ⟨g, cap, cur, hv, Nat.le_trans hc hg, r⟩
theorem Ow.nil (B : Nat) (w : World) : Ow B w (.slice none 0 0) [] := World.ownsRow_nil _ _ _ _
theorem Ow.form {B : Nat} {w : World} {v : Value} {xs : List Int} (h : Ow B w v xs) : ∃ a c, v = .slice a xs.length c ∧ xs.length ≤ c := own_form h
/-- A cut up to l. -/
theorem Ow.take {B : Nat} {w : World} {a : Option Addr} {n c : Nat} {xs : List Int} (h : Ow B w (.slice a n c) xs) (l : Nat) (hl : l ≤ xs.length) : Ow B w (.slice a l c) (xs.take l) := by
  have hlen : (xs.take l).length = l := by rw [List.length_take]; omega
  unfold Ow
  rw [hlen]
  refine ⟨by simp [hl], ?_⟩
  rcases h.2 with ⟨h0, h1⟩ | ⟨g, cap, cur, hv, hg, hh, h3, h4, h5, h6⟩
  · simp only [Value.slice.injEq] at h0
    obtain ⟨rfl, _, rfl⟩ := h0
    have : l = 0 := by omega
    subst this
    exact .inl ⟨rfl, rfl⟩
  · simp only [Value.slice.injEq] at hv
    obtain ⟨rfl, _, rfl⟩ := hv
    refine .inr ⟨g, c, cur, rfl, hg, hh, by omega, h4, h5, ?_⟩
    have : cs (xs.take l) = (cs xs).take l := by simp [cs, List.map_take]
    rw [this, ← h6, List.take_take]
    congr 1
    omega
theorem Ow.of_block {B : Nat} {w w' : World} {v : Value} {xs : List Int} (h : Ow B w v xs) (hb : ∀ k, v.ownBlock = some k → w'.heap[k]? = w.heap[k]?) : Ow B w' v xs := by
  refine ⟨h.1, ?_⟩
  rcases h.2 with h0 | ⟨g, cap, cur, hv, hg, hh, r⟩
  · exact .inl h0
  · exact .inr ⟨g, cap, cur, hv, hg, by rw [hb g (by rw [hv]; rfl)]; exact hh, r⟩
theorem Ow.far {B : Nat} {w : World} {v : Value} {xs : List Int} (h : Ow B w v xs) {k : Nat} {c : Array Value} {T : TypeId} {fr : Nat × Nat} (hk : w.heap[k]? = some (.cells c T fr)) (hT : T ≠ 5) : v.ownBlock ≠ some k := by
  intro e
  rcases h.2 with ⟨rfl, _⟩ | ⟨g, cap, cur, rfl, _, hg, _⟩
  · cases e
  · simp [Value.ownBlock] at e
    subst e
    rw [hg] at hk
    simp at hk
    exact hT hk.2.1.symm
theorem Ow.bs {B : Nat} {w : World} {v : Value} {xs : List Int} (h : Ow B w v xs) (hr : Byt xs) : Bs w v xs := Bs.of_own h hr

/-- A file's block, whose row of bytes is the call's own. -/
def Fi (B : Nat) (w : World) (b : Nat) (v : Value) (xs : List Int) (n R : Nat) : Prop :=
  w.heap[b]? = some (.cells #[v, .int .i64 n, .int .i64 R] 70 (0, 0)) ∧ B ≤ b ∧ Ow B w v xs ∧ Byt xs ∧ n ≤ R ∧ xs.length ≤ R ∧ R ≤ 1048576
/-- What a file's use changes: its block, its row's. -/
def Fx (b : Nat) (v v' : Value) (w w' : World) : Prop :=
  Fr (fun k => k = b ∨ v.ownBlock = some k) w w' ∧ ∀ k, v'.ownBlock = some k → v.ownBlock = some k ∨ w.heap.size ≤ k
theorem Fx.refl (b : Nat) (v : Value) (w : World) : Fx b v v w w := ⟨Fr.refl _ _, fun _ h => .inl h⟩
theorem Fx.of_below {b : Nat} {v : Value} {w w' : World} (h : Below w.heap.size w w') : Fx b v v w w' := ⟨Fr.of_below h, fun _ h => .inl h⟩
theorem Fx.drewN {b : Nat} {v v' : Value} {w w' : World} (h : Fx b v v' w w') (m : Nat) : Fx b v v' w (w'.drewN m) := ⟨h.1.drewN m, h.2⟩
theorem Fx.size {b : Nat} {v v' : Value} {w w' : World} (h : Fx b v v' w w') : w.heap.size ≤ w'.heap.size := h.1.size
theorem Fx.trans {b : Nat} {u v x : Value} {w w1 w2 : World} (h : Fx b u v w w1) (k : Fx b v x w1 w2) : Fx b u x w w2 := by
  refine ⟨h.1.trans k.1 ?_, ?_⟩
  · intro i hi hs
    rcases hs with hs | hs
    · exact .inl hs
    · rcases h.2 i hs with e | e
      · exact .inr e
      · omega
  · intro i hi
    have := h.1.size
    rcases k.2 i hi with e | e
    · exact h.2 i e
    · exact .inr (by omega)
theorem Fx.block {b : Nat} {v v' : Value} {w w' : World} (h : Fx b v v' w w') {k : Nat} (hk : k < w.heap.size) (hb : k ≠ b) (hv : v.ownBlock ≠ some k) : w'.heap[k]? = w.heap[k]? := h.1.block k hk (fun h => h.elim hb hv)
theorem Fi.lt {B : Nat} {w : World} {b : Nat} {v : Value} {xs : List Int} {n R : Nat} (h : Fi B w b v xs n R) : b < w.heap.size := (Array.getElem?_eq_some_iff.1 h.1).1
theorem Fi.own {B : Nat} {w : World} {b : Nat} {v : Value} {xs : List Int} {n R : Nat} (h : Fi B w b v xs n R) : Ow B w v xs := h.2.2.1
theorem Fi.byt {B : Nat} {w : World} {b : Nat} {v : Value} {xs : List Int} {n R : Nat} (h : Fi B w b v xs n R) : Byt xs := h.2.2.2.1
theorem Fi.ne {B : Nat} {w : World} {b : Nat} {v : Value} {xs : List Int} {n R : Nat} (h : Fi B w b v xs n R) : v.ownBlock ≠ some b := h.own.far h.1 (by decide)
theorem Fi.nums {B : Nat} {w : World} {b : Nat} {v : Value} {xs : List Int} {n R : Nat} (h : Fi B w b v xs n R) : n ≤ R ∧ xs.length ≤ R ∧ R ≤ 1048576 := h.2.2.2.2
theorem Fi.bs {B : Nat} {w : World} {b : Nat} {v : Value} {xs : List Int} {n R : Nat} (h : Fi B w b v xs n R) : Bs w v xs := h.own.bs h.byt
/-- Where nothing of it is changed. -/
theorem Fi.of_block {B : Nat} {w w' : World} {b : Nat} {v : Value} {xs : List Int} {n R : Nat} (h : Fi B w b v xs n R) (hb : ∀ k, k = b ∨ v.ownBlock = some k → w'.heap[k]? = w.heap[k]?) : Fi B w' b v xs n R :=
  ⟨by rw [hb b (.inl rfl)]; exact h.1, h.2.1, h.own.of_block (fun k hk => hb k (.inr hk)), h.2.2.2⟩
theorem Fi.below {B : Nat} {w w' : World} {b : Nat} {v : Value} {xs : List Int} {n R : Nat} (h : Fi B w b v xs n R) (hb : Below w.heap.size w w') : Fi B w' b v xs n R :=
  h.of_block (fun k hk => hb.block k (by
    rcases hk with rfl | hk
    · exact h.lt
    · exact (h.own.lt k hk).2))
theorem Fi.drewN {B : Nat} {w : World} {b : Nat} {v : Value} {xs : List Int} {n R : Nat} (h : Fi B w b v xs n R) (m : Nat) : Fi B (w.drewN m) b v xs n R := h
/-- What the walk reads. -/
theorem Fi.cells {B : Nat} {w : World} {b : Nat} {v : Value} {xs : List Int} {n R : Nat} (h : Fi B w b v xs n R) :
    ∃ a c, v = .slice a xs.length c ∧ xs.length ≤ c ∧ w.cell? ⟨b, 0, none⟩ = some (.slice a xs.length c) ∧ w.cell? ⟨b, 1, none⟩ = some (.int .i64 n) ∧ w.cell? ⟨b, 2, none⟩ = some (.int .i64 R) ∧ w.frozen? ⟨b, 0, none⟩ = false ∧ w.frozen? ⟨b, 1, none⟩ = false := by
  obtain ⟨a, c, e, hc⟩ := h.own.form
  refine ⟨a, c, e, hc, ?_, ?_, ?_, frozen_of_row w b 0 _ _ h.1, frozen_of_row w b 1 _ _ h.1⟩
  · rw [cell_of_row w b 0 _ _ _ h.1, ← e]; rfl
  · rw [cell_of_row w b 1 _ _ _ h.1]; rfl
  · rw [cell_of_row w b 2 _ _ _ h.1]; rfl
/-- All that a file's use changes is new. -/
theorem Fx.below {b C : Nat} {v v' : Value} {w w' : World} (h : Fx b v v' w w') (hC : C ≤ w.heap.size) (hb : C ≤ b) (hv : ∀ k, v.ownBlock = some k → C ≤ k) : Below C w w' :=
  h.1.below (fun k hk hs => by
    rcases hs with e | e
    · omega
    · have := hv k e; omega) hC
theorem Fi.fr {B b : Nat} {v v' : Value} {w0 w' : World} {xs : List Int} {n R : Nat} (h : Fi B w0 b v xs n R) (k : Fx b v v' w0 w') (hB : B ≤ w0.heap.size) : Below B w0 w' := k.below hB h.2.1 (fun i hi => (h.own.lt i hi).1)
/-- A store of the row, in a world in which the row was changed alone. -/
theorem Fi.put {B : Nat} {w w' : World} {b : Nat} {v v' : Value} {xs ys : List Int} {n R : Nat} (h : Fi B w b v xs n R) (hown : Ow B w' v' ys) (hfr : Fr (fun k => v.ownBlock = some k) w w') (hy : Byt ys) (hl : ys.length ≤ R)
    (hv : ∀ k, v'.ownBlock = some k → v.ownBlock = some k ∨ w.heap.size ≤ k) : Fi B (w'.setCell ⟨b, 0, none⟩ v') b v' ys n R ∧ Fx b v v' w (w'.setCell ⟨b, 0, none⟩ v') := by
  have hne := h.ne
  have hb' : w'.heap[b]? = some (.cells #[v, .int .i64 n, .int .i64 R] 70 (0, 0)) := by rw [hfr.block b h.lt hne]; exact h.1
  have hne' : v'.ownBlock ≠ some b := by
    intro e
    rcases hv b e with e | e
    · exact hne e
    · have := h.lt; omega
  refine ⟨⟨by rw [heap_setCell_same w' b 0 _ _ v' hb']; simp, h.2.1, ownsRow_setCell_other hown hne' _, hy, h.nums.1, hl, h.nums.2.2⟩, ?_, hv⟩
  exact (hfr.mono (fun k e => .inr e)).trans ((Fr.of_set w' b 0 v').mono (fun k e => .inl e)) (fun _ _ h => h)
/-- A store of how many are synced. -/
theorem Fi.mark {B : Nat} {w : World} {b : Nat} {v : Value} {xs : List Int} {n R : Nat} (h : Fi B w b v xs n R) (m : Nat) (hm : m ≤ R) :
    Fi B (w.setCell ⟨b, 1, none⟩ (.int .i64 m)) b v xs m R ∧ Fx b v v w (w.setCell ⟨b, 1, none⟩ (.int .i64 m)) :=
  ⟨⟨by rw [heap_setCell_same w b 1 _ _ _ h.1]; simp, h.2.1, ownsRow_setCell_other h.own h.ne _, h.byt, hm, h.nums.2.1, h.nums.2.2⟩, (Fr.of_set w b 1 _).mono (fun k e => .inl e), fun _ h => .inl h⟩

/-- What calls on a file answer (an error's number, the bytes, how many are synced). -/
def appS (R : Nat) (ys xs : List Int) (n : Nat) : Int × List Int × Nat := if xs.length + ys.length ≤ R then (0, xs ++ ys, n) else (14, xs, n)
def repS (R : Nat) (ys xs : List Int) (n : Nat) : Int × List Int × Nat := if ys.length ≤ R then (0, ys, ys.length) else (14, xs, n)
def trimS (k : Int) (xs : List Int) (n : Nat) : Int × List Int × Nat := if 0 ≤ k ∧ k ≤ xs.length then (0, xs.take k.toNat, min n k.toNat) else (11, xs, n)
/-- How many a crash leaves. -/
def left (k : Int) (xs : List Int) (n : Nat) : Nat := n + min k.toNat (xs.length - n)
def crashS (k : Int) (xs : List Int) (n : Nat) : Int × List Int × Nat := (0, xs.take (left k xs n), left k xs n)
/-- A call on a file did this. -/
def Fo (B b R : Nat) (v : Value) (w : World) (r : Int × List Int × Nat) (w' : World) : Prop := ∃ v', Fi B w' b v' r.2.1 r.2.2 R ∧ Fx b v v' w w'
theorem Fo.mk {B b R : Nat} {v v' : Value} {w w' : World} {r : Int × List Int × Nat} {xs : List Int} {n : Nat} {z : Int} (h : Fi B w' b v' xs n R) (k : Fx b v v' w w') (hr : r = (z, xs, n)) : Fo B b R v w r w' := by subst hr; exact ⟨v', h, k⟩
def Fe (r : Int × List Int × Nat) (e : Ending) : Prop := e = .returned (.int .i64 r.1)
theorem Fe.mk {r : Int × List Int × Nat} {xs : List Int} {n : Nat} {z : Int} (hr : r = (z, xs, n)) : Fe r (.returned (.int .i64 z)) := by subst hr; rfl

theorem Fe.out {r : Int × List Int × Nat} {xs : List Int} {n : Nat} {z : Int} {e : Ending} (h : Fe r e) (hr : r = (z, xs, n)) : e = .returned (.int .i64 z) := by subst hr; exact h
theorem Fo.out {B b R : Nat} {v : Value} {w w' : World} {r : Int × List Int × Nat} {xs : List Int} {n : Nat} {z : Int} (h : Fo B b R v w r w') (hr : r = (z, xs, n)) : ∃ v', Fi B w' b v' xs n R ∧ Fx b v v' w w' := by subst hr; exact h

set_option maxHeartbeats 1000000 in
theorem sclone_any (v : Value) (xs : List Int) (w : World) (h : Bs w v xs) (hn : xs.length ≤ 140737488355328) :
    Calls Tryd.prog 43 #[v] w fun e w' => ∃ v', e = .returned v' ∧ Ow w.heap.size w' v' xs ∧ Below w.heap.size w w' := by
  have h' := h
  obtain ⟨a, c, rfl, _⟩ := h
  cases a with
  | none =>
    obtain ⟨rfl, -, rfl⟩ := h'.none_nil
    clear h'
    have q : ∀ (w : World) (n c : Nat), (binOp .eql 45 (.slice none n c) (.slice none 0 0)).run Tryd.prog w = .ok (.bool true) w := fun _ _ _ => rfl
    go_enter Tryd.func43, Tryd.ntmps43
    go_wp2
    go_ret
    exact ⟨_, rfl, Ow.nil _ _, Below.refl _ _⟩
  | some A =>
    have q : ∀ w : World, (binOp .eql 45 (.slice (some A) xs.length c) (.slice none 0 0)).run Tryd.prog w = .ok (.bool false) w := fun _ => rfl
    have HB := hid h'
    clear h'
    have hown0 : (w.alloc (.cells #[] 5)).ownsRow w.heap.size 5 1 (.slice (some ⟨w.heap.size, 0, none⟩) 0 0) 0 (cs []) := World.ownsRow_made w #[] 0 (Nat.le_refl _) (Nat.zero_le _) rfl
    go_enter Tryd.func43, Tryd.ntmps43
    go_wp2_with (at_builtin; refine wpList_append_bs rfl (.tmp 5) (.tmp 6) rfl w.heap.size (.slice (some ⟨w.heap.size, 0, none⟩) 0 0) 0 [] rfl hown0 _ xs rfl (HB.out.below (ba _ _)) (by omega) (by simp) ?_; intro v' w1 hown hgrow _)
    have hb : Below w.heap.size w w1 := (ba w _).grown hgrow (by simp) (by intro k hk; simp [Value.ownBlock] at hk; omega)
    have hO : Ow w.heap.size w1 v' xs := by simpa [Ow] using hown
    clear hown hgrow hown0
    go_wp2
    go_ret
    exact ⟨_, rfl, hO, hb⟩

end Go.Proofs.YteckjkblngmenaaDoor
