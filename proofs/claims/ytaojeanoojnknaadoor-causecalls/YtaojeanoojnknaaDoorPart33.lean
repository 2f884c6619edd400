/-
  Parts of the proof, one behind the other; what each proves stands at its head.
-/
import Derived.Test.YtaojeanoojnknaaDoorPart28
import Derived.RangeFuncNested
import Derived.RangeFuncBox
import Derived.RangeFuncLeaves
import Derived.Shelf.Abstract
import Derived.Sort.MapsRangeIn
import Derived.WalkKit
import Derived.OwnWalkIn
import Derived.TacticsInMore
import Derived.LoopNIn
import Derived.LoopIn
import Derived.Maps.AppendAt

/-
  The steps of a range over a map whose keys are names; what maps.Keys hands back gives the names, each once, to every round that keeps its word.
-/
namespace Go.Proofs.YtaojeanoojnknaaDoor
open Go.RowKit Go.Shelf
open Go.ChangeMaps (setBlock)
set_option linter.unusedVariables false
set_option maxRecDepth 100000

attribute [local go_sem] Oper.semAt_some

def idOf : Value → Int × Int
  | .agg #[.int _ a, .int _ b] => (a, b)
  | _ => (0, 0)
theorem Em.ids {es : List MapEntry} {l : List Ent} (h : Em es l) : es.map (fun e => idOf e.key) = l.map (·.1) := by
  unfold Em at h
  have := congrArg (List.map (fun p : Value × Value => idOf p.1)) h
  rw [List.map_map, List.map_map] at this
  exact this
theorem Em.key {es : List MapEntry} {l : List Ent} (h : Em es l) {e : MapEntry} (he : e ∈ es) : e.key = idv (idOf e.key).1 (idOf e.key).2 := by
  have : (e.key, e.val) ∈ es.map (fun e => (e.key, e.val)) := List.mem_map_of_mem he
  rw [h, List.mem_map] at this
  obtain ⟨x, _, hx⟩ := this
  simp only [Prod.mk.injEq] at hx
  rw [← hx.1]
  rfl
theorem left_list (es : Array MapEntry) (seen : Array Nat) : (leftOf es seen).toList = es.toList.filter (fun e => !seen.contains e.born) := by simp [leftOf]
theorem filter_one {p q : MapEntry → Bool} {e : MapEntry} : ∀ {l : List MapEntry}, (l.map (·.born)).Nodup → e ∈ l → p e = true → (∀ x, q x = (p x && x.born != e.born)) → (l.filter p).Perm (e :: l.filter q)
  | [], _, he, _, _ => by cases he
  | x :: l, hn, he, hp, hq => by
    have hn' := List.nodup_cons.1 (by simpa using hn : (x.born :: l.map (·.born)).Nodup)
    rcases List.mem_cons.1 he with rfl | he
    · have e1 : q e = false := by rw [hq]; simp
      have e2 : l.filter q = l.filter p := by
        apply List.filter_congr
        intro y hy
        have : y.born ≠ e.born := fun h => hn'.1 (by rw [← h]; exact List.mem_map_of_mem hy)
        rw [hq]
        simp [this]
      rw [List.filter_cons, if_pos hp, List.filter_cons, if_neg (by simp [e1]), e2]
    · have ih := filter_one hn'.2 he hp hq
      have hx : x.born ≠ e.born := fun h => hn'.1 (by rw [h]; exact List.mem_map_of_mem he)
      by_cases hpx : p x = true
      · have e1 : q x = true := by rw [hq]; simp [hpx, hx]
        rw [List.filter_cons, if_pos hpx, List.filter_cons, if_pos e1]
        exact (ih.cons x).trans (List.Perm.swap e x _)
      · have e1 : ¬ q x = true := by rw [hq]; simp [hpx]
        rw [List.filter_cons, if_neg hpx, List.filter_cons, if_neg e1]
        exact ih
theorem push_contains (seen : Array Nat) (b x : Nat) : (seen.push b).contains x = (seen.contains x || x == b) := by
  rw [Bool.eq_iff_iff]
  simp
theorem left_step {es : Array MapEntry} {seen : Array Nat} {e : MapEntry} (hn : (es.toList.map (·.born)).Nodup) (he : e ∈ (leftOf es seen).toList) :
    (leftOf es seen).toList.Perm (e :: (leftOf es (seen.push e.born)).toList) := by
  rw [left_list, List.mem_filter] at he
  rw [left_list, left_list]
  refine filter_one hn he.1 he.2 (fun x => ?_)
  rw [push_contains]
  simp
  rfl
theorem step_grown {w w1 : World} (hal : w1 = w ∨ w1 = w.drew) (r : Nat) (o : Obj) : w.grownBy (setBlock w1 r o) (some r) := by
  rcases hal with rfl | rfl <;> exact ⟨rfl, rfl, rfl, by simp [setBlock], fun k _ hk => by simp only [setBlock]; rw [Array.getElem?_setIfInBounds_ne (fun e => hk (by rw [e]))] <;> rfl⟩
theorem step_heap {w w1 : World} (hal : w1 = w ∨ w1 = w.drew) {r : Nat} (o : Obj) (hr : r < w.heap.size) : (setBlock w1 r o).heap[r]? = some o := by
  rcases hal with rfl | rfl <;> simp [setBlock, hr]

def LfIn (es : Array MapEntry) (seen : Array Nat) (e : MapEntry) : Prop := e ∈ (leftOf es seen).toList
def LfNone (es : Array MapEntry) (seen : Array Nat) : Prop := (leftOf es seen).size = 0

/-- A range under way. -/
structure Rn (w : World) (mb r : Nat) (L : List Ent) (es : Array MapEntry) (c : Nat) (seen : Array Nat) : Prop where
  mp : Mp w mb L es c
  it : ∃ c0, w.heap[r]? = some (.mapIter (some mb) c seen c0) ∧ c ≤ c0
  ne : r ≠ mb
theorem Rn.lt {w : World} {mb r : Nat} {L : List Ent} {es : Array MapEntry} {c : Nat} {seen : Array Nat} (h : Rn w mb r L es c seen) : r < w.heap.size := by
  obtain ⟨c0, h, _⟩ := h.it
  exact (Array.getElem?_eq_some_iff.1 h).1
theorem Rn.left {w : World} {mb r : Nat} {L : List Ent} {es : Array MapEntry} {c : Nat} {seen : Array Nat} (h : Rn w mb r L es c seen) : w.rangeLeft mb r = (leftOf es seen).size := by
  obtain ⟨c0, hi, _⟩ := h.it
  simp [World.rangeLeft, h.mp.at', hi]
theorem Rn.below {w w' : World} {mb r : Nat} {L : List Ent} {es : Array MapEntry} {c : Nat} {seen : Array Nat} (h : Rn w mb r L es c seen) (hb : Below w.heap.size w w') : Rn w' mb r L es c seen := by
  obtain ⟨c0, hi, hc⟩ := h.it
  exact ⟨h.mp.below hb, ⟨c0, by rw [hb.block r h.lt]; exact hi, hc⟩, h.ne⟩
theorem Rn.walks {w w' : World} {mb r : Nat} {L : List Ent} {es : Array MapEntry} {c : Nat} {seen : Array Nat} (h : Rn w mb r L es c seen) (hk : KeepsWalks w w') : Rn w' mb r L es c seen := by
  obtain ⟨c0, hi, hc⟩ := h.it
  refine ⟨h.mp.kept ?_, ⟨c0, hk.same r _ hi rfl, hc⟩, h.ne⟩
  rw [hk.same mb _ h.mp.at' rfl, h.mp.at']
theorem Rn.start {w : World} {mb : Nat} {L : List Ent} {es : Array MapEntry} {c : Nat} (h : Mp w mb L es c) : Rn (w.alloc (.mapIter (some mb) c #[] c)) mb w.heap.size L es c #[] :=
  ⟨h.below (ba w _), ⟨c, heap_alloc_new w _, Nat.le_refl _⟩, fun e => by have := h.lt; omega⟩
/-- A step: nothing is left, or an entry comes. -/
theorem Rn.step {w : World} {mb r : Nat} {L : List Ent} {es : Array MapEntry} {c : Nat} {seen : Array Nat} (h : Rn w mb r L es c seen) (ty : TypeId) :
    ((leftOf es seen).size = 0 ∧ (Instr.next (.pointer (some ⟨r, 0, none⟩)) false ty).run Tryd.prog w = .ok (.tuple #[.bool false]) w) ∨
    ∃ e ∈ (leftOf es seen).toList, ∃ w', (Instr.next (.pointer (some ⟨r, 0, none⟩)) false ty).run Tryd.prog w = .ok (.tuple #[.bool true, e.key, e.val]) w' ∧ Rn w' mb r L es c (seen.push e.born) ∧ w.grownBy w' (some r) ∧
      (Instr.entry (.pointer (some ⟨r, 0, none⟩))).run Tryd.prog w' = .ok (.tuple #[e.key, e.val]) w' := by
  obtain ⟨c0, hi, hc⟩ := h.it
  rcases run_next_at (P := Tryd.prog) w ty r mb c c0 seen es c hi h.mp.at' h.mp.old hc with h0 | ⟨e, he, w1, hal, hrun⟩
  · exact .inl h0
  · have hg := step_grown hal r (.mapIter (some mb) c (seen.push e.born) c)
    have hh := step_heap hal (.mapIter (some mb) c (seen.push e.born) c) h.lt
    have hm : (setBlock w1 r (.mapIter (some mb) c (seen.push e.born) c)).heap[mb]? = w.heap[mb]? := hg.block mb h.mp.lt (fun e => h.ne (by cases e; rfl))
    have hmem : e ∈ es.toList := by
      rw [left_list, List.mem_filter] at he
      exact he.1
    refine .inr ⟨e, he, _, hrun, ⟨h.mp.kept hm, ⟨c, hh, Nat.le_refl _⟩, h.ne⟩, hg, ?_⟩
    exact run_entry_at _ r mb c seen es c e hh (by rw [hm]; exact h.mp.at') hmem h.mp.nd

section
variable {F : Fence} {n : Nat} {ops : Array Oper} {rest : List Oper} {o : Oper} {a : Act} {w : World} {Q : Exit → Act → World → Prop}
theorem run_rg {T E : TypeId} (hT : Tryd.prog.underlying T = some (.map 38 E)) {mb : Nat} {es : Array MapEntry} {c : Nat} (hM : w.heap[mb]? = some (.map es c)) :
    (Instr.range T (.map (some mb))).run Tryd.prog w = .ok (.pointer (some ⟨w.heap.size, 0, none⟩)) (w.alloc (.mapIter (some mb) c #[] c)) := by
  unfold Instr.range
  have hg : (getObj mb).run Tryd.prog w = .ok (.map es c) w := by simp [getObj, Sem.run, hM]
  simp [Sem.run_bind, run_underlying hT, hg]
theorem wpListIn_rg (hg : o.guard = none) (m : Operand) (T E : TypeId) (hop : o.op = Op.range T m) (hT : Tryd.prog.underlying T = some (.map 38 E)) (mb : Nat) (es : Array MapEntry) (c : Nat)
    (hm : a.eval m = .map (some mb)) (hM : w.heap[mb]? = some (.map es c)) (hK : wpListIn F n Tryd.prog ops Q rest (a.put o.dst (.pointer (some ⟨w.heap.size, 0, none⟩))) (w.alloc (.mapIter (some mb) c #[] c))) :
    wpListIn F n Tryd.prog ops Q (o :: rest) a w := by
  refine wpListIn_plain hg fun K' hK' => ?_
  have hrun := run_rg hT hM
  unfold Oper.wpIn
  refine ⟨?_, ?_⟩
  · simp [Oper.about, hop]
  · rw [Oper.semAt_plain F _ _ (by rw [hop]; intro c hc'; cases hc')]
    simp [execOp, hop, hm, hrun, Result.andThen]
    exact hK' _ _ hK
theorem wpList_rg (hg : o.guard = none) (m : Operand) (T E : TypeId) (hop : o.op = Op.range T m) (hT : Tryd.prog.underlying T = some (.map 38 E)) (mb : Nat) (es : Array MapEntry) (c : Nat)
    (hm : a.eval m = .map (some mb)) (hM : w.heap[mb]? = some (.map es c)) (hK : wpList Tryd.prog ops Q rest (a.put o.dst (.pointer (some ⟨w.heap.size, 0, none⟩))) (w.alloc (.mapIter (some mb) c #[] c))) :
    wpList Tryd.prog ops Q (o :: rest) a w := by
  refine wpList_plain hg fun K' hK' => ?_
  have hrun := run_rg hT hM
  unfold Oper.wp
  simp [execOp, hop, hm, hrun, Result.andThen]
  exact hK' _ _ hK
theorem wpListIn_nx (hg : o.guard = none) (it : Operand) (hop : o.op = Op.next it false) {mb r : Nat} {L : List Ent} {es : Array MapEntry} {c : Nat} {seen : Array Nat}
    (hit : a.eval it = .pointer (some ⟨r, 0, none⟩)) (h : Rn w mb r L es c seen)
    (hDone : LfNone es seen → wpListIn F n Tryd.prog ops Q rest (a.put o.dst (.tuple #[.bool false])) w)
    (hMore : ∀ e, LfIn es seen e → ∀ w', Rn w' mb r L es c (seen.push e.born) → w.grownBy w' (some r) → (Instr.entry (.pointer (some ⟨r, 0, none⟩))).run Tryd.prog w' = .ok (.tuple #[e.key, e.val]) w' → wpListIn F n Tryd.prog ops Q rest (a.put o.dst (.tuple #[.bool true, e.key, e.val])) w') :
    wpListIn F n Tryd.prog ops Q (o :: rest) a w := by
  refine wpListIn_plain hg fun K' hK' => ?_
  unfold Oper.wpIn
  refine ⟨by simp [Oper.about, hop], ?_⟩
  rw [Oper.semAt_plain F _ _ (by rw [hop]; intro c hc'; cases hc')]
  rcases h.step o.type with ⟨h0, hrun⟩ | ⟨e, he, w', hrun, hr, hgr, hen⟩
  · simp [execOp, hop, hit, hrun, Result.andThen]
    exact hK' _ _ (hDone h0)
  · simp [execOp, hop, hit, hrun, Result.andThen]
    exact hK' _ _ (hMore e he w' hr hgr hen)
theorem wpList_nx (hg : o.guard = none) (it : Operand) (hop : o.op = Op.next it false) {mb r : Nat} {L : List Ent} {es : Array MapEntry} {c : Nat} {seen : Array Nat}
    (hit : a.eval it = .pointer (some ⟨r, 0, none⟩)) (h : Rn w mb r L es c seen)
    (hDone : LfNone es seen → wpList Tryd.prog ops Q rest (a.put o.dst (.tuple #[.bool false])) w)
    (hMore : ∀ e, LfIn es seen e → ∀ w', Rn w' mb r L es c (seen.push e.born) → w.grownBy w' (some r) → (Instr.entry (.pointer (some ⟨r, 0, none⟩))).run Tryd.prog w' = .ok (.tuple #[e.key, e.val]) w' → wpList Tryd.prog ops Q rest (a.put o.dst (.tuple #[.bool true, e.key, e.val])) w') :
    wpList Tryd.prog ops Q (o :: rest) a w := by
  refine wpList_plain hg fun K' hK' => ?_
  unfold Oper.wp
  rcases h.step o.type with ⟨h0, hrun⟩ | ⟨e, he, w', hrun, hr, hgr, hen⟩
  · simp [execOp, hop, hit, hrun, Result.andThen]
    exact hK' _ _ (hDone h0)
  · simp [execOp, hop, hit, hrun, Result.andThen]
    exact hK' _ _ (hMore e he w' hr hgr hen)
end

/-- What has come of a range. -/
def Gat (L : List Ent) (es : Array MapEntry) (seen : Array Nat) (ss : List (Int × Int)) : Prop := (ss ++ (leftOf es seen).toList.map (fun e => idOf e.key)).Perm (L.map (·.1))
theorem Gat.start {L : List Ent} {es : Array MapEntry} (h : Em es.toList L) : Gat L es #[] [] := by
  unfold Gat
  rw [left_list, List.nil_append, ← h.ids, List.filter_eq_self.2 (by simp)]
theorem Gat.step {L : List Ent} {es : Array MapEntry} {seen : Array Nat} {ss : List (Int × Int)} (h : Gat L es seen ss) (hn : (es.toList.map (·.born)).Nodup) {e : MapEntry} (he : e ∈ (leftOf es seen).toList) : Gat L es (seen.push e.born) (ss ++ [idOf e.key]) := by
  unfold Gat at h ⊢
  refine List.Perm.trans ?_ h
  rw [List.append_assoc, List.singleton_append]
  exact List.Perm.append_left _ ((left_step hn he).map (fun (x : MapEntry) => idOf x.key)).symm
theorem Gat.all {L : List Ent} {es : Array MapEntry} {seen : Array Nat} {ss : List (Int × Int)} (h : Gat L es seen ss) (h0 : (leftOf es seen).size = 0) : ss.Perm (L.map (·.1)) := by
  unfold Gat at h
  rw [List.eq_nil_of_length_eq_zero (by simpa using h0 : (leftOf es seen).toList.length = 0)] at h
  simpa using h
theorem Gat.lt {L : List Ent} {es : Array MapEntry} {seen : Array Nat} {ss : List (Int × Int)} (h : Gat L es seen ss) {e : MapEntry} (he : e ∈ (leftOf es seen).toList) : ss.length < L.length := by
  have := h.length_eq
  have h1 := List.length_pos_of_mem he
  rw [List.length_append, List.length_map, List.length_map] at this
  omega

set_option maxRecDepth 100000 in
set_option maxHeartbeats 2000000 in
theorem keys1_in (F : Fence) (n : Nat) (hf : F.fn 68) (hro : F.round = none) (hn : 1 ≤ n) (l Bm mb : Nat) (L : List Ent) (es : Array MapEntry) (c : Nat) (J Jx : List (Int × Int) → World → Prop)
    (W : World) (hJ : AbidesFrom W.heap.size J)
    (hY : ∀ pre x W1, J pre W1 → pre.length < L.length → YieldAt F (n - 1) Tryd.prog l #[idv x.1 x.2] W1 fun e W' => (e = .returned (.bool true) ∧ J (pre ++ [x]) W' ∧ KeepsWalks W1 W') ∨ (e = .returned (.bool false) ∧ Jx (pre ++ [x]) W'))
    (hm : W.cell? ⟨Bm, 0, none⟩ = some (.map (some mb))) (hM : Mp W mb L es c) (h0 : J [] W) :
    CallsIn F n Tryd.prog 68 #[.func (.yield l) #[] #[], .pointer (some ⟨Bm, 0, none⟩)] W fun e W' => (∃ v, e = .returned v) ∧
      ((∃ xs, xs.Perm (L.map (·.1)) ∧ J xs W') ∨ (∃ pre, True ∧ Jx pre W')) := by
  refine callsIn_of_wp Tryd.func68 rfl hf ?_ hro
  simp only [Tryd.ntmps68, List.size_toArray, List.length_cons, List.length_nil, Nat.reduceAdd, Nat.reduceSub, Array.replicate_succ, Array.replicate_zero, List.push_toArray, List.append_toArray, List.nil_append, List.cons_append]
  have HM := hid hM
  have HR := hid (Rn.start hM)
  have HJ0 := hid (hJ [] W (W.alloc (.mapIter (some mb) c #[] c)) none h0 (World.grownBy_alloc W _ none) (fun r e => by cases e))
  clear hM
  gi_wp2_with (first
    | (gi_at_range; refine wpListIn_rg rfl _ _ _ rfl Tryd.underlying77 mb es c rfl HM.out.at' ?_)
    | gi_in)
  go_frame
  gi_loopw [3] (fun _ wr => ∃ (seen : Array Nat) (ss : List (Int × Int)), Rn wr mb W.heap.size L es c seen ∧ Gat L es seen ss ∧ J ss wr) (fun _ wr => wr.rangeLeft mb W.heap.size)
  case atStart => exact ⟨#[], [], HR.out, Gat.start HM.out.em, HJ0.out⟩
  case round =>
    obtain ⟨seen, ss, hr, hG, hJs⟩ := hrel
    have HRR := hid hr
    have HG := hid hG
    have HJS := hid hJs
    clear hr hG hJs
    gi_wp2_with (first
      | (gi_at_next; refine wpListIn_nx rfl _ rfl rfl HRR.out ?_ ?_)
      | gi_in)
    · intro hl0
      gi_wp2
      go_end0
      exact ⟨⟨_, rfl⟩, .inl ⟨ss, HG.out.all hl0, HJS.out⟩⟩
    · intro e he w2 hr2 hg2 hen
      have hkey : e.key = idv (idOf e.key).1 (idOf e.key).2 := HM.out.em.key (by have := he; unfold LfIn at this; rw [left_list, List.mem_filter] at this; exact this.1)
      obtain ⟨x, hx⟩ : ∃ x, idOf e.key = x := ⟨_, rfl⟩
      rw [hx] at hkey
      obtain ⟨kv, hkv⟩ : ∃ v, e.val = v := ⟨_, rfl⟩
      rw [hkey, hkv] at hen ⊢
      have HE : Hid (e ∈ (leftOf es seen).toList) := hid he
      have HX := hid hx
      have HR2 := hid hr2
      have hJ2 : J ss w2 := hJ ss wr w2 (some W.heap.size) HJS.out hg2 (fun r e => by cases e; exact ⟨Nat.le_refl _, _, HRR.out.it.choose_spec.1, rfl⟩)
      have hJ3 : J ss (w2.alloc (ido 38 x.1 x.2)) := hJ ss w2 _ none hJ2 (World.grownBy_alloc w2 _ none) (fun r e => by cases e)
      obtain ⟨fn, tmps, assign, body, hy, hR⟩ := hY ss x _ hJ3 (HG.out.lt HE.out)
      clear he hx hkey hkv hr2 hg2 hJ2 hJ3
      gi_wp2
      refine hR.mono ?_
      rintro e3 W3 (⟨rfl, hJ4, hk4⟩ | ⟨rfl, hJx4⟩)
      · have hr3 := (HR2.out.below (ba w2 (ido 38 x.1 x.2))).walks hk4
        gi_wp2
        go_roundw
        case rel => exact ⟨_, ss ++ [x], hr3, by rw [← HX.out]; exact HG.out.step HM.out.nd HE.out, hJ4⟩
        case measure =>
          rw [hr3.left, HRR.out.left]
          have := (left_step HM.out.nd HE.out).length_eq
          simp at this
          omega
      · gi_wp2
        refine bodyPost_ret (results_none rfl _ _ _) rfl ?_
        exact ⟨⟨_, rfl⟩, .inr ⟨_, trivial, hJx4⟩⟩

end Go.Proofs.YtaojeanoojnknaaDoor

/-
  What slices.Collect gathers of maps.Keys is proved here: the names of a map's entries, each once, in memory of the call's own.
-/
namespace Go.Proofs.YtaojeanoojnknaaDoor
open Go.RowKit Go.Shelf
set_option linter.unusedVariables false
set_option maxRecDepth 100000

attribute [local go_sem] Oper.semAt_some

theorem keys_stops (F : Fence) (n : Nat) (hf : F.fn 68) (hro : F.round = none) (hn : 1 ≤ n) (Bm mb : Nat) (L : List Ent) (es : Array MapEntry) (c : Nat) (w : World)
    (hb : Bm < w.heap.size) (hm : w.cell? ⟨Bm, 0, none⟩ = some (.map (some mb))) (hM : Mp w mb L es c) :
    SeqStopsK F n Tryd.prog 68 #[.pointer (some ⟨Bm, 0, none⟩)] (fun x : Int × Int => #[idv x.1 x.2]) KeepsWalks (fun xs => xs.Perm (L.map (·.1))) (fun _ => True) L.length w :=
  fun l J Jx W hW hJ _ hY h0 => keys1_in F n hf hro hn l Bm mb L es c J Jx W hJ hY ((hW.cell (p := ⟨Bm, 0, none⟩) hb).trans hm) (hM.below hW) h0

theorem cell_two_new (w : World) (a b : Value) (t : TypeId) : ∀ j u, [a, b][j]? = some u → (w.alloc (.cells #[a, b] t)).cell? ((⟨w.heap.size, 0, none⟩ : Addr).add j) = some u := by
  intro j u hj
  have hh : (w.alloc (.cells #[a, b] t)).heap[w.heap.size]? = some (.cells #[a, b] t (0, 0)) := World.alloc_heap_new w _
  match j, hj with
  | 0, hj =>
    rw [show ((⟨w.heap.size, 0, none⟩ : Addr).add 0) = ⟨w.heap.size, 0, none⟩ from by kernel_rfl, cell_of_row _ _ 0 _ _ _ hh]
    exact hj
  | 1, hj =>
    rw [show ((⟨w.heap.size, 0, none⟩ : Addr).add 1) = ⟨w.heap.size, 1, none⟩ from by kernel_rfl, cell_of_row _ _ 1 _ _ _ hh]
    exact hj
  | j + 2, hj => simp at hj
theorem own_cells {β : Type} (b : Nat) (o : Obj) (hc : o.isCells = true) : Own (fun (_ : β) W => W.heap[b]? = some o) := by
  intro s X Y row hs hg hr
  exact (grownBy_keeps_cells hg hr hs hc).trans hs
theorem OwnFrom.ex {β γ : Type} {B : Nat} {I : γ → β → World → Prop} (h : ∀ c, OwnFrom B (I c)) : OwnFrom B (fun s W => ∃ c, I c s W) := by
  rintro s W W' row ⟨c, hc⟩ hg hr
  exact ⟨c, h c s W W' row hc hg hr⟩

set_option maxRecDepth 100000 in
set_option maxHeartbeats 2000000 in
theorem appendseq_in (F : Fence) (n : Nat) (h77 : F.fn 77) (h68 : F.fn 68) (hro : F.round = none) (hn : 2 ≤ n)
    (Bm mb : Nat) (L : List Ent) (es : Array MapEntry) (c : Nat) (w : World) (hb : Bm < w.heap.size) (hm : w.cell? ⟨Bm, 0, none⟩ = some (.map (some mb))) (hM : Mp w mb L es c) (hL : L.length ≤ 1000000) :
    CallsIn F n Tryd.prog 77 #[.slice none 0 0, .func (.func 68) #[] #[.pointer (some ⟨Bm, 0, none⟩)]] w fun e w' =>
      ∃ (v : Value) (xs : List (Int × Int)), e = .returned v ∧ xs.Perm (L.map (·.1)) ∧ w'.ownsRow w.heap.size 38 2 v xs.length (xs.flatMap idc) ∧ Below w.heap.size w w' := by
  have h1 : 1 ≤ n := by omega
  obtain ⟨i0, hi, hz0, hz1, hz2⟩ := info_parts info_id
  refine callsIn_of_wp_marks Tryd.func77 rfl h77 ?_ hro
  simp only [Tryd.ntmps77, List.size_toArray, List.length_cons, List.length_nil, Nat.reduceAdd, Nat.reduceSub, Array.replicate_succ, Array.replicate_zero, List.push_toArray, List.append_toArray, List.nil_append, List.cons_append]
  gi_wp2
  have bO := Boxed.new w 61 (.slice none 0 0)
  have hB0 : Below w.heap.size w (w.alloc (.cells #[.slice none 0 0] 61)) := (Below.refl _ w).alloc (Nat.le_refl _) _
  refine wpIn_rangeFunc_ownH hro h1 (gf := 68) (lb := #[.pointer (some ⟨Bm, 0, none⟩)]) rfl h68 (enters_of Tryd.func68 (by kernel_rfl) rfl)
    (keys_stops F (n - 1) h68 hro (by omega) Bm mb L es c (w.alloc (.cells #[.slice none 0 0] 61)) (by simp; omega) ((hB0.cell (p := ⟨Bm, 0, none⟩) hb).trans hm) (hM.below hB0)) walksK_t walksK_b (Below.refl _ _) (fun _ => rfl)
    (fun pre W => (∃ v, Boxed W w.heap.size 61 v ∧ W.ownsRow w.heap.size 38 2 v pre.length (pre.flatMap idc) ∧ True) ∧ Below w.heap.size w W)
    (fun _ _ _ => False)
    (OwnFrom.and (Own.from (holdsRow_own w.heap.size w.heap.size 61 38 2 (fun pre : List (Int × Int) => pre.length) (fun pre => pre.flatMap idc) (fun _ _ => True)) _) (ownFrom_below (Nat.le_refl _) (by simp)))
    (fun _ _ _ _ _ hs _ _ => hs)
    ⟨⟨_, bO, World.ownsRow_nil _ _ _ _, trivial⟩, hB0⟩
    (fun x a' W => ∃ Bx,(w.heap.size < Bx ∧ W.heap[Bx]? = some (ido 38 x.1 x.2)) ∧ a' = { tmps := #[.slice none 0 0,.func (.func 68) #[] #[.pointer (some ⟨Bm,0,none⟩)],.pointer (some ⟨w.heap.size,0,none⟩),undef,.slice none 0 0,.pointer (some ⟨Bx,0,none⟩),.func (.func 68) #[] #[.pointer (some ⟨Bm,0,none⟩)],idv x.1 x.2,undef,undef,undef,undef,undef],defers := [] })
    (fun x a' => OwnFrom.ex fun Bx => OwnFrom.and (OwnFrom.and (ownFrom_pure _ _) (Own.from (own_cells Bx _ rfl) _)) (ownFrom_pure _ _))
    ?assign ?body ?done ?stop
  case assign =>
    rintro l pre x W K ⟨⟨v, hv, hrow, _⟩, hB⟩ hK
    gi_wp2
    exact hK _ _ ((KeepsOthers.alloc _ _).from _) (KeepsWalks.alloc _ _) ⟨⟨v, hv.alloc _, hrow.alloc _, trivial⟩, hB.alloc hB.size _⟩ ⟨W.heap.size, ⟨hv.lt, World.alloc_heap_new W _⟩, rfl⟩
  case body =>
    rintro l pre x a' W hl ⟨r, hr⟩ ⟨⟨v, hv, hrow, _⟩, hB⟩ ⟨Bx, ⟨hBx, bX⟩, rfl⟩ hlt
    have hc := hv.cell
    have cx0 : W.cell? ⟨Bx, 0, none⟩ = some (.int .i64 x.1) := by rw [cell_of_row W Bx 0 _ _ _ bX]; rfl
    have cx1 : W.cell? ⟨Bx, 1, none⟩ = some (.int .i64 x.2) := by rw [cell_of_row W Bx 1 _ _ _ bX]; rfl
    have hm1 : pre.length + 1 ≤ maxLen := by unfold maxLen; omega
    gi_wp2_with (gi_at_builtin; refine wpListIn_append_own _ rfl _ _ 61 rfl w.heap.size 38 i0 (idv 0 0) 2 16 Tryd.underlying61 hi hz0 hz1 hz2 rfl (by decide) _ _ _ rfl (hrow.alloc _) ⟨W.heap.size,0,none⟩ 1 1 [.int .i64 x.1,.int .i64 x.2] rfl rfl (cell_two_new _ _ _ _) (by simp [Value.oneCell']) hm1 (by omega) (by have := hB.size; simp; omega) ?_; intro v' w1 hown' hgrow _; obtain ⟨g',cap',rfl⟩ := ownsRow_succ hown'; obtain ⟨hv1,hv2,hr2,hk2,hb2⟩ := hv.appended (by decide) hrow hB.size (Nat.le_refl _) hown' hgrow; have hc1 := hv1.cell; have hf1 := hv1.frozen)
    exact ⟨hk2.from _, hk2.walks, ⟨_, hv2, by simpa using hr2, trivial⟩, hB.trans hb2⟩
  case done =>
    rintro D ys W hD hS ⟨⟨v, hv, hrow, _⟩, hB⟩ hK
    have hc := hv.cell
    gi_wp2
    refine ⟨by simp, .inl ⟨_, _, rfl, run_takeDeferred hK, ?_⟩⟩
    exact ⟨_, results_tmp rfl _ _ _, v, ys, rfl, hS, ownsRow_putObj hrow _ hK rfl, hB.trans (belowK_b (w := w) (Nat.le_refl _) W D _ _ (by simp at hD; omega) hK rfl rfl)⟩
  case stop =>
    rintro D c pre W _ _ h _
    exact h.elim

set_option maxHeartbeats 1000000 in
theorem collect_in (F : Fence) (n : Nat) (h66 : F.fn 66) (h77 : F.fn 77) (h68 : F.fn 68) (hro : F.round = none) (hn : 3 ≤ n)
    (Bm mb : Nat) (L : List Ent) (es : Array MapEntry) (c : Nat) (w : World) (hb : Bm < w.heap.size) (hm : w.cell? ⟨Bm, 0, none⟩ = some (.map (some mb))) (hM : Mp w mb L es c) (hL : L.length ≤ 1000000) :
    CallsIn F n Tryd.prog 66 #[.func (.func 68) #[] #[.pointer (some ⟨Bm, 0, none⟩)]] w fun e w' =>
      ∃ (v : Value) (xs : List (Int × Int)), e = .returned v ∧ xs.Perm (L.map (·.1)) ∧ w'.ownsRow w.heap.size 38 2 v xs.length (xs.flatMap idc) ∧ Below w.heap.size w w' := by
  have h1 : 1 ≤ n := by omega
  have e77 : ∀ args w, (callFunc 77 args).run Tryd.prog w = .ok (.enter 77 args) w := enters_of Tryd.func77 (by kernel_rfl) rfl
  have HA := hid (appendseq_in F (n - 1) h77 h68 hro (by omega) Bm mb L es c w hb hm hM hL)
  clear hM hm hb
  refine callsIn_of_wp Tryd.func66 rfl h66 ?_ hro
  simp only [Tryd.ntmps66, List.size_toArray, List.length_cons, List.length_nil, Nat.reduceAdd, Nat.reduceSub, Array.replicate_succ, Array.replicate_zero, List.push_toArray, List.append_toArray, List.nil_append, List.cons_append]
  gi_wp2_with (gi_at_call 77; refine HA.out.mono ?_; rintro e w2 ⟨v, xs, rfl, hp, ho, hb⟩)
  go_ret
  exact ⟨v, xs, rfl, hp, ho, hb⟩
theorem collect_any (Bm mb : Nat) (L : List Ent) (es : Array MapEntry) (c : Nat) (w : World) (hb : Bm < w.heap.size) (hm : w.cell? ⟨Bm, 0, none⟩ = some (.map (some mb))) (hM : Mp w mb L es c) (hL : L.length ≤ 1000000) :
    Calls Tryd.prog 66 #[.func (.func 68) #[] #[.pointer (some ⟨Bm, 0, none⟩)]] w fun e w' =>
      ∃ (v : Value) (xs : List (Int × Int)), e = .returned v ∧ xs.Perm (L.map (·.1)) ∧ w'.ownsRow w.heap.size 38 2 v xs.length (xs.flatMap idc) ∧ Below w.heap.size w w' :=
  callsIn_wide.1 (collect_in Fence.wide 3 trivial trivial trivial rfl (Nat.le_refl _) Bm mb L es c w hb hm hM hL)

end Go.Proofs.YtaojeanoojnknaaDoor
