/-
  For the laws' walks: rows of ops that a law lays (one op, two ops); what is read of a right op's bytes with a byte more, or without their end.
-/
import Derived.Test.YtmgemgkanlpnnaaDoorOAlive
import Derived.Test.YtmgemgkanlpnnaaDoorOLong
import Derived.Test.YtmgemgkanlpnnaaDoorRefCur2
namespace Go.Proofs.YtmgemgkanlpnnaaDoor
open Go.RowKit
set_option linter.unusedVariables false
set_option maxRecDepth 100000

theorem run_ops1 (o : Opn) (v : Value) (w : World) : (Instr.buildSlice 33 1 #[(0, opv o v)]).run Tryd.prog w = .ok (.slice (some ⟨w.heap.size, 0, none⟩) 1 1) (w.alloc (opo o v)) := by kernel_rfl
theorem wpList_ops1 {ops : Array Oper} {rest : List Oper} {p : Oper} {a : Act} {w : World} {Q : Exit → Act → World → Prop} (hgd : p.guard = none) (x : Operand) (ho : p.op = .buildSlice 33 1 #[(0, x)]) (o : Opn) (v : Value) (hx : a.eval x = opv o v)
    (hk : wpList Tryd.prog ops Q rest (a.put p.dst (.slice (some ⟨w.heap.size, 0, none⟩) 1 1)) (w.alloc (opo o v))) : wpList Tryd.prog ops Q (p :: rest) a w := by
  refine wpList_plain hgd fun K hK => ?_
  unfold Oper.wp execOp
  have e : (Array.map (fun ((i, x) : Nat × Operand) => (i, a.eval x)) #[(0, x)]) = #[(0, opv o v)] := by simp [hx]
  simp only [ho, e, Sem.run_bind, run_ops1, Result.andThen_ok]
  exact hK _ _ hk
theorem Os.one (w : World) (o : Opn) (v : Value) (h : Cs w v o.cuts) : Os (w.alloc (opo o v)) (.slice (some ⟨w.heap.size, 0, none⟩) 1 1) [(o, v)] :=
  ⟨Sl.lit w 30 (opl o v) 1 (by decide) rfl, fun p hp => by rw [List.mem_singleton.1 hp]; exact h.below (ba w _)⟩
abbrev opl2 (o : Opn) (v : Value) (q : Opn) (u : Value) : Array Value := ((opl o v).toList ++ (opl q u).toList).toArray
theorem run_ops2 (o : Opn) (v : Value) (q : Opn) (u : Value) (w : World) : (Instr.buildSlice 33 2 #[(0, opv o v), (1, opv q u)]).run Tryd.prog w = .ok (.slice (some ⟨w.heap.size, 0, none⟩) 2 2) (w.alloc (.cells (opl2 o v q u) 30)) := by kernel_rfl
theorem wpList_ops2 {ops : Array Oper} {rest : List Oper} {p : Oper} {a : Act} {w : World} {Q : Exit → Act → World → Prop} (hgd : Region.wanted p (yielded ops a.tmps) = true) (x y : Operand) (ho : p.op = .buildSlice 33 2 #[(0, x), (1, y)]) (o : Opn) (v : Value) (q : Opn) (u : Value) (hx : a.eval x = opv o v) (hy : a.eval y = opv q u)
    (hk : wpList Tryd.prog ops Q rest (a.put p.dst (.slice (some ⟨w.heap.size, 0, none⟩) 2 2)) (w.alloc (.cells (opl2 o v q u) 30))) : wpList Tryd.prog ops Q (p :: rest) a w := by
  refine BigFrame.wpList_want hgd fun K hK => ?_
  unfold Oper.wp execOp
  have e : (Array.map (fun ((i, x) : Nat × Operand) => (i, a.eval x)) #[(0, x), (1, y)]) = #[(0, opv o v), (1, opv q u)] := by simp [hx, hy]
  simp only [ho, e, Sem.run_bind, run_ops2, Result.andThen_ok]
  exact hK _ _ hk
theorem Os.two (w : World) (o : Opn) (v : Value) (q : Opn) (u : Value) (h : Cs w v o.cuts) (k : Cs w u q.cuts) : Os (w.alloc (.cells (opl2 o v q u) 30)) (.slice (some ⟨w.heap.size, 0, none⟩) 2 2) [(o, v), (q, u)] := by
  refine ⟨Sl.lit w 30 (opl2 o v q u) 2 (by decide) rfl, fun p hp => ?_⟩
  simp only [List.mem_cons, List.not_mem_nil, or_false] at hp
  rcases hp with rfl | rfl
  · exact h.below (ba w _)
  · exact k.below (ba w _)

theorem dec_more {o : Opn} (ho : rightO o = true) {m : Int} (hb : K.Byt (encO o ++ [m])) : (decO Bnd.own (encO o ++ [m])).2 = false := by
  cases h : (decO Bnd.own (encO o ++ [m])).2 with
  | false => rfl
  | true =>
    obtain ⟨h1, h2⟩ := decO_sound Bnd.own hb h
    have := (encO_front (r := []) (s := [m]) h1 ho (by rw [List.append_nil, h2])).2
    cases this
theorem dec_less {o : Opn} (ho : rightO o = true) {j : Nat} (hj : j < (encO o).length) (hb : K.Byt ((encO o).take j)) : (decO Bnd.own ((encO o).take j)).2 = false := by
  cases h : (decO Bnd.own ((encO o).take j)).2 with
  | false => rfl
  | true =>
    obtain ⟨h1, h2⟩ := decO_sound Bnd.own hb h
    have := (encO_front (r := (encO o).drop j) (s := []) h1 ho (by rw [h2, List.take_append_drop, List.append_nil])).2
    have := congrArg List.length this
    rw [List.length_drop] at this
    simp at this
    omega
theorem encO_pos (o : Opn) : 0 < (encO o).length := by
  have := (M.sz_pos o.k).1
  unfold encO
  simp only [List.length_append, M.enc_length]
  omega
theorem small_fine {o : Opn} (h : small o = true) : o.fine ∧ o.cuts.length ≤ 40 := by
  unfold small at h
  simp at h
  exact ⟨⟨by omega, by omega⟩, h.2⟩
theorem encO_len {o : Opn} (h : rightO o = true) : (encO o).length ≤ 5000 := by
  have h1 := encFs_len o (told o.k) (told_le _) (right_told h)
  have h2 := told_len o.k
  have s1 := (M.sz_pos o.k).2
  have s2 := (M.sz_pos o.ir).2
  have s3 := (M.sz_pos o.im).2
  have s4 := (M.sz_pos o.t).2
  unfold encO
  simp only [List.length_append, M.enc_length]
  omega
theorem byt_app {a b : List Int} (ha : K.Byt a) (hb : K.Byt b) : K.Byt (a ++ b) := fun x hx => (List.mem_append.1 hx).elim (ha x) (hb x)
theorem enc_byt {x : Int} (h0 : 0 ≤ x) (h1 : x ≤ 1099511627776) : K.Byt (M.enc x) := M.enc_byte x h0 (by omega)
theorem byt_flat {α : Type} {f : α → List Int} : ∀ {l : List α}, (∀ x ∈ l, K.Byt (f x)) → K.Byt (l.flatMap f) := fun h x hx => by
  obtain ⟨y, hy, hx⟩ := List.mem_flatMap.1 hx
  exact h y hy x hx
theorem encF_byt {o : Opn} {f : Nat} (hf : f ≤ 8) (h : rightF o f = true) : K.Byt (encF o f) := by
  rcases nine hf with rfl | rfl | rfl | rfl | rfl | rfl | rfl | rfl | rfl
  · have := ro_bounds (r := o.br) (n := o.bm) h
    exact byt_app (enc_byt (by omega) (by omega)) (enc_byt (by omega) (by omega))
  · have := rb_bounds (r := o.pr) (n := o.pm) h
    exact byt_app (enc_byt (by omega) (by omega)) (enc_byt (by omega) (by omega))
  · simp [rightF, K.right, tx_length] at h
    exact encText_byte _ (by omega)
  · have := ro_bounds (r := o.sr) (n := o.sm) h
    exact byt_app (enc_byt (by omega) (by omega)) (enc_byt (by omega) (by omega))
  · have := rc_bounds (r := o.lr) (n := o.lm) (i := o.li) h
    exact byt_app (byt_app (enc_byt (by omega) (by omega)) (enc_byt (by omega) (by omega))) (enc_byt (by omega) (by omega))
  · have := rc_bounds (r := o.gr) (n := o.gm) (i := o.gi) h
    exact byt_app (byt_app (enc_byt (by omega) (by omega)) (enc_byt (by omega) (by omega))) (enc_byt (by omega) (by omega))
  · simp [rightF] at h
    exact encText_byte _ (by omega)
  · simp [rightF] at h
    refine byt_app (enc_byt (by omega) (by omega)) (byt_flat fun c hc => ?_)
    have := h.2 c hc
    simp [rct, ro] at this
    exact byt_app (byt_app (byt_app (enc_byt (by omega) (by omega)) (enc_byt (by omega) (by omega))) (enc_byt (by omega) (by omega))) (enc_byt (by omega) (by omega))
  · refine enc_byt ?_ ?_ <;> split <;> omega
theorem rs_bounds {t r : Int} (h : rs t r = true) : 0 ≤ t ∧ t ≤ 1099511627776 := by
  simp [rs] at h
  omega
theorem encO_byt {o : Opn} (h : rightO o = true) : K.Byt (encO o) := by
  have hp := (right_parts h).1
  have h1 := ro_bounds hp.1
  have h2 := rs_bounds hp.2.1
  have h3 := six hp.2.2
  refine byt_app (byt_app (byt_app (byt_app (enc_byt ?_ ?_) (enc_byt ?_ ?_)) (enc_byt ?_ ?_)) (enc_byt ?_ ?_)) (byt_flat fun f hf => encF_byt (told_le _ f hf) (right_told h f hf))
  all_goals omega

end Go.Proofs.YtmgemgkanlpnnaaDoor
