/-
  A set of names as a map in memory: what a look-up and a store come to; an append to rows of whatever elements.
-/
import Derived.Test.YtmgemgkanlpnnaaDoorOWrite
import Derived.RangeFuncRecord
namespace Go.Proofs.YtmgemgkanlpnnaaDoor
open Go.RowKit
set_option linter.unusedVariables false
set_option maxRecDepth 100000

/-- A map's entries are these names, without a value. -/
def Ents (es : List MapEntry) (l : List (Int × Int)) : Prop := es.map (fun e => (e.key, e.val)) = l.map (fun x => (idv x.1 x.2, Value.agg #[]))

theorem equalIn_int (e : Nat) (a c : Int) (w : World) : (Op.equalIn (e + 1) 3 (.int .i64 a) (.int .i64 c)).run Tryd.prog w = .ok (a == c) w := by
  simp [Op.equalIn, run_underlying Tryd.underlying3]
theorem equalIn_id (e : Nat) (a b c d : Int) (w : World) : (Op.equalIn (e + 2) 25 (idv a b) (idv c d)).run Tryd.prog w = .ok (a == c && b == d) w := by
  have i1 := equalIn_int e a c w
  have i2 := equalIn_int e b d w
  cases h1 : (a == c)
  all_goals
    rw [h1] at i1
    rw [show e + 2 = (e + 1) + 1 from rfl, Op.equalIn]
    simp [run_underlying Tryd.underlying25, go_sem]
  · intro h; simp [h] at h1
  · simp at h1
    rw [if_pos h1]
    by_cases h2 : b = d
    · simp [h2]
    · simp [h2]
theorem equal_id (a b c d : Int) (w : World) : (Op.equal 25 (idv a b) (idv c d)).run Tryd.prog w = .ok (a == c && b == d) w := equalIn_id 9998 a b c d w


theorem find_asking (r n : Int) (w : World) : ∀ (es : List MapEntry) (l : List (Int × Int)) (i : Nat), Ents es l →
    ∃ o, (Instr.findAsking 25 (idv r n) es i).run Tryd.prog w = .ok o w ∧ (o.isSome = decide ((r, n) ∈ l)) ∧ ∀ j u, o = some (j, u) → u = .agg #[] := by
  intro es
  induction es with
  | nil =>
    intro l i h
    have : l = [] := by
      cases l with
      | nil => rfl
      | cons x l => simp [Ents] at h
    subst this
    exact ⟨none, rfl, by simp, fun j u h => by cases h⟩
  | cons e es ih =>
    intro l i h
    cases l with
    | nil => simp [Ents] at h
    | cons x l =>
      unfold Ents at h
      simp only [List.map_cons, List.cons.injEq, Prod.mk.injEq] at h
      obtain ⟨⟨hk, hv⟩, ht⟩ := h
      have he := equal_id r n x.1 x.2 w
      cases hc : (r == x.1 && n == x.2)
      · obtain ⟨o, h1, h2, h3⟩ := ih l (i + 1) ht
        refine ⟨o, ?_, ?_, h3⟩
        · unfold Instr.findAsking
          rw [hk, Sem.run_bind, he, hc]
          exact h1
        · rw [h2]
          have : (r, n) ≠ x := by
            intro e
            subst e
            simp at hc
          simp [this]
      · refine ⟨some (i, e.val), ?_, ?_, fun j u h => by simp at h; rw [← h.2]; exact hv⟩
        · unfold Instr.findAsking
          rw [hk, Sem.run_bind, he, hc]
          rfl
        · simp at hc
          have : (r, n) = x := by rw [hc.1, hc.2]
          simp [this]
theorem find_key (r n : Int) (w : World) (es : List MapEntry) (l : List (Int × Int)) (h : Ents es l) :
    ∃ o, (Instr.findKey 25 (idv r n) es).run Tryd.prog w = .ok o w ∧ (o.isSome = decide ((r, n) ∈ l)) ∧ ∀ j u, o = some (j, u) → u = .agg #[] := by
  unfold Instr.findKey
  rw [Sem.run_bind, run_underlying Tryd.underlying25]
  cases es with
  | nil =>
    have : l = [] := by
      cases l with
      | nil => rfl
      | cons x l => simp [Ents] at h
    subst this
    exact ⟨none, rfl, by simp, fun j u h => by cases h⟩
  | cons e es => exact find_asking r n w (e :: es) l 0 h
theorem check_key (b : Bool) (r n : Int) (w : World) : (Instr.checkKey b 10000 25 (idv r n)).run Tryd.prog w = .ok () w := by kernel_rfl

/-- A look-up. -/
theorem run_look (r n : Int) (w : World) (mb : Nat) (es : Array MapEntry) (clock : Nat) (l : List (Int × Int)) (hm : w.heap[mb]? = some (.map es clock)) (h : Ents es.toList l) :
    (Instr.lookup 87 (.map (some mb)) (idv r n) true).run Tryd.prog w = .ok (.tuple #[.agg #[], .bool (decide ((r, n) ∈ l))]) w := by
  obtain ⟨o, h1, h2, h3⟩ := find_key r n w es.toList l h
  have hz : (zeroValue 88).run Tryd.prog w = .ok (.agg #[]) w := by kernel_rfl
  unfold Instr.lookup
  rw [Sem.run_bind, run_underlying Tryd.underlying87]
  have hg : (getObj mb).run Tryd.prog w = .ok (.map es clock) w := by simp [getObj, Sem.run, hm]
  cases o with
  | none =>
    have : decide ((r, n) ∈ l) = false := by rw [← h2]; rfl
    rw [this]
    simp [Sem.run_bind, hg, check_key, h1, hz]
  | some x =>
    obtain ⟨j, u⟩ := x
    obtain rfl := h3 j u rfl
    have : decide ((r, n) ∈ l) = true := by rw [← h2]; rfl
    rw [this]
    simp [Sem.run_bind, hg, check_key, h1]

/-- A store of a name that isn't there. -/
theorem run_put (r n : Int) (w : World) (mb : Nat) (es : Array MapEntry) (clock : Nat) (l : List (Int × Int)) (hm : w.heap[mb]? = some (.map es clock)) (h : Ents es.toList l) (hn : (r, n) ∉ l) :
    (Instr.mapUpdate 87 (.map (some mb)) (idv r n) (.agg #[])).run Tryd.prog w = .ok () (w.putObj mb (.map (es.push ⟨idv r n, .agg #[], clock⟩) (clock + 1))) := by
  obtain ⟨o, h1, h2, h3⟩ := find_key r n w es.toList l h
  have ho : o = none := by
    cases o with
    | none => rfl
    | some x => simp [hn] at h2
  subst ho
  unfold Instr.mapUpdate
  rw [Sem.run_bind, run_underlying Tryd.underlying87]
  have hg : (getObj mb).run Tryd.prog w = .ok (.map es clock) w := by simp [getObj, Sem.run, hm]
  have hs : ∀ o', (setObj mb o').run Tryd.prog w = .ok () (w.putObj mb o') := fun o' => by simp [setObj, Sem.run, hm, World.putObj]
  simp [Sem.run_bind, hg, check_key, h1, hs]

/-- The same at the operations. -/
theorem wpList_look {ops : Array Oper} {rest : List Oper} {o : Oper} {a : Act} {w : World} {Q : Exit → Act → World → Prop} (hgd : o.guard = none) (m x : Operand) (hop : o.op = Op.lookup 87 m x true)
    (mb : Nat) (hm : a.eval m = .map (some mb)) (r n : Int) (hx : a.eval x = idv r n) (es : Array MapEntry) (clock : Nat) (l : List (Int × Int)) (hb : w.heap[mb]? = some (.map es clock)) (h : Ents es.toList l)
    (hk : wpList Tryd.prog ops Q rest (a.put o.dst (.tuple #[.agg #[], .bool (decide ((r, n) ∈ l))])) w) : wpList Tryd.prog ops Q (o :: rest) a w := by
  refine wpList_plain hgd fun K hK => ?_
  have hrun := run_look r n w mb es clock l hb h
  unfold Oper.wp
  simp only [execOp, hop, hm, hx, Sem.run_bind, hrun, Result.andThen_ok, Sem.run_pure]
  exact hK _ _ hk
theorem wpList_put {ops : Array Oper} {rest : List Oper} {o : Oper} {a : Act} {w : World} {Q : Exit → Act → World → Prop} (hgd : o.guard = none) (m x y : Operand) (hop : o.op = Op.mapUpdate 87 m x y)
    (mb : Nat) (hm : a.eval m = .map (some mb)) (r n : Int) (hx : a.eval x = idv r n) (hy : a.eval y = .agg #[]) (es : Array MapEntry) (clock : Nat) (l : List (Int × Int)) (hb : w.heap[mb]? = some (.map es clock)) (h : Ents es.toList l) (hn : (r, n) ∉ l)
    (hk : wpList Tryd.prog ops Q rest (a.put o.dst undef) (w.putObj mb (.map (es.push ⟨idv r n, .agg #[], clock⟩) (clock + 1)))) : wpList Tryd.prog ops Q (o :: rest) a w := by
  refine wpList_plain hgd fun K hK => ?_
  have hrun := run_put r n w mb es clock l hb h hn
  unfold Oper.wp
  simp only [execOp, hop, hm, hx, hy, Sem.run_bind, hrun, Result.andThen_ok, Sem.run_pure]
  exact hK _ _ hk
theorem Ents.push {es : Array MapEntry} {l : List (Int × Int)} (h : Ents es.toList l) (r n : Int) (c : Nat) : Ents (es.push ⟨idv r n, .agg #[], c⟩).toList (l ++ [(r, n)]) := by
  unfold Ents at h ⊢
  simp [h]
theorem Fr.of_put (w : World) (b : Nat) (o : Obj) : Fr (fun k => k = b) w (w.putObj b o) := ⟨rfl, rfl, rfl, by simp, fun k _ hn => World.putObj_heap_other hn⟩

/-- An append to a row of the call's own, whatever its elements. -/
theorem wpList_append_sl {w : World} {ops : Array Oper} {rest : List Oper} {o : Oper} {a : Act} {Q : Exit → Act → World → Prop} (t e : TypeId) (sz bytes : Nat) (z : Value) (ht : Tryd.prog.underlying t = some (.slice e))
    (hinfo : (Tryd.prog.info? e).map (fun i => (i.zero, i.size, i.bytes)) = some (some z, sz, bytes)) (hzs : z.cells.size = sz) (hsz : 0 < sz) (hgd : o.guard = none) (s x : Operand)
    (ho : o.op = .call { callee := .builtin .append, args := #[s, x], argTypes := #[t, t] })
    (base : Nat) (v : Value) (n : Nat) (cells : List Value) (hs : a.eval s = v) (hown : w.ownsRow base e sz v n cells) (u : Value) (m : Nat) (news : List Value) (hx : a.eval x = u) (hu : Sl sz w u m news) (h1c : ∀ u ∈ news, u.oneCell' = true)
    (hb : (n + m) * bytes ≤ 140737488355328) (hl : n + m ≤ maxLen) (hbase : base ≤ w.heap.size)
    (h : ∀ v' w', w'.ownsRow base e sz v' (n + m) (cells ++ news) → w.grownBy w' v.ownBlock → (v'.ownBlock = v.ownBlock ∨ v'.ownBlock = some w.heap.size) → wpList Tryd.prog ops Q rest (a.put o.dst v') w') :
    wpList Tryd.prog ops Q (o :: rest) a w := by
  obtain ⟨i0, hi, hz0, hz1, hz2⟩ := info_parts hinfo
  obtain ⟨A, c, rfl, _, _⟩ := hu.form
  cases A with
  | none =>
    obtain ⟨rfl, rfl, rfl⟩ := hu.none_nil
    refine wpList_append_own_none hgd s x t ho base e i0 sz ht hi v n cells hs hown hx ?_
    exact h v w (by simpa using hown) ⟨rfl, rfl, rfl, Nat.le_refl _, fun _ _ _ => rfl⟩ (Or.inl rfl)
  | some A =>
    refine wpList_append_own_at _ hgd s x t ho base e i0 z sz bytes ht hi hz0 hz1 hz2 hzs hsz v n cells hs hown A m c news hx hu.1 hu.cells_at h1c hl hb hbase ?_
    intro v' w' h1 h2 _ h4
    exact h v' w' h1 h2 h4

end Go.Proofs.YtmgemgkanlpnnaaDoor
