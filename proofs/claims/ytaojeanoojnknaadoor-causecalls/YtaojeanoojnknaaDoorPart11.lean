/-
  Parts of the proof, one behind the other; what each proves stands at its head.
-/
import Derived.Test.YtaojeanoojnknaaDoorPart10
import Derived.RangeFuncRecord

/-
  A set of names as a map in memory: what a look-up and a store come to; an append to rows of whatever elements.
-/
namespace Go.Proofs.YtaojeanoojnknaaDoor
open Go.RowKit
set_option linter.unusedVariables false
set_option maxRecDepth 100000

/-- A map's entries are these names, without a value. -/
def Ents (es : List MapEntry) (l : List (Int × Int)) : Prop := es.map (fun e => (e.key, e.val)) = l.map (fun x => (idv x.1 x.2, Value.agg #[]))

theorem equalIn_int (e : Nat) (a c : Int) (w : World) : (Op.equalIn (e + 1) 3 (.int .i64 a) (.int .i64 c)).run Tryd.prog w = .ok (a == c) w := by
  simp [Op.equalIn, run_underlying Tryd.underlying3]
theorem equalIn_id (e : Nat) (a b c d : Int) (w : World) : (Op.equalIn (e + 2) 38 (idv a b) (idv c d)).run Tryd.prog w = .ok (a == c && b == d) w := by
  have i1 := equalIn_int e a c w
  have i2 := equalIn_int e b d w
  cases h1 : (a == c)
  all_goals
    rw [h1] at i1
    rw [show e + 2 = (e + 1) + 1 from rfl, Op.equalIn]
    simp [run_underlying Tryd.underlying38, go_sem]
  · intro h; simp [h] at h1
  · simp at h1
    rw [if_pos h1]
    by_cases h2 : b = d
    · simp [h2]
    · simp [h2]
theorem equal_id (a b c d : Int) (w : World) : (Op.equal 38 (idv a b) (idv c d)).run Tryd.prog w = .ok (a == c && b == d) w := equalIn_id 9998 a b c d w


theorem find_asking (r n : Int) (w : World) : ∀ (es : List MapEntry) (l : List (Int × Int)) (i : Nat), Ents es l →
    ∃ o, (Instr.findAsking 38 (idv r n) es i).run Tryd.prog w = .ok o w ∧ (o.isSome = decide ((r, n) ∈ l)) ∧ ∀ j u, o = some (j, u) → u = .agg #[] := by
  intro es
  induction es with
  | nil =>
    intro l i h
    have : l = [] := by
      cases l with
      | nil => rfl
      | cons x l => simp [Ents] at h
    subst this
    exact ⟨none, rfl, by simp, fun j u h => by cases h⟩
  | cons e es ih =>
    intro l i h
    cases l with
    | nil => simp [Ents] at h
    | cons x l =>
      unfold Ents at h
      simp only [List.map_cons, List.cons.injEq, Prod.mk.injEq] at h
      obtain ⟨⟨hk, hv⟩, ht⟩ := h
      have he := equal_id r n x.1 x.2 w
      cases hc : (r == x.1 && n == x.2)
      · obtain ⟨o, h1, h2, h3⟩ := ih l (i + 1) ht
        refine ⟨o, ?_, ?_, h3⟩
        · unfold Instr.findAsking
          rw [hk, Sem.run_bind, he, hc]
          exact h1
        · rw [h2]
          have : (r, n) ≠ x := by
            intro e
            subst e
            simp at hc
          simp [this]
      · refine ⟨some (i, e.val), ?_, ?_, fun j u h => by simp at h; rw [← h.2]; exact hv⟩
        · unfold Instr.findAsking
          rw [hk, Sem.run_bind, he, hc]
          rfl
        · simp at hc
          have : (r, n) = x := by rw [hc.1, hc.2]
          simp [this]
theorem find_key (r n : Int) (w : World) (es : List MapEntry) (l : List (Int × Int)) (h : Ents es l) :
    ∃ o, (Instr.findKey 38 (idv r n) es).run Tryd.prog w = .ok o w ∧ (o.isSome = decide ((r, n) ∈ l)) ∧ ∀ j u, o = some (j, u) → u = .agg #[] := by
  unfold Instr.findKey
  rw [Sem.run_bind, run_underlying Tryd.underlying38]
  cases es with
  | nil =>
    have : l = [] := by
      cases l with
      | nil => rfl
      | cons x l => simp [Ents] at h
    subst this
    exact ⟨none, rfl, by simp, fun j u h => by cases h⟩
  | cons e es => exact find_asking r n w (e :: es) l 0 h
theorem check_key (b : Bool) (r n : Int) (w : World) : (Instr.checkKey b 10000 38 (idv r n)).run Tryd.prog w = .ok () w := by kernel_rfl

/-- A look-up. -/
theorem run_look (r n : Int) (w : World) (mb : Nat) (es : Array MapEntry) (clock : Nat) (l : List (Int × Int)) (hm : w.heap[mb]? = some (.map es clock)) (h : Ents es.toList l) :
    (Instr.lookup 102 (.map (some mb)) (idv r n) true).run Tryd.prog w = .ok (.tuple #[.agg #[], .bool (decide ((r, n) ∈ l))]) w := by
  obtain ⟨o, h1, h2, h3⟩ := find_key r n w es.toList l h
  have hz : (zeroValue 103).run Tryd.prog w = .ok (.agg #[]) w := by kernel_rfl
  unfold Instr.lookup
  rw [Sem.run_bind, run_underlying Tryd.underlying102]
  have hg : (getObj mb).run Tryd.prog w = .ok (.map es clock) w := by simp [getObj, Sem.run, hm]
  cases o with
  | none =>
    have : decide ((r, n) ∈ l) = false := by rw [← h2]; rfl
    rw [this]
    simp [Sem.run_bind, hg, check_key, h1, hz]
  | some x =>
    obtain ⟨j, u⟩ := x
    obtain rfl := h3 j u rfl
    have : decide ((r, n) ∈ l) = true := by rw [← h2]; rfl
    rw [this]
    simp [Sem.run_bind, hg, check_key, h1]

/-- A store of a name that isn't there. -/
theorem run_put (r n : Int) (w : World) (mb : Nat) (es : Array MapEntry) (clock : Nat) (l : List (Int × Int)) (hm : w.heap[mb]? = some (.map es clock)) (h : Ents es.toList l) (hn : (r, n) ∉ l) :
    (Instr.mapUpdate 102 (.map (some mb)) (idv r n) (.agg #[])).run Tryd.prog w = .ok () (w.putObj mb (.map (es.push ⟨idv r n, .agg #[], clock⟩) (clock + 1))) := by
  obtain ⟨o, h1, h2, h3⟩ := find_key r n w es.toList l h
  have ho : o = none := by
    cases o with
    | none => rfl
    | some x => simp [hn] at h2
  subst ho
  unfold Instr.mapUpdate
  rw [Sem.run_bind, run_underlying Tryd.underlying102]
  have hg : (getObj mb).run Tryd.prog w = .ok (.map es clock) w := by simp [getObj, Sem.run, hm]
  have hs : ∀ o', (setObj mb o').run Tryd.prog w = .ok () (w.putObj mb o') := fun o' => by simp [setObj, Sem.run, hm, World.putObj]
  simp [Sem.run_bind, hg, check_key, h1, hs]

/-- The same at the operations. -/
theorem wpList_look {ops : Array Oper} {rest : List Oper} {o : Oper} {a : Act} {w : World} {Q : Exit → Act → World → Prop} (hgd : o.guard = none) (m x : Operand) (hop : o.op = Op.lookup 102 m x true)
    (mb : Nat) (hm : a.eval m = .map (some mb)) (r n : Int) (hx : a.eval x = idv r n) (es : Array MapEntry) (clock : Nat) (l : List (Int × Int)) (hb : w.heap[mb]? = some (.map es clock)) (h : Ents es.toList l)
    (hk : wpList Tryd.prog ops Q rest (a.put o.dst (.tuple #[.agg #[], .bool (decide ((r, n) ∈ l))])) w) : wpList Tryd.prog ops Q (o :: rest) a w := by
  refine wpList_plain hgd fun K hK => ?_
  have hrun := run_look r n w mb es clock l hb h
  unfold Oper.wp
  simp only [execOp, hop, hm, hx, Sem.run_bind, hrun, Result.andThen_ok, Sem.run_pure]
  exact hK _ _ hk
theorem wpList_put {ops : Array Oper} {rest : List Oper} {o : Oper} {a : Act} {w : World} {Q : Exit → Act → World → Prop} (hgd : o.guard = none) (m x y : Operand) (hop : o.op = Op.mapUpdate 102 m x y)
    (mb : Nat) (hm : a.eval m = .map (some mb)) (r n : Int) (hx : a.eval x = idv r n) (hy : a.eval y = .agg #[]) (es : Array MapEntry) (clock : Nat) (l : List (Int × Int)) (hb : w.heap[mb]? = some (.map es clock)) (h : Ents es.toList l) (hn : (r, n) ∉ l)
    (hk : wpList Tryd.prog ops Q rest (a.put o.dst undef) (w.putObj mb (.map (es.push ⟨idv r n, .agg #[], clock⟩) (clock + 1)))) : wpList Tryd.prog ops Q (o :: rest) a w := by
  refine wpList_plain hgd fun K hK => ?_
  have hrun := run_put r n w mb es clock l hb h hn
  unfold Oper.wp
  simp only [execOp, hop, hm, hx, hy, Sem.run_bind, hrun, Result.andThen_ok, Sem.run_pure]
  exact hK _ _ hk
theorem Ents.push {es : Array MapEntry} {l : List (Int × Int)} (h : Ents es.toList l) (r n : Int) (c : Nat) : Ents (es.push ⟨idv r n, .agg #[], c⟩).toList (l ++ [(r, n)]) := by
  unfold Ents at h ⊢
  simp [h]
theorem Fr.of_put (w : World) (b : Nat) (o : Obj) : Fr (fun k => k = b) w (w.putObj b o) := ⟨rfl, rfl, rfl, by simp, fun k _ hn => World.putObj_heap_other hn⟩

end Go.Proofs.YtaojeanoojnknaaDoor

/-
  What the function inside Needs does, for all names: proved here by what the map and the list hold behind it.
-/
namespace Go.Proofs.YtaojeanoojnknaaDoor
open Go.RowKit
set_option linter.unusedVariables false
set_option maxRecDepth 100000

/-- A name, noted. -/
def noteL (l : List (Int × Int)) (x : Int × Int) : List (Int × Int) := if x ∈ l ∨ x.2 = 0 then l else l ++ [x]

structure Nt (B : Nat) (w : World) (bv mb bl : Nat) (v : Value) (l : List (Int × Int)) : Prop where
  h1 : w.heap[bv]? = some (.cells #[.map (some mb)] 102 (0, 0))
  h2 : ∃ es clock, w.heap[mb]? = some (.map es clock) ∧ Ents es.toList l
  h3 : w.heap[bl]? = some (.cells #[v] 61 (0, 0))
  h4 : w.ownsRow B 38 2 v l.length (l.flatMap idc)
  le : B ≤ bv ∧ B ≤ mb ∧ B ≤ bl
theorem Nt.far {B : Nat} {w : World} {bv mb bl : Nat} {v : Value} {l : List (Int × Int)} (h : Nt B w bv mb bl v l) : mb ≠ bv ∧ mb ≠ bl ∧ bv ≠ bl ∧ v.ownBlock ≠ some bv ∧ v.ownBlock ≠ some mb ∧ v.ownBlock ≠ some bl := by
  obtain ⟨es, clock, hm, _⟩ := h.h2
  have k1 := h.h1
  have k3 := h.h3
  have own : ∀ k, v.ownBlock = some k → ∃ c, w.heap[k]? = some (.cells c 38 (0, 0)) := by
    intro k hk
    rcases h.h4.2 with ⟨rfl, _⟩ | ⟨g, cap, cur, rfl, _, hg, _⟩
    · cases hk
    · simp [Value.ownBlock] at hk
      subst hk
      exact ⟨_, hg⟩
  refine ⟨?_, ?_, ?_, ?_, ?_, ?_⟩
  · intro e; subst e; rw [hm] at k1; simp at k1
  · intro e; subst e; rw [hm] at k3; simp at k3
  · intro e; subst e; rw [k1] at k3; simp at k3
  · intro e; obtain ⟨c, hc⟩ := own _ e; rw [hc] at k1; simp at k1
  · intro e; obtain ⟨c, hc⟩ := own _ e; rw [hc] at hm; simp at hm
  · intro e; obtain ⟨c, hc⟩ := own _ e; rw [hc] at k3; simp at k3
theorem heap_lt {w : World} {k : Nat} {o : Obj} (h : w.heap[k]? = some o) : k < w.heap.size := (Array.getElem?_eq_some_iff.1 h).1
theorem own_below2 {w w' : World} {base e sz : Nat} {v : Value} {n : Nat} {xs : List Value} (h : w.ownsRow base e sz v n xs) (hb : ∀ k, v.ownBlock = some k → w'.heap[k]? = w.heap[k]?) : w'.ownsRow base e sz v n xs := by
  refine ⟨h.1, ?_⟩
  rcases h.2 with h0 | ⟨g, cap, cur, rfl, hg, hh, r⟩
  · exact .inl h0
  · exact .inr ⟨g, cap, cur, rfl, hg, by rw [hb g rfl]; exact hh, r⟩
theorem Nt.below {B : Nat} {w w' : World} {bv mb bl : Nat} {v : Value} {l : List (Int × Int)} (h : Nt B w bv mb bl v l) (hb : Below w.heap.size w w') : Nt B w' bv mb bl v l := by
  obtain ⟨es, clock, hm, he⟩ := h.h2
  exact ⟨by rw [hb.block _ (heap_lt h.h1)]; exact h.h1, ⟨es, clock, by rw [hb.block _ (heap_lt hm)]; exact hm, he⟩, by rw [hb.block _ (heap_lt h.h3)]; exact h.h3, own_below2 h.h4 (fun k hk => hb.block k (h.h4.lt k hk).2), h.le⟩
theorem info_id : (Tryd.prog.info? 38).map (fun i => (i.zero, i.size, i.bytes)) = some (some (idv 0 0), 2, 16) := by kernel_rfl

set_option maxHeartbeats 2000000 in
theorem note_stay (B bv mb bl : Nat) (v : Value) (l : List (Int × Int)) (r n : Int) (w : World) (h : Nt B w bv mb bl v l) (hs : (r, n) ∈ l ∨ n = 0) (hB : B ≤ w.heap.size) :
    Calls Tryd.prog 59 #[idv r n, .pointer (some ⟨bv, 0, none⟩), .pointer (some ⟨bl, 0, none⟩)] w fun e w' => e = .returned (.tuple #[]) ∧ Nt B w' bv mb bl v l ∧ Below w.heap.size w w' := by
  have HA := hid (ba w (ido 38 r n))
  have HN := hid (h.below HA.out)
  have HA2 := hid (ba (w.alloc (ido 38 r n)) (.cells #[] 103))
  have HN2 := hid (HN.out.below HA2.out)
  obtain ⟨es, clock, hm, he⟩ := HN.out.h2
  have HM := hid hm
  have HE := hid he
  have c1 : (w.alloc (ido 38 r n)).cell? ⟨bv, 0, none⟩ = some (.map (some mb)) := cell_of_row _ _ 0 _ _ _ HN.out.h1
  have n1 : ((w.alloc (ido 38 r n)).alloc (.cells #[] 103)).cell? ⟨w.heap.size, 1, none⟩ = some (.int .i64 n) := cell_of_row _ _ 1 _ _ _ (heap_alloc2_old w _ _)
  clear h hm he
  cases hd : decide ((r, n) ∈ l)
  · have hn0 : n = 0 := by
      rcases hs with hs | hs
      · simp [hs] at hd
      · exact hs
    subst hn0
    clear hs
    go_enter Tryd.func59, Tryd.ntmps59
    go_wp2_with (refine wpList_look rfl _ _ rfl mb rfl r 0 rfl es clock l HM.out HE.out ?_; rw [hd])
    refine bodyPost_ret (results_none rfl _ _ _) rfl ?_
    exact ⟨rfl, HN2.out, bt HA.out HA2.out⟩
  · clear hs
    go_enter Tryd.func59, Tryd.ntmps59
    go_wp2_with (refine wpList_look rfl _ _ rfl mb rfl r n rfl es clock l HM.out HE.out ?_; rw [hd])
    refine bodyPost_ret (results_none rfl _ _ _) rfl ?_
    exact ⟨rfl, HN2.out, bt HA.out HA2.out⟩


theorem noteL_len (l : List (Int × Int)) (x : Int × Int) : (noteL l x).length ≤ l.length + 1 := by
  unfold noteL
  split <;> simp
theorem own_shape {w : World} {B e sz n : Nat} {v : Value} {xs : List Value} (h : w.ownsRow B e sz v n xs) : ∃ a c, v = .slice a n c := by
  rcases h.2 with ⟨rfl, h0⟩ | ⟨g, cap, cur, rfl, _⟩
  · exact ⟨none, 0, by rw [h0]⟩
  · exact ⟨_, _, rfl⟩
theorem id_cells (l : List (Int × Int)) : ∀ u ∈ l.flatMap idc, u.oneCell' = true := by
  intro u hu
  obtain ⟨x, _, hx⟩ := List.mem_flatMap.1 hu
  simp [idc] at hx
  rcases hx with rfl | rfl <;> rfl

set_option maxHeartbeats 4000000 in
theorem note_new (B bv mb bl : Nat) (v : Value) (l : List (Int × Int)) (r n : Int) (w : World) (h : Nt B w bv mb bl v l) (hs : (r, n) ∉ l) (hn0 : n ≠ 0) (hB : B ≤ w.heap.size) (hl : l.length ≤ 1000000) :
    Calls Tryd.prog 59 #[idv r n, .pointer (some ⟨bv, 0, none⟩), .pointer (some ⟨bl, 0, none⟩)] w fun e w' => e = .returned (.tuple #[]) ∧ (∃ v', Nt B w' bv mb bl v' (l ++ [(r, n)])) ∧ Below B w w' := by
  have HA := hid (ba w (ido 38 r n))
  have HN := hid (h.below HA.out)
  have HA2 := hid (ba (w.alloc (ido 38 r n)) (.cells #[] 103))
  have HN2 := hid (HN.out.below HA2.out)
  have hlt1 := heap_lt h.h1
  have hlt3 := heap_lt h.h3
  obtain ⟨es, clock, hm, he⟩ := h.h2
  have hltm := heap_lt hm
  have hfar := h.far
  have hle := h.le
  have hm1 : (w.alloc (ido 38 r n)).heap[mb]? = some (.map es clock) := by rw [HA.out.block _ hltm]; exact hm
  have hm2 : ((w.alloc (ido 38 r n)).alloc (.cells #[] 103)).heap[mb]? = some (.map es clock) := by rw [HA2.out.block _ (heap_lt hm1)]; exact hm1
  have HM := hid hm1
  have HM2 := hid hm2
  have HE := hid he
  have c1 : (w.alloc (ido 38 r n)).cell? ⟨bv, 0, none⟩ = some (.map (some mb)) := cell_of_row _ _ 0 _ _ _ HN.out.h1
  have c2 : ((w.alloc (ido 38 r n)).alloc (.cells #[] 103)).cell? ⟨bv, 0, none⟩ = some (.map (some mb)) := cell_of_row _ _ 0 _ _ _ HN2.out.h1
  have n1 : ((w.alloc (ido 38 r n)).alloc (.cells #[] 103)).cell? ⟨w.heap.size, 1, none⟩ = some (.int .i64 n) := cell_of_row _ _ 1 _ _ _ (heap_alloc2_old w _ _)
  have n0 : ((w.alloc (ido 38 r n)).alloc (.cells #[] 103)).cell? ⟨w.heap.size, 0, none⟩ = some (.int .i64 r) := cell_of_row _ _ 0 _ _ _ (heap_alloc2_old w _ _)
  have hd : decide ((r, n) ∈ l) = false := decide_eq_false hs
  have hz : (n == 0) = false := by simpa using hn0
  -- behind the store into the map
  obtain ⟨w3, hw3⟩ : ∃ w3, ((w.alloc (ido 38 r n)).alloc (.cells #[] 103)).putObj mb (.map (es.push ⟨idv r n, .agg #[], clock⟩) (clock + 1)) = w3 := ⟨_, rfl⟩
  have hsz2 : ((w.alloc (ido 38 r n)).alloc (.cells #[] 103)).heap.size = w.heap.size + 2 := by simp
  have hF3 : Fr (fun k => k = mb) ((w.alloc (ido 38 r n)).alloc (.cells #[] 103)) w3 := by rw [← hw3]; exact Fr.of_put _ _ _
  have hs3 : w3.heap.size = w.heap.size + 2 := by rw [← hw3]; simp
  have m3 : w3.heap[mb]? = some (.map (es.push ⟨idv r n, .agg #[], clock⟩) (clock + 1)) := by rw [← hw3]; exact World.putObj_heap_same (by omega)
  have v3 : w3.heap[bv]? = some (.cells #[.map (some mb)] 102 (0, 0)) := hF3.rows HN2.out.h1 (by omega)
  have l3 : w3.heap[bl]? = some (.cells #[v] 61 (0, 0)) := hF3.rows HN2.out.h3 (by omega)
  have i3 : w3.heap[w.heap.size]? = some (.cells #[.int .i64 r, .int .i64 n] 38 (0, 0)) := hF3.rows (heap_alloc2_old w _ _) (by omega)
  have o3 : w3.ownsRow B 38 2 v l.length (l.flatMap idc) := own_below2 HN2.out.h4 (fun k hk => hF3.block k (HN2.out.h4.lt k hk).2 (fun e => hfar.2.2.2.2.1 (by rw [hk, e])))
  have a1 : w3.cell? ⟨bl, 0, none⟩ = some v := cell_of_row _ _ 0 _ _ _ l3
  have a2 : w3.cell? ⟨w.heap.size, 0, none⟩ = some (.int .i64 r) := cell_of_row _ _ 0 _ _ _ i3
  have a3 : w3.cell? ⟨w.heap.size, 1, none⟩ = some (.int .i64 n) := cell_of_row _ _ 1 _ _ _ i3
  have HW3 := hid hw3
  have HF3 := hid hF3
  have M3 := hid m3
  have V3 := hid v3
  have L3 := hid l3
  -- behind the one name that is laid for the append
  have hA4 := ba w3 (ido 38 r n)
  have O4 : Hid ((w3.alloc (ido 38 r n)).ownsRow B 38 2 v l.length (l.flatMap idc)) := hid (own_below2 o3 (fun k hk => hA4.block k (o3.lt k hk).2))
  have S4 : Hid (Sl 2 (w3.alloc (ido 38 r n)) (.slice (some ⟨w3.heap.size, 0, none⟩) 1 1) 1 ([(r, n)].flatMap idc)) := hid (Sl.lit (sz := 2) w3 38 #[.int .i64 r, .int .i64 n] 1 (by unfold maxLen; omega) rfl)
  rw [hs3] at S4
  have HA4 := hid hA4
  have HFAR := hid hfar
  obtain ⟨va, vc, hv, _⟩ : ∃ a c, v = .slice a l.length c ∧ l.length ≤ c := by
    rcases o3.2 with ⟨rfl, h0⟩ | ⟨g, cap, cur, rfl, _, _, h3, _⟩
    · exact ⟨none, 0, by rw [h0], by omega⟩
    · exact ⟨_, _, rfl, h3⟩
  have hbytes : (l.length + 1) * 16 ≤ 140737488355328 := by omega
  have hml : l.length + 1 ≤ maxLen := by unfold maxLen; omega
  have hb4 : B ≤ (w3.alloc (ido 38 r n)).heap.size := by have := HA4.out.size; omega
  have HB5 : Hid (bl < (w3.alloc (ido 38 r n)).heap.size) := hid (by have := HA4.out.size; omega)
  have K4 : Hid ((w3.alloc (ido 38 r n)).heap[bl]? = some (.cells #[v] 61 (0, 0))) := hid ((HA4.out.block bl (by omega)).trans L3.out)
  have HNE : Hid (some bl ≠ v.ownBlock) := hid (Ne.symm HFAR.out.2.2.2.2.2)
  subst hv
  clear h hm he hs hm1 hm2 hw3 hF3 m3 v3 l3 i3 o3 hA4 hfar
  go_enter Tryd.func59, Tryd.ntmps59
  go_wp2_with (first
    | (refine wpList_look rfl _ _ rfl mb rfl r n rfl es clock l HM.out HE.out ?_; rw [hd])
    | (refine wpList_put rfl _ _ _ rfl mb rfl r n rfl rfl es clock l HM2.out HE.out (by simpa using hd) ?_; rw [HW3.out])
    | (at_builtin; refine wpList_append_sl 61 38 2 16 (idv 0 0) Tryd.underlying61 info_id rfl (Nat.succ_pos 1) rfl _ _ rfl B _ _ _ rfl O4.out _ 1 ([(r,n)].flatMap idc) rfl S4.out (id_cells _) hbytes hml hb4 ?_; intro v5 w5 hown5 hg5 hv5; obtain ⟨a5,c5,rfl⟩ := own_shape hown5; have HO5 := hid hown5; have HG5 := hid hg5; have HV5 := hid hv5; have l5 := (hg5.block bl HB5.out HNE.out).trans K4.out; have L5 := hid l5; have z1 := cell_of_row w5 bl 0 _ _ _ l5; have z2 := frozen_of_row w5 bl 0 _ _ l5; simp at z1; clear hown5 hg5 hv5 l5))
  go_end0
  have hown := HO5.out
  have hne5 : (Value.slice a5 (l.length + 1) c5).ownBlock ≠ some bl := by
    rcases HV5.out with e | e
    · rw [e]; exact HFAR.out.2.2.2.2.2
    · rw [e]
      have := HB5.out
      simp
      omega
  have hgr : ∀ k, k < w.heap.size → k ≠ bl → (.slice va l.length vc : Value).ownBlock ≠ some k → (w5.setCell ⟨bl, 0, none⟩ (.slice a5 (l.length + 1) c5)).heap[k]? = w3.heap[k]? := fun k hk hkb hkv => by
    rw [heap_setCell_other _ _ _ _ (by simpa using hkb), HG5.out.block k (Nat.lt_of_lt_of_le (show k < w3.heap.size by omega) HA4.out.size) (Ne.symm hkv)]
    exact HA4.out.block k (by omega)
  refine ⟨rfl, ⟨.slice a5 (l.length + 1) c5, ?_, ⟨es.push ⟨idv r n, .agg #[], clock⟩, clock + 1, ?_, HE.out.push r n clock⟩, ?_, ?_, hle⟩, ?_⟩
  · rw [hgr bv hlt1 HFAR.out.2.2.1 HFAR.out.2.2.2.1]; exact V3.out
  · rw [hgr mb hltm HFAR.out.2.1 HFAR.out.2.2.2.2.1]; exact M3.out
  · exact set_row (i := 0) L5.out _
  · have := ownsRow_setCell_other (a := ⟨bl, 0, none⟩) hown hne5 (.slice a5 (l.length + 1) c5)
    simpa using this
  · refine Fr.below (S := fun k => B ≤ k) ?_ (fun k hk hs => by omega) hB
    have f1 : Fr (fun k => B ≤ k) w w3 := (Fr.of_below (bt HA.out HA2.out)).trans HF3.out (fun k _ e => by omega)
    have f2 := f1.trans (Fr.of_below HA4.out : Fr (fun k => B ≤ k) _ _) (fun _ _ h => h)
    have f3 := f2.trans (Fr.of_grown HG5.out (S := fun k => B ≤ k) (fun k hk => (O4.out.lt k hk).1)) (fun _ _ h => h)
    exact f3.set 0 _ (.inr hle.2.2)

theorem note_any (B bv mb bl : Nat) (v : Value) (l : List (Int × Int)) (r n : Int) (w : World) (h : Nt B w bv mb bl v l) (hB : B ≤ w.heap.size) (hl : l.length ≤ 1000000) :
    Calls Tryd.prog 59 #[idv r n, .pointer (some ⟨bv, 0, none⟩), .pointer (some ⟨bl, 0, none⟩)] w fun e w' => e = .returned (.tuple #[]) ∧ (∃ v', Nt B w' bv mb bl v' (noteL l (r, n))) ∧ Below B w w' := by
  unfold noteL
  by_cases hs : (r, n) ∈ l ∨ (r, n).2 = 0
  · rw [if_pos hs]
    exact (note_stay B bv mb bl v l r n w h hs hB).mono fun _ _ ⟨h1, h2, h3⟩ => ⟨h1, ⟨v, h2⟩, h3.mono hB⟩
  · rw [if_neg hs]
    exact note_new B bv mb bl v l r n w h (fun e => hs (.inl e)) (fun e => hs (.inr e)) hB hl

end Go.Proofs.YtaojeanoojnknaaDoor

/-
  An append to a row of the call's own in which there is no byte: there is none behind it either (so a cursor's bytes lie elsewhere).
-/
namespace Go.Proofs.YtaojeanoojnknaaDoor
open Go.RowKit
set_option linter.unusedVariables false
set_option maxRecDepth 100000

def NoB (u : Value) : Prop := ∀ x, u ≠ .int .u8 x
end Go.Proofs.YtaojeanoojnknaaDoor
