/-
  Parts of the proof, one behind the other; what each proves stands at its head.
-/
import Derived.Test.YtaojeanoojnknaaDoorPart8
import Derived.Test.YtaojeanoojnknaaDoorPart20
import Derived.Test.YtaojeanoojnknaaDoorPart17
import Derived.Test.YtaojeanoojnknaaDoorPart11
import Derived.Maps.RangeRun

/-
  Ops that wait, as data: which are ready for a vector, what Offer, Take and Drop answer and leave. Nothing of the program is walked here.
-/
namespace Go.Proofs.YtaojeanoojnknaaDoor
open Go.RowKit
set_option linter.unusedVariables false
set_option maxRecDepth 100000

/-- A name's order. -/
def kl (a b : Int × Int) : Prop := a.1 < b.1 ∨ a.1 = b.1 ∧ a.2 < b.2
def klB (a b : Int × Int) : Bool := decide (a.1 < b.1 ∨ a.1 = b.1 ∧ a.2 < b.2)
theorem klB_iff {a b : Int × Int} : klB a b = true ↔ kl a b := decide_eq_true_iff
theorem klB_no {a b : Int × Int} : klB a b = false ↔ ¬ kl a b := by rw [← klB_iff, Bool.not_eq_true]
abbrev ido2 (o : Opn) : Int × Int := (o.ir, o.im)
theorem kl_irrefl (a : Int × Int) : ¬ kl a a := by unfold kl; omega
theorem kl_trans {a b c : Int × Int} (h : kl a b) (k : kl b c) : kl a c := by unfold kl at *; omega
theorem kl_total {a b : Int × Int} (h : a ≠ b) : kl a b ∨ kl b a := by
  unfold kl
  by_cases h1 : a.1 = b.1
  · by_cases h2 : a.2 = b.2
    · exact absurd (Prod.ext h1 h2) h
    · omega
  · omega
theorem od_lt (a b : Int × Int) : od a.1 a.2 b.1 b.2 < 0 ↔ kl a b := by
  unfold od Lib.compareInt kl
  by_cases h1 : a.1 < b.1
  · simp [h1]
  · by_cases h2 : a.1 > b.1
    · simp [h1, h2]
      omega
    · have e : a.1 = b.1 := by omega
      by_cases h3 : a.2 < b.2
      · simp [e, h3]
      · by_cases h4 : a.2 > b.2
        · simp [e, h3, h4]
        · simp [e, h3, h4]

/-- Is it ready? -/
def readyO (V : List Int) (o : Opn) : Bool := rightO o && decide (nextV V o.ir = o.im) && (needsO o).all (fun x => hasV V x.1 x.2)
/-- Ops that wait: in order of their names, right ones. -/
def Srted (l : List Opn) : Prop := l.Pairwise (fun p q => kl (ido2 p) (ido2 q))
def Wl (l : List Opn) : Prop := Srted l ∧ ∀ o ∈ l, rightO o = true
def insO (o : Opn) (l : List Opn) : List Opn := l.filter (fun p => klB (ido2 p) (ido2 o)) ++ o :: l.filter (fun p => klB (ido2 o) (ido2 p))
def offC (V : List Int) (l : List Opn) (o : Opn) : Int := if rightO o = false then 10 else if hasV V o.ir o.im = true ∨ ido2 o ∈ l.map ido2 then 12 else if 64 ≤ l.length ∧ readyO V o = false then 14 else 0
def offL (V : List Int) (l : List Opn) (o : Opn) : List Opn := if offC V l o = 0 then insO o l else l
/-- The first that is ready, and the rest. -/
def takO (V : List Int) (l : List Opn) : Option Opn := l.find? (readyO V)
def takL (V : List Int) (l : List Opn) : List Opn := l.eraseP (readyO V)
def drpL (V : List Int) (l : List Opn) : List Opn := l.filter (fun o => !hasV V o.ir o.im)

theorem Srted.filter {l : List Opn} (h : Srted l) (f : Opn → Bool) : Srted (l.filter f) := List.Pairwise.filter f h
theorem Wl.filter {l : List Opn} (h : Wl l) (f : Opn → Bool) : Wl (l.filter f) := ⟨h.1.filter f, fun o ho => h.2 o (List.mem_filter.1 ho).1⟩
theorem Wl.nil : Wl [] := ⟨List.Pairwise.nil, by simp⟩
theorem Wl.erase {l : List Opn} (h : Wl l) (V : List Int) : Wl (takL V l) := ⟨List.Pairwise.sublist (List.eraseP_sublist) h.1, fun o ho => h.2 o (List.mem_of_mem_eraseP ho)⟩
theorem mem_insO {o p : Opn} {l : List Opn} : p ∈ insO o l → p = o ∨ p ∈ l := by
  unfold insO
  simp only [List.mem_append, List.mem_filter, List.mem_cons]
  rintro (h | h | h)
  · exact .inr h.1
  · exact .inl h
  · exact .inr h.1
theorem Wl.ins {l : List Opn} (h : Wl l) {o : Opn} (hr : rightO o = true) : Wl (insO o l) := by
  refine ⟨?_, ?_⟩
  · unfold Srted insO
    rw [List.pairwise_append, List.pairwise_cons]
    refine ⟨h.1.filter _, ⟨?_, h.1.filter _⟩, ?_⟩
    · intro p hp; exact klB_iff.1 (List.mem_filter.1 hp).2
    · intro p hp q hq
      have k1 : kl (ido2 p) (ido2 o) := klB_iff.1 (List.mem_filter.1 hp).2
      rcases List.mem_cons.1 hq with rfl | hq
      · exact k1
      · exact kl_trans k1 (klB_iff.1 (List.mem_filter.1 hq).2)
  · intro p hp
    rcases mem_insO hp with rfl | hp
    · exact hr
    · exact h.2 p hp
theorem Srted.split {l : List Opn} (h : Srted l) {o : Opn} (hn : ido2 o ∉ l.map ido2) : (l.filter (fun p => klB (ido2 p) (ido2 o))) ++ (l.filter (fun p => klB (ido2 o) (ido2 p))) = l := by
  induction l with
  | nil => rfl
  | cons x l ih =>
    have hx : ido2 x ≠ ido2 o := fun e => hn (by simp [e])
    have hs := List.pairwise_cons.1 h
    have ih := ih hs.2 (fun e => hn (by simp at e ⊢; exact .inr e))
    rcases kl_total hx with k | k
    · have k1 := klB_iff.2 k
      have k2 : klB (ido2 o) (ido2 x) = false := klB_no.2 (fun e => kl_irrefl _ (kl_trans k e))
      rw [List.filter_cons, if_pos k1, List.filter_cons, if_neg (by rw [k2]; decide), List.cons_append, ih]
    · have k' : ¬ kl (ido2 x) (ido2 o) := fun e => kl_irrefl _ (kl_trans k e)
      have e1 : (x :: l).filter (fun p => klB (ido2 p) (ido2 o)) = [] := by
        rw [List.filter_eq_nil_iff]
        intro p hp
        rw [klB_iff]
        rcases List.mem_cons.1 hp with rfl | hp
        · exact k'
        · exact fun e => kl_irrefl _ (kl_trans (kl_trans k (hs.1 p hp)) e)
      rw [e1, List.nil_append, List.filter_eq_self]
      intro p hp
      rw [klB_iff]
      rcases List.mem_cons.1 hp with rfl | hp
      · exact k
      · exact kl_trans k (hs.1 p hp)
theorem ins_perm {l : List Opn} (h : Srted l) {o : Opn} (hn : ido2 o ∉ l.map ido2) : (insO o l).Perm (o :: l) := by
  unfold insO
  refine List.perm_middle.trans ?_
  rw [h.split hn]
theorem ins_len {l : List Opn} (h : Srted l) {o : Opn} (hn : ido2 o ∉ l.map ido2) : (insO o l).length = l.length + 1 := by rw [(ins_perm h hn).length_eq]; rfl
theorem off_zero {V : List Int} {l : List Opn} {o : Opn} (h : offC V l o = 0) : rightO o = true ∧ hasV V o.ir o.im = false ∧ ido2 o ∉ l.map ido2 ∧ (l.length < 64 ∨ readyO V o = true) := by
  unfold offC at h
  split at h
  · cases h
  · rename_i h1
    split at h
    · cases h
    · rename_i h2
      split at h
      · cases h
      · rename_i h3
        simp only [not_or, not_and, Bool.not_eq_false, Bool.not_eq_true] at h1 h2 h3
        refine ⟨h1, h2.1, h2.2, ?_⟩
        by_cases hl : l.length < 64
        · exact .inl hl
        · exact .inr (h3 (by omega))
theorem off_len {V : List Int} {l : List Opn} (h : Wl l) (o : Opn) : (offL V l o).length = if offC V l o = 0 then l.length + 1 else l.length := by
  unfold offL
  split
  · rename_i hc
    exact ins_len h.1 (off_zero hc).2.2.1
  · rfl
theorem srted_nodup {l : List Opn} (h : Srted l) : (l.map ido2).Nodup := by
  unfold List.Nodup
  rw [List.pairwise_map]
  refine h.imp ?_
  intro a b hk e
  rw [e] at hk
  exact kl_irrefl _ hk

end Go.Proofs.YtaojeanoojnknaaDoor

/-
  A map whose keys are names, in memory: what a look-up, a store, a deletion and the steps of a range over it come to.
-/
namespace Go.Proofs.YtaojeanoojnknaaDoor
open Go.RowKit
set_option linter.unusedVariables false
set_option maxRecDepth 100000

abbrev Ent := (Int × Int) × Value
def Em (es : List MapEntry) (l : List Ent) : Prop := es.map (fun e => (e.key, e.val)) = l.map (fun x => (idv x.1.1 x.1.2, x.2))
theorem Em.len {es : List MapEntry} {l : List Ent} (h : Em es l) : es.length = l.length := by
  have := congrArg List.length h
  simpa using this
theorem Em.push {es : Array MapEntry} {l : List Ent} (h : Em es.toList l) (r n : Int) (v : Value) (c : Nat) : Em (es.push ⟨idv r n, v, c⟩).toList (l ++ [((r, n), v)]) := by
  unfold Em at h ⊢
  simp [h]
theorem ask_in (r n : Int) (w : World) : ∀ (es : List MapEntry) (l : List Ent) (i : Nat), Em es l →
    ((Instr.findAsking 38 (idv r n) es i).run Tryd.prog w = .ok none w ∧ ∀ x ∈ l, x.1 ≠ (r, n)) ∨
    ∃ j v, (Instr.findAsking 38 (idv r n) es i).run Tryd.prog w = .ok (some (i + j, v)) w ∧ l[j]? = some ((r, n), v) := by
  intro es
  induction es with
  | nil =>
    intro l i h
    have : l = [] := by
      cases l with
      | nil => rfl
      | cons x l => simp [Em] at h
    subst this
    exact .inl ⟨rfl, by simp⟩
  | cons e es ih =>
    intro l i h
    cases l with
    | nil => simp [Em] at h
    | cons x l =>
      unfold Em at h
      simp only [List.map_cons, List.cons.injEq, Prod.mk.injEq] at h
      obtain ⟨⟨hk, hv⟩, ht⟩ := h
      have he := equal_id r n x.1.1 x.1.2 w
      cases hc : (r == x.1.1 && n == x.1.2)
      · have hne : x.1 ≠ (r, n) := by
          intro e
          rw [e] at hc
          simp at hc
        rcases ih l (i + 1) ht with ⟨h1, h2⟩ | ⟨j, v, h1, h2⟩
        · refine .inl ⟨?_, fun y hy => ?_⟩
          · unfold Instr.findAsking
            rw [hk, Sem.run_bind, he, hc]
            exact h1
          · rcases List.mem_cons.1 hy with rfl | hy
            · exact hne
            · exact h2 y hy
        · refine .inr ⟨j + 1, v, ?_, by simpa using h2⟩
          unfold Instr.findAsking
          rw [hk, Sem.run_bind, he, hc]
          rw [show i + (j + 1) = i + 1 + j from by omega]
          exact h1
      · refine .inr ⟨0, x.2, ?_, ?_⟩
        · unfold Instr.findAsking
          rw [hk, Sem.run_bind, he, hc, hv]
          rfl
        · simp at hc
          have : x.1 = (r, n) := by rw [hc.1, hc.2]
          simp [← this]
theorem find_in (r n : Int) (w : World) (es : List MapEntry) (l : List Ent) (h : Em es l) :
    ((Instr.findKey 38 (idv r n) es).run Tryd.prog w = .ok none w ∧ ∀ x ∈ l, x.1 ≠ (r, n)) ∨
    ∃ j v, (Instr.findKey 38 (idv r n) es).run Tryd.prog w = .ok (some (j, v)) w ∧ l[j]? = some ((r, n), v) := by
  unfold Instr.findKey
  rw [Sem.run_bind, run_underlying Tryd.underlying38]
  cases es with
  | nil =>
    have : l = [] := by
      cases l with
      | nil => rfl
      | cons x l => simp [Em] at h
    subst this
    exact .inl ⟨rfl, by simp⟩
  | cons e es =>
    rcases ask_in r n w (e :: es) l 0 h with h1 | ⟨j, v, h1, h2⟩
    · exact .inl h1
    · rw [Nat.zero_add] at h1
      exact .inr ⟨j, v, h1, h2⟩

theorem run_lk_none {T E : TypeId} (hT : Tryd.prog.underlying T = some (.map 38 E)) (r n : Int) (w : World) (mb : Nat) (es : Array MapEntry) (clock : Nat) (l : List Ent) (hm : w.heap[mb]? = some (.map es clock)) (h : Em es.toList l) (b : Bool) (z : Value) (hz : (zeroValue E).run Tryd.prog w = .ok z w) (hn : ∀ x ∈ l,x.1 ≠ (r,n)) :
    (Instr.lookup T (.map (some mb)) (idv r n) b).run Tryd.prog w = .ok (if b then .tuple #[z, .bool false] else z) w := by
  unfold Instr.lookup
  rw [Sem.run_bind, run_underlying hT]
  have hg : (getObj mb).run Tryd.prog w = .ok (.map es clock) w := by simp [getObj, Sem.run, hm]
  rcases find_in r n w es.toList l h with ⟨h1, h2⟩ | ⟨j, v, h1, h2⟩
  · simp [Sem.run_bind, hg, check_key, h1, hz]
  · exact absurd rfl (hn _ (List.mem_of_getElem? h2))
theorem run_lk_some {T E : TypeId} (hT : Tryd.prog.underlying T = some (.map 38 E)) (r n : Int) (w : World) (mb : Nat) (es : Array MapEntry) (clock : Nat) (l : List Ent) (hm : w.heap[mb]? = some (.map es clock)) (h : Em es.toList l) (b : Bool) (v : Value) (hn : ∀ x ∈ l,x.1 = (r,n) → x.2 = v) (hi : ∃ x ∈ l,x.1 = (r,n)) :
    (Instr.lookup T (.map (some mb)) (idv r n) b).run Tryd.prog w = .ok (if b then .tuple #[v, .bool true] else v) w := by
  unfold Instr.lookup
  rw [Sem.run_bind, run_underlying hT]
  have hg : (getObj mb).run Tryd.prog w = .ok (.map es clock) w := by simp [getObj, Sem.run, hm]
  rcases find_in r n w es.toList l h with ⟨h1, h2⟩ | ⟨j, u, h1, h2⟩
  · obtain ⟨x, hx, e⟩ := hi
    exact absurd e (h2 x hx)
  · obtain rfl : u = v := hn _ (List.mem_of_getElem? h2) rfl
    simp [Sem.run_bind, hg, check_key, h1]
theorem run_ps {T E : TypeId} (hT : Tryd.prog.underlying T = some (.map 38 E)) (r n : Int) (w : World) (mb : Nat) (es : Array MapEntry) (clock : Nat) (l : List Ent) (hm : w.heap[mb]? = some (.map es clock)) (h : Em es.toList l) (v : Value) (hn : ∀ x ∈ l, x.1 ≠ (r, n)) :
    (Instr.mapUpdate T (.map (some mb)) (idv r n) v).run Tryd.prog w = .ok () (w.putObj mb (.map (es.push ⟨idv r n, v, clock⟩) (clock + 1))) := by
  unfold Instr.mapUpdate
  rw [Sem.run_bind, run_underlying hT]
  have hg : (getObj mb).run Tryd.prog w = .ok (.map es clock) w := by simp [getObj, Sem.run, hm]
  have hs : ∀ o', (setObj mb o').run Tryd.prog w = .ok () (w.putObj mb o') := fun o' => by simp [setObj, Sem.run, hm, World.putObj]
  rcases find_in r n w es.toList l h with ⟨h1, h2⟩ | ⟨j, u, h1, h2⟩
  · simp [Sem.run_bind, hg, check_key, h1, hs]
  · exact absurd rfl (hn _ (List.mem_of_getElem? h2))
theorem run_dl {T E : TypeId} (hT : Tryd.prog.underlying T = some (.map 38 E)) (r n : Int) (w : World) (mb : Nat) (es : Array MapEntry) (clock : Nat) (l : List Ent) (hm : w.heap[mb]? = some (.map es clock)) (h : Em es.toList l) (ty : TypeId) (hn : (l.map (·.1)).Nodup) (j : Nat) (v : Value) (hj : l[j]? = some ((r,n),v)) :
    (Builtin.delete_ #[T, 38] ty #[.map (some mb), idv r n]).run Tryd.prog w = .ok (.tuple #[]) (w.putObj mb (.map (es.eraseIdxIfInBounds j) clock)) := by
  unfold Builtin.delete_
  have hg : (getObj mb).run Tryd.prog w = .ok (.map es clock) w := by simp [getObj, Sem.run, hm]
  have hs : ∀ o', (setObj mb o').run Tryd.prog w = .ok () (w.putObj mb o') := fun o' => by simp [setObj, Sem.run, hm, World.putObj]
  rcases find_in r n w es.toList l h with ⟨h1, h2⟩ | ⟨i, u, h1, h2⟩
  · exact absurd rfl (h2 _ (List.mem_of_getElem? hj))
  · have hij : i = j := by
      have e1 : (l.map (·.1))[i]? = some (r, n) := by simp [h2]
      have e2 : (l.map (·.1))[j]? = some (r, n) := by simp [hj]
      have hi := (List.getElem?_eq_some_iff.1 e1).1
      exact (List.getElem?_inj hi hn).1 (e1.trans e2.symm)
    subst hij
    simp [Sem.run_bind, run_underlying hT, hg, check_key, h1, hs]

section
variable {ops : Array Oper} {rest : List Oper} {o : Oper} {a : Act} {w : World} {Q : Exit → Act → World → Prop} {T E : TypeId}
end

/-- A map's block. -/
structure Mp (w : World) (mb : Nat) (l : List Ent) (es : Array MapEntry) (clock : Nat) : Prop where
  at' : w.heap[mb]? = some (.map es clock)
  em : Em es.toList l
  nd : (es.toList.map (·.born)).Nodup
  old : ∀ e ∈ es.toList, e.born < clock
theorem Mp.lt {w : World} {mb : Nat} {l : List Ent} {es : Array MapEntry} {c : Nat} (h : Mp w mb l es c) : mb < w.heap.size := (Array.getElem?_eq_some_iff.1 h.at').1
theorem Mp.put {w : World} {mb : Nat} {l : List Ent} {es : Array MapEntry} {c : Nat} (h : Mp w mb l es c) (r n : Int) (v : Value) :
    Mp (w.putObj mb (.map (es.push ⟨idv r n, v, c⟩) (c + 1))) mb (l ++ [((r, n), v)]) (es.push ⟨idv r n, v, c⟩) (c + 1) := by
  refine ⟨World.putObj_heap_same h.lt, h.em.push r n v c, ?_, ?_⟩
  · simp only [Array.toList_push, List.map_append, List.map_cons, List.map_nil]
    rw [List.nodup_append]
    refine ⟨h.nd, by simp, fun a ha b hb e => ?_⟩
    obtain ⟨x, hx, rfl⟩ := List.mem_map.1 ha
    rw [List.mem_singleton] at hb
    have := h.old x hx
    omega
  · intro e he
    simp only [Array.toList_push, List.mem_append, List.mem_singleton] at he
    rcases he with he | rfl
    · have := h.old e he; omega
    · exact Nat.lt_succ_self _
theorem erase_toList (es : Array MapEntry) (j : Nat) : (es.eraseIdxIfInBounds j).toList = es.toList.eraseIdx j := by
  unfold Array.eraseIdxIfInBounds
  split
  · simp
  · rename_i hj
    rw [List.eraseIdx_of_length_le (by simpa using hj)]
theorem erase_map {α β : Type} (f : α → β) : ∀ (l : List α) (j : Nat), (l.eraseIdx j).map f = (l.map f).eraseIdx j
  | [], _ => rfl
  | _ :: _, 0 => rfl
  | x :: l, j + 1 => congrArg (f x :: ·) (erase_map f l j)
theorem Mp.del {w : World} {mb : Nat} {l : List Ent} {es : Array MapEntry} {c : Nat} (h : Mp w mb l es c) (j : Nat) :
    Mp (w.putObj mb (.map (es.eraseIdxIfInBounds j) c)) mb (l.eraseIdx j) (es.eraseIdxIfInBounds j) c := by
  refine ⟨World.putObj_heap_same h.lt, ?_, ?_, ?_⟩
  · have := h.em
    unfold Em at this ⊢
    rw [erase_toList, erase_map, this, erase_map]
  · rw [erase_toList, erase_map]
    exact List.Nodup.sublist (List.eraseIdx_sublist _ _) h.nd
  · intro e he
    rw [erase_toList] at he
    exact h.old e (List.mem_of_mem_eraseIdx he)
theorem Mp.kept {w w' : World} {mb : Nat} {l : List Ent} {es : Array MapEntry} {c : Nat} (h : Mp w mb l es c) (hb : w'.heap[mb]? = w.heap[mb]?) : Mp w' mb l es c := ⟨by rw [hb]; exact h.at', h.em, h.nd, h.old⟩
theorem Mp.below {w w' : World} {mb : Nat} {l : List Ent} {es : Array MapEntry} {c : Nat} (h : Mp w mb l es c) (hb : Below w.heap.size w w') : Mp w' mb l es c := h.kept (hb.block mb h.lt)
theorem Mp.size {w : World} {mb : Nat} {l : List Ent} {es : Array MapEntry} {c : Nat} (h : Mp w mb l es c) : es.size = l.length := by
  have := h.em.len
  simpa using this

end Go.Proofs.YtaojeanoojnknaaDoor
