/-
  Parts of the proof, one behind the other; what each proves stands at its head.
-/
import Derived.Test.YtkaphlpohhaacaaPart18

/-
  A list of calls in memory (two numbers, an item, a cut): 'Zc w v qs'; what great answers for it.
-/
namespace Go.Proofs.Ytkaphlpohhaacaa
open Go.RowKit
set_option linter.unusedVariables false
set_option linter.unusedSimpArgs false
set_option maxRecDepth 100000

structure Zq where
  w : Int
  p : Int
  x : Un
  r : Int
  n : Int
  f : Int
  t : Int
abbrev zqc (q : Zq) : List Value :=
  [.int .i64 q.w,.int .i64 q.p,.int .i64 q.x.r,.int .i64 q.x.n,.int .i64 q.x.f,.int .i64 q.x.l,.int .i64 q.x.a,.int .i64 q.x.b,.int .i64 q.x.c,.int .i64 q.x.d,.int .i64 q.x.e,.int .i64 q.x.h,.bool q.x.g,.bool q.x.m,.string q.x.t,.int .i64 q.r,.int .i64 q.n,.int .i64 q.f,.int .i64 q.t]
def Zc (w : World) (v : Value) (qs : List Zq) : Prop := Sl 19 w v qs.length (qs.flatMap zqc)
theorem Zc.below {w w' : World} {v : Value} {qs : List Zq} (h : Zc w v qs) (hb : Below w.heap.size w w') : Zc w' v qs := Sl.below h hb
theorem Zc.nil (w : World) : Zc w (.slice none 0 0) [] := Sl.nil 19 w
/-- One call's cells. -/
structure Zk (w : World) (b o : Nat) (q : Zq) : Prop where
  c0 : w.cell? ⟨b, o, none⟩ = some (.int .i64 q.w)
  c1 : w.cell? ⟨b, o + 1, none⟩ = some (.int .i64 q.p)
  x : Uc w b (o + 2) q.x
  k : Kc w b (o + 15) q.r q.n q.f q.t
theorem Kc.kept {w w' : World} {b o : Nat} {r n f t : Int} (h : Kc w b o r n f t) (hb : w'.heap[b]? = w.heap[b]?) : Kc w' b o r n f t :=
  ⟨(World.cell?_of_block (a := ⟨b, o, none⟩) hb).trans h.c0, (World.cell?_of_block (a := ⟨b, o + 1, none⟩) hb).trans h.c1, (World.cell?_of_block (a := ⟨b, o + 2, none⟩) hb).trans h.c2, (World.cell?_of_block (a := ⟨b, o + 3, none⟩) hb).trans h.c3⟩
theorem Zk.kept {w w' : World} {b o : Nat} {q : Zq} (h : Zk w b o q) (hb : w'.heap[b]? = w.heap[b]?) : Zk w' b o q :=
  ⟨(World.cell?_of_block (a := ⟨b, o, none⟩) hb).trans h.c0, (World.cell?_of_block (a := ⟨b, o + 1, none⟩) hb).trans h.c1, h.x.kept hb, h.k.kept hb⟩
theorem Zk.lt {w : World} {b o : Nat} {q : Zq} (h : Zk w b o q) : b < w.heap.size := World.block_lt_of_cell? _ _ h.c0
theorem Zk.below {w w' : World} {b o : Nat} {q : Zq} (h : Zk w b o q) (hb : Below w.heap.size w w') : Zk w' b o q := h.kept (hb.block b h.lt)
theorem Zc.inv {w : World} {v : Value} {qs : List Zq} (h : Zc w v qs) (hn : 0 < qs.length) : ∃ b off c, v = .slice (some ⟨b, off, none⟩) qs.length c ∧ b < w.heap.size ∧ ∀ i (hi : i < qs.length), Zk w b (off + i * 19) (qs[i]) := by
  obtain ⟨b, off, c, h1, h2, h3, h4, h5⟩ := Sl.inv h hn (by decide)
  refine ⟨b, off, c, h1, h4, fun i hi => ?_⟩
  have key : ∀ j, j < 19 → w.cell? ⟨b, off + i * 19 + j, none⟩ = (zqc qs[i])[j]? := fun j hj => by
    have e := flat_at zqc 19 (fun _ => rfl) qs i j hi hj
    have hl : j < (zqc qs[i]).length := hj
    rw [Nat.add_assoc, List.getElem?_eq_getElem hl]
    exact h5 _ _ (by rw [e, List.getElem?_eq_getElem hl])
  exact ⟨key 0 (by decide), key 1 (by decide),
    ⟨key 2 (by decide), key 3 (by decide), key 4 (by decide), key 5 (by decide), key 6 (by decide), key 7 (by decide), key 8 (by decide), key 9 (by decide), key 10 (by decide), key 11 (by decide), key 12 (by decide), key 13 (by decide), key 14 (by decide)⟩,
    ⟨key 15 (by decide), key 16 (by decide), key 17 (by decide), key 18 (by decide)⟩⟩
section
variable {o : Oper} {a : Act} {W : World} {x y : Operand} {b i : Nat}
theorem runU_cut {r n f t : Int} (ho : o.op = .load 38 x) (hx : a.eval x = .pointer (some ⟨b, i, none⟩)) (h : Kc W b i r n f t) : (execOp a.eval o).run Try.prog W = .ok (.value (cuv r n f t)) W := by
  have h0 := h.c0
  have h1 := h.c1
  have h2 := h.c2
  have h3 := h.c3
  unfold execOp
  simp only [ho, hx]
  simp [go_sem, h0, h1, h2, h3]
theorem runU_ixC {g off n c k : Nat} (ho : o.op = .indexAddr 22 x y) (hx : a.eval x = .slice (some ⟨g, off, none⟩) n c) (hy : a.eval y = .int .i64 (k : Nat)) (hk : k < n) : (execOp a.eval o).run Try.prog W = .ok (.value (.pointer (some ⟨g, off + k * 19, none⟩))) W := by
  have hk' : (k : Int) < (n : Int) := by omega
  unfold execOp
  simp only [ho, hx, hy]
  simp [go_sem, hk']
theorem runU_ixI {g off n c k : Nat} (ho : o.op = .indexAddr 32 x y) (hx : a.eval x = .slice (some ⟨g, off, none⟩) n c) (hy : a.eval y = .int .i64 (k : Nat)) (hk : k < n) : (execOp a.eval o).run Try.prog W = .ok (.value (.pointer (some ⟨g, off + k * 13, none⟩))) W := by
  have hk' : (k : Int) < (n : Int) := by omega
  unfold execOp
  simp only [ho, hx, hy]
  simp [go_sem, hk']
end

/-- What great lets through. -/
def GrZ (n : Nat) (e : Ending) : Prop := ∃ g : Bool, e = .returned (.bool g) ∧ (g = false → n ≤ 100)
set_option maxHeartbeats 2000000 in
theorem ugreat_any (A : Value) (qs : List Zq) (w : World) (h : Zc w A qs) :
    Calls Try.prog 8 #[A] w fun e w' => GrZ qs.length e ∧ w = w' := by
  obtain ⟨a, c, rfl, hc0, hc1⟩ := Sl.form h
  obtain ⟨n, hn⟩ : ∃ n, qs.length = n := ⟨_, rfl⟩
  have HQ := hid h
  have HN := hid hn
  rw [hn] at hc0 HQ
  unfold maxLen at hc1
  clear h
  rw [hn]
  clear hn
  by_cases hb : (100 : Int) < n
  · go_enter Try.func8, Try.ntmps8
    go_wp2
    go_ret
    exact ⟨⟨true, rfl, fun h => by cases h⟩, rfl⟩
  · have hb' : ¬ (100 : Int) < n := hb
    have hn150 : n ≤ 100 := by omega
    go_enter Try.func8, Try.ntmps8
    go_wp2
    go_loop [3] (fun i => ∃ k : Nat, k ≤ n ∧ i = .int .i64 k) (fun i => n - (intOf i).toNat)
    case atStart => exact ⟨0, Nat.zero_le _, rfl⟩
    case round =>
      obtain ⟨k, hk, rfl⟩ := hrel
      by_cases hlt : k < n
      · have hlt' : (k : Int) < (n : Int) := by omega
        have hx : k < qs.length := by rw [HN.out]; exact hlt
        obtain ⟨b, off, c', e1, hbb, hcc⟩ := HQ.out.inv (by rw [HN.out]; omega)
        rw [HN.out] at e1
        simp only [Value.slice.injEq] at e1
        obtain ⟨rfl, -, rfl⟩ := e1
        have c14 : w.cell? ⟨b, off + k * 19 + 14, none⟩ = some (.string (qs[k]).x.t) := (hcc k hx).x.c12
        obtain ⟨s, hs⟩ : ∃ s, (qs[k]).x.t = s := ⟨_, rfl⟩
        rw [hs] at c14
        clear hcc hs
        by_cases hg : (200 : Int) < (s.size : Int)
        · go_wp2
          go_ret
          exact ⟨⟨true, rfl, fun h => by cases h⟩, rfl⟩
        · have hg' : ¬ (200 : Int) < (s.size : Int) := hg
          go_wp2
          go_round
          case rel => exact ⟨k + 1, hlt, by go_num⟩
          case measure => simp [intOf]; omega
      · obtain rfl : k = n := by omega
        have hnl : ¬ (k : Int) < (k : Int) := by omega
        go_wp2
        go_ret
        exact ⟨⟨false, rfl, fun _ => hn150⟩, rfl⟩

/-- What a call makes of the characters; a row of calls. -/
def callC (T : List Un) (q : Zq) : List Un := if q.w = 0 then putC T q.p q.x else T.map (cutC q.r q.n q.f q.t)
def callsC (qs : List Zq) : List Un := qs.foldl callC []
theorem putC_len (T : List Un) (p : Int) (z : Un) : (putC T p z).length ≤ T.length + 64 := by
  unfold putC
  split
  · rename_i h
    have hz : rightB z = true := by
      cases hz : rightB z
      · unfold putE at h; rw [if_pos hz] at h; cases h
      · rfl
    obtain ⟨_, h1, h2, _⟩ := rightB_at hz
    have : (ownU z).l = z.l := rfl
    rw [List.length_append, List.length_append, List.length_take, List.length_drop, chs_len, this]
    omega
  · omega
theorem callC_len (T : List Un) (q : Zq) : (callC T q).length ≤ T.length + 64 := by
  unfold callC
  split
  · exact putC_len _ _ _
  · rw [List.length_map]; omega
theorem callsC_take {qs : List Zq} {k : Nat} (hk : k < qs.length) : callsC (qs.take (k + 1)) = callC (callsC (qs.take k)) (qs[k]) := by
  unfold callsC
  rw [List.take_succ_eq_append_getElem hk, List.foldl_append]
  rfl
theorem callsC_len {qs : List Zq} (h : qs.length ≤ 100) : ∀ k, k ≤ qs.length → (callsC (qs.take k)).length ≤ 64 * k := by
  intro k
  induction k with
  | zero => intro _; simp [callsC]
  | succ k ih =>
    intro hk
    rw [callsC_take (by omega)]
    have := ih (by omega)
    have := callC_len (callsC (qs.take k)) (qs[k])
    omega

end Go.Proofs.Ytkaphlpohhaacaa

/-
  What At and Find answer, told in the characters of a row; no two characters of a row bear one name ('Uq').
-/
namespace Go.Proofs.Ytkaphlpohhaacaa
open Go.RowKit
set_option linter.unusedVariables false
set_option linter.unusedSimpArgs false
set_option maxRecDepth 100000

/-- Is this the character of that name? -/
def isC (r n i : Int) (x : Un) : Bool := sameI x.r x.n r n && decide (x.f = i)
theorem isC_ch {r n i : Int} {x : Un} {k : Nat} : isC r n i (chU x k) = (sameI x.r x.n r n && decide (x.f + k = i)) := rfl
theorem flat_mid {xs : List Un} {k : Nat} (hk : k < xs.length) : flat xs = flat (xs.take k) ++ (chs (xs[k]) ++ flat (xs.drop (k + 1))) := by
  conv => lhs; rw [← List.take_append_drop k xs, List.drop_eq_getElem_cons hk]
  rw [flat_app, flat_cons]
theorem flat_get {xs : List Un} {k q : Nat} (hk : k < xs.length) (hq : (q : Int) < (xs[k]).l) : (flat xs)[(flat (xs.take k)).length + q]? = some (chU (xs[k]) q) := by
  have hl : q < (chs (xs[k])).length := by rw [chs_len]; omega
  rw [flat_mid hk, List.getElem?_append_right (Nat.le_add_right _ _), Nat.add_sub_cancel_left, List.getElem?_append_left hl, List.getElem?_eq_getElem hl, chs_at]
theorem hold_isC {r n i : Int} {x y : Un} (h : holdB x r n i = false) (hy : y ∈ chs x) : isC r n i y = false := by
  obtain ⟨k, hk, rfl⟩ := mem_chs hy
  rw [isC_ch]
  unfold holdB at h
  cases hs : sameI x.r x.n r n
  · rfl
  · rw [hs] at h
    simp at h ⊢
    omega
theorem hold_none {r n i : Int} {xs : List Un} (h : ∀ x ∈ xs, holdB x r n i = false) : ∀ y ∈ flat xs, isC r n i y = false := by
  intro y hy
  unfold flat at hy
  rw [List.mem_flatMap] at hy
  obtain ⟨x, hx, hy⟩ := hy
  exact hold_isC (h x hx) hy
theorem hold_idx {r n i : Int} {xs : List Un} (hf : Fis xs) {k : Nat} (hk : k < xs.length) (h1 : ∀ x ∈ xs.take k, holdB x r n i = false) (h2 : holdB (xs[k]) r n i = true) : idxU (isC r n i) (flat xs) = cntU (xs.take k) + i - (xs[k]).f := by
  have h2' := h2
  unfold holdB at h2
  simp at h2
  obtain ⟨hs, h3, h4⟩ := h2
  obtain ⟨q, hq⟩ : ∃ q : Nat, i - (xs[k]).f = q := ⟨(i - (xs[k]).f).toNat, by omega⟩
  have hg := flat_get (xs := xs) (k := k) (q := q) hk (by omega)
  obtain ⟨hp, hg2⟩ := List.getElem?_eq_some_iff.1 hg
  have hc := flat_len (hf.take k)
  have e : idxU (isC r n i) (flat xs) = (((flat (xs.take k)).length + q : Nat) : Int) := by
    refine idxU_at hp ?_ ?_
    · intro y hy
      rw [flat_mid hk, List.take_length_add_append] at hy
      rcases List.mem_append.1 hy with hy | hy
      · exact hold_none h1 y hy
      · obtain ⟨j, hj, rfl⟩ := List.mem_take_iff_getElem.1 hy
        have hl : q < (chs (xs[k])).length := by rw [chs_len]; omega
        rw [List.getElem_append_left (by omega), chs_at, isC_ch, hs]
        simp
        omega
    · rw [hg2, isC_ch, hs]
      simp
      omega
  rw [e]
  omega

section
variable {N r : Nat} {T : List Un} {w w1 : World}
theorem lr_at_yes (h : Lr N r T w w1) (hl : T.length ≤ 20000) (i : Nat) (hi : i < T.length) :
    Calls Try.prog 17 #[.pointer (some ⟨r, 0, none⟩), .int .i64 (i : Int)] w1 fun e w' => e = .returned (.tuple #[unv (T[i]), .bool true]) ∧ Below w1.heap.size w1 w' := by
  obtain ⟨v, ys, h1, h2, h3, h4⟩ := h
  have hn := good_len h2
  subst h3
  have hc := flat_len h2.fis
  obtain ⟨k, q, hk, hs, hq0, hq1, hq2⟩ := (seekU_at h2.fis (p := (i : Int)) (by omega)).1 (by omega)
  refine (at_yes r v ys i w1 h1.b h1.u.us h2.fis (by omega) (by omega) (by omega) k q hk hs hq0 hq1).mono ?_
  rintro e w' ⟨rfl, hb⟩
  refine ⟨?_, hb⟩
  obtain ⟨m, rfl⟩ : ∃ m : Nat, q = m := ⟨q.toNat, by omega⟩
  have hg := flat_get (xs := ys) (k := k) (q := m) hk hq1
  have hc2 := flat_len (h2.fis.take k)
  obtain rfl : (flat (ys.take k)).length + m = i := by omega
  rw [List.getElem?_eq_getElem hi] at hg
  rw [Option.some.inj hg, cutU_one]
theorem lr_at_no (h : Lr N r T w w1) (hl : T.length ≤ 20000) (i : Int) (hi : i < 0 ∨ (T.length : Int) ≤ i) :
    Calls Try.prog 17 #[.pointer (some ⟨r, 0, none⟩), .int .i64 i] w1 fun e w' => e = .returned (.tuple #[unv Un.zero, .bool false]) ∧ Below w1.heap.size w1 w' := by
  obtain ⟨v, ys, h1, h2, h3, h4⟩ := h
  have hn := good_len h2
  subst h3
  have hc := flat_len h2.fis
  exact at_no r v ys i w1 h1.b h1.u.us h2.fis (by omega) (by omega)
theorem lr_look_no (h : Lr N r T w w1) (hl : T.length ≤ 20000) (cr cn ci : Int) (hi : idxU (isC cr cn ci) T < 0) :
    Calls Try.prog 15 #[.pointer (some ⟨r, 0, none⟩), chu cr cn ci] w1 fun e w' => e = .returned (.tuple #[.int .i64 0, .bool false]) ∧ Below w1.heap.size w1 w' := by
  obtain ⟨v, ys, h1, h2, h3, h4⟩ := h
  have hn := good_len h2
  subst h3
  refine find_no r v ys cr cn ci w1 h1.b h1.u.us h2.fis (by omega) ?_
  rcases Int.lt_or_le (idxU (fun x => holdB x cr cn ci) ys) 0 with h0 | h0
  · exact h0
  · obtain ⟨k, hk, e, g2, g3⟩ := idxU_pos h0
    have := hold_idx h2.fis hk g3 g2
    have hc2 := flat_len (h2.fis.take k)
    unfold holdB at g2
    simp at g2
    omega
theorem lr_look_yes (h : Lr N r T w w1) (hl : T.length ≤ 20000) (cr cn ci z : Int) (hi : idxU (isC cr cn ci) T = z) (hz : 0 ≤ z) :
    Calls Try.prog 15 #[.pointer (some ⟨r, 0, none⟩), chu cr cn ci] w1 fun e w' => e = .returned (.tuple #[.int .i64 z, .bool true]) ∧ Below w1.heap.size w1 w' := by
  obtain ⟨v, ys, h1, h2, h3, h4⟩ := h
  have hn := good_len h2
  subst h3
  rcases Int.lt_or_le (idxU (fun x => holdB x cr cn ci) ys) 0 with h0 | h0
  · have := idxU_none (hold_none (idxU_neg h0))
    omega
  · obtain ⟨k, hk, e, g2, g3⟩ := idxU_pos h0
    have e2 := hold_idx h2.fis hk g3 g2
    rw [← hi, e2]
    exact find_yes r v ys cr cn ci w1 h1.b h1.u.us h2.fis (by omega) k hk e g2
end

end Go.Proofs.Ytkaphlpohhaacaa

/-
  Single operations of the laws' drawn regions: a name held against a name, a text's part, texts held against one another.
-/
namespace Go.Proofs.Ytkaphlpohhaacaa
open Go.RowKit
set_option linter.unusedVariables false
set_option linter.unusedSimpArgs false
set_option maxRecDepth 100000

section
variable {o : Oper} {a : Act} {W : World} {x y z : Operand}
theorem runU_sls {s : ByteArray} {i j : Nat} {e : Int} (ho : o.op = .slice 9 x (some y) (some z) none) (hx : a.eval x = .string s) (hy : a.eval y = .int .i64 (i : Int)) (hz : a.eval z = .int .i64 e) (he : e = (j : Int)) (hij : i ≤ j) (hj : j ≤ s.size) : (execOp a.eval o).run Try.prog W = .ok (.value (.string (s.extract i j))) W := by
  subst he
  have h := run_slice_string (P := Try.prog) W 9 s .i64 .i64 (i : Int) (j : Int) Try.underlying9 (by omega) (by omega) (by omega)
  simp at h
  unfold execOp
  simp only [ho, hx, Option.map_some, hy, hz]
  simp [go_sem, h]
theorem builtCh (r n i : Int) : Try.prog.built 26 [(0, idv r n), (1, .int .i64 i)] = some #[.int .i64 r, .int .i64 n, .int .i64 i] := by kernel_rfl
theorem runU_bch {r n i : Int} (ho : o.op = .build 26 #[(0, x), (1, y)]) (hx : a.eval x = idv r n) (hy : a.eval y = .int .i64 i) : (execOp a.eval o).run Try.prog W = .ok (.value (chu r n i)) W := by
  have e : (Array.map (fun (i, x) => (i, a.eval x)) #[(0, x), (1, y)]) = #[(0, idv r n), (1, .int .i64 i)] := by simp [hx, hy]
  unfold execOp
  simp only [ho]
  rw [e]
  simp [go_sem, builtCh]
end

end Go.Proofs.Ytkaphlpohhaacaa

/-
  The reference's row as it lies in memory: a block with one slice, a row of items of its own.
-/
namespace Go.Proofs.Ytkaphlpohhaacaa
open Go.RowKit
set_option linter.unusedVariables false
set_option linter.unusedSimpArgs false
set_option maxRecDepth 100000

def Xb (w : World) (b : Nat) (v : Value) : Prop := w.heap[b]? = some (.cells #[v] 34 (0, 0))
theorem Xb.lt {w : World} {b : Nat} {v : Value} (h : Xb w b v) : b < w.heap.size := (Array.getElem?_eq_some_iff.1 h).1
theorem Xb.fr {S : Nat → Prop} {w w' : World} {b : Nat} {v : Value} (h : Xb w b v) (hf : Fr S w w') (hs : ¬ S b) : Xb w' b v := by unfold Xb; rw [hf.block b h.lt hs]; exact h
theorem Xb.below {w w' : World} {b : Nat} {v : Value} (h : Xb w b v) (hb : Below w.heap.size w w') : Xb w' b v := h.fr (S := fun _ => False) (Fr.of_below hb) (fun h => h)
theorem Xb.cell {w : World} {b : Nat} {v : Value} (h : Xb w b v) : w.cell? ⟨b, 0, none⟩ = some v := cell_of_row w b 0 _ _ _ h
structure Xl (N : Nat) (w : World) (r : Nat) (v : Value) (xs : List Un) : Prop where
  b : Xb w r v
  u : Ur 36 N w v xs
  ne : v.ownBlock ≠ some r
  le : N ≤ w.heap.size
  lo : N ≤ r
theorem Xl.below {N : Nat} {w w' : World} {r : Nat} {v : Value} {xs : List Un} (h : Xl N w r v xs) (hb : Below w.heap.size w w') : Xl N w' r v xs := ⟨h.b.below hb, h.u.below hb, h.ne, Nat.le_trans h.le hb.size, h.lo⟩
theorem Xl.fr {S : Nat → Prop} {N : Nat} {w w' : World} {r : Nat} {v : Value} {xs : List Un} (h : Xl N w r v xs) (hf : Fr S w w') (h1 : ¬ S r) (h2 : ∀ k, v.ownBlock = some k → ¬ S k) : Xl N w' r v xs := ⟨h.b.fr hf h1, h.u.fr hf h2, h.ne, Nat.le_trans h.le hf.size, h.lo⟩
/-- What a call leaves of a row: its characters are others. -/
def ChY (N : Nat) (r : Nat) (v : Value) (ys : List Un) (w w' : World) : Prop :=
  ∃ v', Xl N w' r v' ys ∧ Fr (Sr r v) w w' ∧ ∀ k, v'.ownBlock = some k → v.ownBlock = some k ∨ w.heap.size ≤ k
/-- Block g holds the cells l (of items). -/
def Ri (w : World) (g : Nat) (l : List Value) : Prop := w.heap[g]? = some (.cells l.toArray 36 (0, 0))
theorem Ri.lt {w : World} {g : Nat} {l : List Value} (h : Ri w g l) : g < w.heap.size := (Array.getElem?_eq_some_iff.1 h).1
theorem Ri.cell {w : World} {g : Nat} {l : List Value} (h : Ri w g l) (j : Nat) : w.cell? ⟨g, j, none⟩ = l[j]? := by
  rw [cell_of_row w g j _ _ _ h, List.getElem?_toArray]
theorem Ri.fr {S : Nat → Prop} {w w' : World} {g : Nat} {l : List Value} (h : Ri w g l) (hf : Fr S w w') (hs : ¬ S g) : Ri w' g l := by unfold Ri; rw [hf.block g h.lt hs]; exact h
theorem Ri.below {w w' : World} {g : Nat} {l : List Value} (h : Ri w g l) (hb : Below w.heap.size w w') : Ri w' g l := h.fr (S := fun _ => False) (Fr.of_below hb) (fun h => h)
theorem Ri.cellset {w : World} {g i : Nat} {l : List Value} (h : Ri w g l) (v : Value) : Ri (w.setCell ⟨g, i, none⟩ v) g (l.set i v) := by
  have := set_rowU (i := i) h v
  unfold Ri
  rw [this]
  simp [List.setIfInBounds_toArray]
theorem Ur.openI {B : Nat} {w : World} {v : Value} {xs : List Un} (h : Ur 36 B w v xs) (hn : 0 < xs.length) : ∃ g cap l, v = .slice (some ⟨g, 0, none⟩) xs.length cap ∧ B ≤ g ∧ Ri w g l ∧ xs.length ≤ cap ∧ cap ≤ maxLen ∧ l.length = cap * 13 ∧ l.take (xs.length * 13) = xs.flatMap unc := by
  rcases h.2 with ⟨_, h0⟩ | ⟨g, cap, cur, h1, h2, h3, h4, h5, h6, h7⟩
  · omega
  · exact ⟨g, cap, cur.toList, h1, h2, by unfold Ri; simpa using h3, h4, h5, by simpa using h6, h7⟩
theorem Ur.closeI {B : Nat} {w : World} {g n cap : Nat} {l : List Value} {xs : List Un} (hg : B ≤ g) (h : Ri w g l) (hn : n = xs.length) (hc : n ≤ cap) (hm : cap ≤ maxLen) (hl : l.length = cap * 13) (ht : l.take (n * 13) = xs.flatMap unc) : Ur 36 B w (.slice (some ⟨g, 0, none⟩) n cap) xs := by
  subst hn
  exact ⟨flat_length unc 13 unc_len xs, .inr ⟨g, cap, l.toArray, rfl, hg, h, hc, hm, by simpa using hl, ht⟩⟩
/-- One cell of one element changed. -/
theorem set_flatI {l : List Value} {xs : List Un} {y y' : Un} {k i : Nat} {v : Value} (ht : l.take (xs.length * 13) = xs.flatMap unc) (hk : k < xs.length) (hx : xs[k] = y) (hi : i < 13) (hy : (unc y).set i v = unc y') : (l.set (0 + k * 13 + i) v).take (xs.length * 13) = (xs.set k y').flatMap unc := by
  have e1 : xs = xs.take k ++ y :: xs.drop (k + 1) := by rw [← hx, ← List.drop_eq_getElem_cons hk, List.take_append_drop]
  have e2 : xs.set k y' = xs.take k ++ y' :: xs.drop (k + 1) := by
    rw [List.set_eq_take_append_cons_drop, if_pos hk]
  have hl : ((xs.take k).flatMap unc).length = k * 13 := by rw [flat_length unc 13 unc_len, List.length_take, Nat.min_eq_left (by omega)]
  rw [List.take_set, ht, e2, List.flatMap_append, List.flatMap_cons, Nat.zero_add]
  conv => lhs; rw [e1, List.flatMap_append, List.flatMap_cons]
  rw [List.set_append_right _ _ (by omega), hl, Nat.add_sub_cancel_left, List.set_append_left _ _ (by rw [unc_len]; omega), hy]

section
variable {o : Oper} {a : Act} {W : World} {ops : Array Oper} {rest : List Oper} {Q : Exit → Act → World → Prop} {x y lo hi : Operand} {r b i : Nat} {A : Option Addr} {n c f e : Nat}
theorem runU_items {v : Value} (ho : o.op = .load 32 x) (hx : a.eval x = .pointer (some ⟨b, i, none⟩)) (h0 : W.cell? ⟨b, i, none⟩ = some v) : (execOp a.eval o).run Try.prog W = .ok (.value v) W := by
  unfold execOp
  simp only [ho, hx]
  simp [go_sem, h0]
theorem runU_lenI (ho : o.op = .call { callee := .builtin .len, args := #[x], argTypes := #[32] }) (hx : a.eval x = .slice A n c) : (execOp a.eval o).run Try.prog W = .ok (.value (.int .i64 (n : Int))) W := by
  unfold execOp
  simp only [ho, resolve, invoke, builtin, Sem.run_bind, Sem.run_pure, Result.andThen_ok, List.map_toArray, List.map_cons, List.map_nil, hx]
  simp [go_sem]
theorem runU_sltI (ho : o.op = .slice 32 x none (some hi) none) (hx : a.eval x = .slice A n c) (hh : a.eval hi = .int .i64 (e : Nat)) (h2 : e ≤ c) : (execOp a.eval o).run Try.prog W = .ok (.value (.slice A e c)) W := by
  unfold execOp
  simp only [ho, hx, Option.map_some, Option.map_none, hh]
  have e6 : (e : Int) ≤ (c : Int) := by omega
  simp [go_sem, e6]
theorem runU_sldI (ho : o.op = .slice 32 x (some lo) none none) (hx : a.eval x = .slice A n c) (hl : a.eval lo = .int .i64 (f : Nat)) (h1 : f ≤ n) (h2 : n ≤ c) :
    (execOp a.eval o).run Try.prog W = .ok (.value (.slice (bkA A c f) (n - f) (c - f))) W := by
  unfold execOp
  simp only [ho, hx, Option.map_some, Option.map_none, hl]
  have e7 : (f : Int) ≤ (n : Int) := by omega
  simp [go_sem, e7, h1, h2, bkA]
theorem wl_st_items {va : Option Addr} {n c : Nat} {v : Value} (hw : Region.wanted o (yielded ops a.tmps) = true) (ho : o.op = .store 32 x y) (hx : a.eval x = .pointer (some ⟨r, 0, none⟩)) (hy : a.eval y = .slice va n c) (h : Xb W r v)
    (hk : ∀ W', Xb W' r (.slice va n c) → Fr (fun k => k = r) W W' → wpList Try.prog ops Q rest (a.put o.dst undef) W') : wpList Try.prog ops Q (o :: rest) a W := by
  have hz : W.cell? ⟨r, 0, none⟩ = some v := cell_of_row W r 0 _ _ _ h
  have hf := frozen_of_row W r 0 _ _ h
  refine wl_nil' (W.setCell ⟨r, 0, none⟩ (.slice va n c)) hw ?_ (hk _ ?_ (Fr.of_set W r 0 _))
  · unfold execOp
    simp only [ho, hx, hy]
    simp [go_sem, hz, hf]
  · exact set_rowU h _
/-- As wl_val', the operation first: it fails at once where it isn't this one. -/
theorem wl_val3 {v : Value} {W' : World} (h : (execOp a.eval o).run Try.prog W = .ok (.value v) W') (hgd : Region.wanted o (yielded ops a.tmps) = true) (hk : wpList Try.prog ops Q rest (a.put o.dst v) W') : wpList Try.prog ops Q (o :: rest) a W :=
  wl_val' v W' hgd h hk
end

end Go.Proofs.Ytkaphlpohhaacaa
