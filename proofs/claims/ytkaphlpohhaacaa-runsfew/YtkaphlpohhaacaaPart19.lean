/-
  A list of calls in memory (two numbers, an item, a cut): 'Zc w v qs'; what great answers for it.
-/
import Derived.Test.YtkaphlpohhaacaaPart18
namespace Go.Proofs.Ytkaphlpohhaacaa
open Go.RowKit
set_option linter.unusedVariables false
set_option linter.unusedSimpArgs false
set_option maxRecDepth 100000

structure Zq where
  w : Int
  p : Int
  x : Un
  r : Int
  n : Int
  f : Int
  t : Int
abbrev zqc (q : Zq) : List Value :=
  [.int .i64 q.w, .int .i64 q.p, .int .i64 q.x.r, .int .i64 q.x.n, .int .i64 q.x.f, .int .i64 q.x.l, .int .i64 q.x.a, .int .i64 q.x.b, .int .i64 q.x.c, .int .i64 q.x.d, .int .i64 q.x.e, .int .i64 q.x.h, .bool q.x.g, .bool q.x.m, .string q.x.t, .int .i64 q.r, .int .i64 q.n, .int .i64 q.f, .int .i64 q.t]
def Zc (w : World) (v : Value) (qs : List Zq) : Prop := Sl 19 w v qs.length (qs.flatMap zqc)
theorem Zc.below {w w' : World} {v : Value} {qs : List Zq} (h : Zc w v qs) (hb : Below w.heap.size w w') : Zc w' v qs := Sl.below h hb
theorem Zc.nil (w : World) : Zc w (.slice none 0 0) [] := Sl.nil 19 w
/-- One call's cells. -/
structure Zk (w : World) (b o : Nat) (q : Zq) : Prop where
  c0 : w.cell? ⟨b, o, none⟩ = some (.int .i64 q.w)
  c1 : w.cell? ⟨b, o + 1, none⟩ = some (.int .i64 q.p)
  x : Uc w b (o + 2) q.x
  k : Kc w b (o + 15) q.r q.n q.f q.t
theorem Kc.kept {w w' : World} {b o : Nat} {r n f t : Int} (h : Kc w b o r n f t) (hb : w'.heap[b]? = w.heap[b]?) : Kc w' b o r n f t :=
  ⟨(World.cell?_of_block (a := ⟨b, o, none⟩) hb).trans h.c0, (World.cell?_of_block (a := ⟨b, o + 1, none⟩) hb).trans h.c1, (World.cell?_of_block (a := ⟨b, o + 2, none⟩) hb).trans h.c2, (World.cell?_of_block (a := ⟨b, o + 3, none⟩) hb).trans h.c3⟩
theorem Zk.kept {w w' : World} {b o : Nat} {q : Zq} (h : Zk w b o q) (hb : w'.heap[b]? = w.heap[b]?) : Zk w' b o q :=
  ⟨(World.cell?_of_block (a := ⟨b, o, none⟩) hb).trans h.c0, (World.cell?_of_block (a := ⟨b, o + 1, none⟩) hb).trans h.c1, h.x.kept hb, h.k.kept hb⟩
theorem Zk.lt {w : World} {b o : Nat} {q : Zq} (h : Zk w b o q) : b < w.heap.size := World.block_lt_of_cell? _ _ h.c0
theorem Zk.below {w w' : World} {b o : Nat} {q : Zq} (h : Zk w b o q) (hb : Below w.heap.size w w') : Zk w' b o q := h.kept (hb.block b h.lt)
theorem Zc.inv {w : World} {v : Value} {qs : List Zq} (h : Zc w v qs) (hn : 0 < qs.length) : ∃ b off c, v = .slice (some ⟨b, off, none⟩) qs.length c ∧ b < w.heap.size ∧ ∀ i (hi : i < qs.length), Zk w b (off + i * 19) (qs[i]) := by
  obtain ⟨b, off, c, h1, h2, h3, h4, h5⟩ := Sl.inv h hn (by decide)
  refine ⟨b, off, c, h1, h4, fun i hi => ?_⟩
  have key : ∀ j, j < 19 → w.cell? ⟨b, off + i * 19 + j, none⟩ = (zqc qs[i])[j]? := fun j hj => by
    have e := flat_at zqc 19 (fun _ => rfl) qs i j hi hj
    have hl : j < (zqc qs[i]).length := hj
    rw [Nat.add_assoc, List.getElem?_eq_getElem hl]
    exact h5 _ _ (by rw [e, List.getElem?_eq_getElem hl])
  exact ⟨key 0 (by decide), key 1 (by decide),
    ⟨key 2 (by decide), key 3 (by decide), key 4 (by decide), key 5 (by decide), key 6 (by decide), key 7 (by decide), key 8 (by decide), key 9 (by decide), key 10 (by decide), key 11 (by decide), key 12 (by decide), key 13 (by decide), key 14 (by decide)⟩,
    ⟨key 15 (by decide), key 16 (by decide), key 17 (by decide), key 18 (by decide)⟩⟩
section
variable {o : Oper} {a : Act} {W : World} {x y : Operand} {b i : Nat}
theorem runU_cut {r n f t : Int} (ho : o.op = .load 38 x) (hx : a.eval x = .pointer (some ⟨b, i, none⟩)) (h : Kc W b i r n f t) : (execOp a.eval o).run Try.prog W = .ok (.value (cuv r n f t)) W := by
  have h0 := h.c0
  have h1 := h.c1
  have h2 := h.c2
  have h3 := h.c3
  unfold execOp
  simp only [ho, hx]
  simp [go_sem, h0, h1, h2, h3]
theorem runU_ixC {g off n c k : Nat} (ho : o.op = .indexAddr 22 x y) (hx : a.eval x = .slice (some ⟨g, off, none⟩) n c) (hy : a.eval y = .int .i64 (k : Nat)) (hk : k < n) : (execOp a.eval o).run Try.prog W = .ok (.value (.pointer (some ⟨g, off + k * 19, none⟩))) W := by
  have hk' : (k : Int) < (n : Int) := by omega
  unfold execOp
  simp only [ho, hx, hy]
  simp [go_sem, hk']
theorem runU_ixI {g off n c k : Nat} (ho : o.op = .indexAddr 32 x y) (hx : a.eval x = .slice (some ⟨g, off, none⟩) n c) (hy : a.eval y = .int .i64 (k : Nat)) (hk : k < n) : (execOp a.eval o).run Try.prog W = .ok (.value (.pointer (some ⟨g, off + k * 13, none⟩))) W := by
  have hk' : (k : Int) < (n : Int) := by omega
  unfold execOp
  simp only [ho, hx, hy]
  simp [go_sem, hk']
end

/-- What great lets through. -/
def GrZ (n : Nat) (e : Ending) : Prop := ∃ g : Bool, e = .returned (.bool g) ∧ (g = false → n ≤ 100)
set_option maxHeartbeats 2000000 in
theorem ugreat_any (A : Value) (qs : List Zq) (w : World) (h : Zc w A qs) :
    Calls Try.prog 8 #[A] w fun e w' => GrZ qs.length e ∧ w = w' := by
  obtain ⟨a, c, rfl, hc0, hc1⟩ := Sl.form h
  obtain ⟨n, hn⟩ : ∃ n, qs.length = n := ⟨_, rfl⟩
  have HQ := hid h
  have HN := hid hn
  rw [hn] at hc0 HQ
  unfold maxLen at hc1
  clear h
  rw [hn]
  clear hn
  by_cases hb : (100 : Int) < n
  · go_enter Try.func8, Try.ntmps8
    go_wp2
    go_ret
    exact ⟨⟨true, rfl, fun h => by cases h⟩, rfl⟩
  · have hb' : ¬ (100 : Int) < n := hb
    have hn150 : n ≤ 100 := by omega
    go_enter Try.func8, Try.ntmps8
    go_wp2
    go_loop [3] (fun i => ∃ k : Nat, k ≤ n ∧ i = .int .i64 k) (fun i => n - (intOf i).toNat)
    case atStart => exact ⟨0, Nat.zero_le _, rfl⟩
    case round =>
      obtain ⟨k, hk, rfl⟩ := hrel
      by_cases hlt : k < n
      · have hlt' : (k : Int) < (n : Int) := by omega
        have hx : k < qs.length := by rw [HN.out]; exact hlt
        obtain ⟨b, off, c', e1, hbb, hcc⟩ := HQ.out.inv (by rw [HN.out]; omega)
        rw [HN.out] at e1
        simp only [Value.slice.injEq] at e1
        obtain ⟨rfl, -, rfl⟩ := e1
        have c14 : w.cell? ⟨b, off + k * 19 + 14, none⟩ = some (.string (qs[k]).x.t) := (hcc k hx).x.c12
        obtain ⟨s, hs⟩ : ∃ s, (qs[k]).x.t = s := ⟨_, rfl⟩
        rw [hs] at c14
        clear hcc hs
        by_cases hg : (200 : Int) < (s.size : Int)
        · go_wp2
          go_ret
          exact ⟨⟨true, rfl, fun h => by cases h⟩, rfl⟩
        · have hg' : ¬ (200 : Int) < (s.size : Int) := hg
          go_wp2
          go_round
          case rel => exact ⟨k + 1, hlt, by go_num⟩
          case measure => simp [intOf]; omega
      · obtain rfl : k = n := by omega
        have hnl : ¬ (k : Int) < (k : Int) := by omega
        go_wp2
        go_ret
        exact ⟨⟨false, rfl, fun _ => hn150⟩, rfl⟩

/-- What a call makes of the characters; a row of calls. -/
def callC (T : List Un) (q : Zq) : List Un := if q.w = 0 then putC T q.p q.x else T.map (cutC q.r q.n q.f q.t)
def callsC (qs : List Zq) : List Un := qs.foldl callC []
theorem putC_len (T : List Un) (p : Int) (z : Un) : (putC T p z).length ≤ T.length + 64 := by
  unfold putC
  split
  · rename_i h
    have hz : rightB z = true := by
      cases hz : rightB z
      · unfold putE at h; rw [if_pos hz] at h; cases h
      · rfl
    obtain ⟨_, h1, h2, _⟩ := rightB_at hz
    have : (ownU z).l = z.l := rfl
    rw [List.length_append, List.length_append, List.length_take, List.length_drop, chs_len, this]
    omega
  · omega
theorem callC_len (T : List Un) (q : Zq) : (callC T q).length ≤ T.length + 64 := by
  unfold callC
  split
  · exact putC_len _ _ _
  · rw [List.length_map]; omega
theorem callsC_take {qs : List Zq} {k : Nat} (hk : k < qs.length) : callsC (qs.take (k + 1)) = callC (callsC (qs.take k)) (qs[k]) := by
  unfold callsC
  rw [List.take_succ_eq_append_getElem hk, List.foldl_append]
  rfl
theorem callsC_len {qs : List Zq} (h : qs.length ≤ 100) : ∀ k, k ≤ qs.length → (callsC (qs.take k)).length ≤ 64 * k := by
  intro k
  induction k with
  | zero => intro _; simp [callsC]
  | succ k ih =>
    intro hk
    rw [callsC_take (by omega)]
    have := ih (by omega)
    have := callC_len (callsC (qs.take k)) (qs[k])
    omega

end Go.Proofs.Ytkaphlpohhaacaa
