/-
  Parts of the proof, one behind the other; what each proves stands at its head.
-/
import Derived.Test.YteckjkblngmenaaDoorPart18
import Derived.Deep.CutRange
import Derived.Test.YteckjkblngmenaaDoorCards
import Derived.Test.YteckjkblngmenaaDoorTie
import Derived.Test.YteckjkblngmenaaDoorPart8
import Derived.Test.YteckjkblngmenaaDoorPart5
import Derived.Deep.SlicePairs
import Derived.LaidMore
import Derived.Deep.DeepWitnessRowRef
import Derived.SevenTiedAt

/-
  The law OplogKeeps returns true for all lists of lists of ops, and every number: behind a crash a log has all ops that were synced, and of the others the first so many, whole frames.
-/
namespace Go.Proofs.YteckjkblngmenaaDoor
open Go.RowKit
set_option linter.unusedVariables false
set_option maxRecDepth 100000

theorem grown_size {w w' : World} {x : Option Nat} (h : w.grownBy w' x) : w.heap.size ≤ w'.heap.size := (Fr.of_grown (S := fun _ => True) h (fun _ _ => trivial)).size
theorem info_int : (Tryd.prog.info? 3).map (fun i => (i.zero, i.size, i.bytes)) = some (some (.int .i64 0), 1, 8) := by kernel_rfl
/-- Where frames end, in ops. -/
def psF (Fs : List (List Opn)) : List Nat := (List.range (Fs.length + 1)).map fun k => (Fs.take k).flatten.length
theorem psF_len (Fs : List (List Opn)) : (psF Fs).length = Fs.length + 1 := by simp [psF]
theorem psF_snoc (Fs : List (List Opn)) (f : List Opn) : psF (Fs ++ [f]) = psF Fs ++ [(Fs ++ [f]).flatten.length] := by
  unfold psF
  rw [List.length_append, List.length_singleton, List.range_succ (n := Fs.length + 1), List.map_append, List.map_cons, List.map_nil, List.take_of_length_le (l := Fs ++ [f]) (by simp)]
  congr 1
  refine List.map_congr_left (fun k hk => ?_)
  rw [List.take_append_of_le_length (by have := List.mem_range.1 hk; omega)]
theorem psF_get (Fs : List (List Opn)) {k : Nat} (h : k < (psF Fs).length) : (psF Fs)[k] = (Fs.take k).flatten.length := by simp [psF]
/-- Synced ops are those of a front of what a crash leaves. -/
theorem syF_le {Fs : List (List Opn)} {n c k : Nat} (hg : Good Fs) (hk : k ≤ Fs.length) (hn : n ≤ c) (h1 : 10 + szF (Fs.take k) ≤ c) (h2 : k < Fs.length → c < 10 + szF (Fs.take (k + 1))) : syF Fs n ≤ (Fs.take k).flatten.length := by
  obtain ⟨j, j0, j1, j2⟩ : ∃ j, j ≤ Fs.length ∧ inF (endsF Fs) (n : Nat) = j ∧ j ≤ k := by
    have e := inF_ends Fs k c hk h1 h2
    have hle : inF (endsF Fs) (n : Nat) ≤ inF (endsF Fs) (c : Nat) := List.countP_mono_left (fun p _ hp => by simp at hp ⊢; omega)
    exact ⟨_, by rw [← endsF_len Fs]; exact inF_le _ _, rfl, by omega⟩
  unfold syF
  rw [j1, opsAt_ends Fs j j0]
  have : Fs.take j = (Fs.take k).take j := by rw [List.take_take, Nat.min_eq_left j2]
  rw [this]
  have e := congrArg List.length (congrArg List.flatten (List.take_append_drop j (Fs.take k)))
  rw [List.flatten_append, List.length_append] at e
  omega
theorem take_flat (Fs : List (List Opn)) (k : Nat) : (Fs.take k).flatten = Fs.flatten.take (Fs.take k).flatten.length := by
  have e := congrArg List.flatten (List.take_append_drop k Fs)
  rw [List.flatten_append] at e
  conv => rhs; rw [← e]
  rw [List.take_left]
theorem fsts_len (l : List (Opn × Value)) : (fsts l).length = l.length := by simp [fsts]
theorem fsts_take (l : List (Opn × Value)) (n : Nat) : fsts (l.take n) = (fsts l).take n := by simp [fsts, List.map_take]
theorem Os.take {w : World} {a : Option Addr} {n c : Nat} {l : List (Opn × Value)} (h : Os w (.slice a n c) l) (m : Nat) (hm : m ≤ n) : Os w (.slice a m c) (l.take m) := by
  obtain ⟨⟨h0, a', c', h1, h2, h3, h4, h5⟩, h6⟩ := h
  simp only [Value.slice.injEq] at h1
  obtain ⟨rfl, rfl, rfl⟩ := h1
  have hl : (l.take m).length = m := by rw [List.length_take]; omega
  refine ⟨⟨flat_length opc 20 opc_len _, a, c, by rw [hl], by omega, h3, h4, fun j u hu => h5 j u ?_⟩, fun p hp => h6 p (List.mem_of_mem_take hp)⟩
  have e : l.flatMap opc = (l.take m).flatMap opc ++ (l.drop m).flatMap opc := by rw [← List.flatMap_append, List.take_append_drop]
  rw [e, List.getElem?_append_left (List.getElem?_eq_some_iff.1 hu).1]
  exact hu

/-- What the law's loop holds: a log of the frames Fs; ops and ends gathered of the frames Gs. -/
structure Kp (w : World) (B lb fb : Nat) (o z : Value) (k : Nat) (wr : World) (fv vo ve : Value) (Fs Gs : List (List Opn)) (n : Nat) (l q : List (Opn × Value)) : Prop where
  lo : Lo B wr lb fb fv vo ve 0 Fs n 1048576 l
  ro : wr.ownsRow B 57 20 o q.length (q.flatMap opc)
  far : ∀ k, o.ownBlock = some k → ¬ Ft lb fb fv vo ve k
  qc : ∀ p ∈ q, Cs w p.2 p.1.cuts
  fs : fsts q = Gs.flatten
  zl : Zl B wr z (psF Gs)
  cu : ∀ p ∈ l, p.1.cuts = [] ∨ ∀ k, o.ownBlock = some k ∨ z.ownBlock = some k → p.2.ownBlock ≠ some k
  bw : Below w.heap.size w wr
  fk : Gs.length ≤ k
  ak : q.length ≤ 50 * k
  n10 : 10 ≤ n
section
variable {w : World} {B lb fb : Nat} {o z : Value} {k k' : Nat} {wr w' : World} {fv vo ve fv' vo' ve' : Value} {Fs Gs Hs : List (List Opn)} {n n' : Nat} {l l' q : List (Opn × Value)}
theorem Kp.log (h : Kp w B lb fb o z k wr fv vo ve Fs Gs n l q) (hw : w.heap.size ≤ B) (hlo : Lo B w' lb fb fv' vo' ve' 0 Hs n' 1048576 l') (hx : Lx (Ft lb fb fv vo ve) (Ft lb fb fv' vo' ve') wr w') (hn : Cn wr.heap.size l l') (hB : B ≤ wr.heap.size) (hn10 : 10 ≤ n') : Kp w B lb fb o z k w' fv' vo' ve' Hs Gs n' l' q :=
  ⟨hlo, own_fr h.ro hx.fr h.far, fun j hj e => by
      have h1 := (h.ro.lt j hj).2
      rcases hx.new j e with e | e
      · exact h.far j hj e
      · omega, h.qc, h.fs, Zl.log h.lo.lg h.zl hx, fun p hp => (hn p hp).elim (fun e => h.cu p e) (fun e => .inr (fun j hj hpj => by
      have h1 := e j hpj
      rcases hj with hj | hj
      · have h2 := (h.ro.lt j hj).2; omega
      · have h2 := (h.zl.lt j hj).2; omega)), h.bw.trans ((h.lo.lg.fr hx hB).mono hw), h.fk, h.ak, hn10⟩
theorem Kp.below (h : Kp w B lb fb o z k wr fv vo ve Fs Gs n l q) (hw : w.heap.size ≤ B) (hb : Below wr.heap.size wr w') (hB : B ≤ wr.heap.size) : Kp w B lb fb o z k w' fv vo ve Fs Gs n l q :=
  h.log hw (h.lo.below hb) (Lx.of_below hb) (fun p hp => .inl hp) hB h.n10
theorem Kp.more (h : Kp w B lb fb o z k wr fv vo ve Fs Gs n l q) (hk : k ≤ k') : Kp w B lb fb o z k' wr fv vo ve Fs Gs n l q :=
  ⟨h.lo, h.ro, h.far, h.qc, h.fs, h.zl, h.cu, h.bw, Nat.le_trans h.fk hk, Nat.le_trans h.ak (by omega), h.n10⟩
theorem Kp.os (h : Kp w B lb fb o z k wr fv vo ve Fs Gs n l q) : Os wr o q := ⟨Sl.of_own h.ro, fun p hp => (h.qc p hp).below h.bw⟩
theorem Zl.notFt {B : Nat} {w : World} {lb fb : Nat} {fv vo ve : Value} {xs : List Int} {n R : Nat} {r : Int} {l : List (Opn × Value)} {es : List (Nat × Nat)} {v : Value} {zs : List Nat} (h : Lg B w lb fb fv vo ve xs n R r l es) (hz : Zl B w v zs) {k : Nat} (hk : v.ownBlock = some k) : ¬ Ft lb fb fv vo ve k := fun e => by
  rcases e with rfl | rfl | e | e | e
  · exact own_far hz h.blk (by decide) hk
  · exact own_far hz h.fi.1 (by decide) hk
  · exact own_two hz h.fi.own (by decide) hk e
  · exact own_two hz h.ro (by decide) hk e
  · exact own_two hz h.re (by decide) hk e
theorem Zl.at {B : Nat} {w : World} {v : Value} {zs : List Nat} (hz : Zl B w v zs) {i : Nat} (hi : i < zs.length) : ∃ g c, v = .slice (some ⟨g, 0, none⟩) zs.length c ∧ w.cell? ⟨g, i, none⟩ = some (.int .i64 (zs[i] : Int)) := by
  obtain ⟨b, off, c, e, _, _, hb, hc⟩ := (Sl.of_own hz).inv (by omega) (by decide)
  have h := hz.2
  rcases h with ⟨h1, h2⟩ | ⟨g, cap, cur, hv, hBg, hg, hrest⟩
  · omega
  · rw [e] at hv
    simp only [Value.slice.injEq, Option.some.injEq, Addr.mk.injEq, and_true, true_and] at hv
    obtain ⟨⟨rfl, rfl⟩, rfl⟩ := hv
    refine ⟨b, c, e, ?_⟩
    have := hc i _ (by rw [List.getElem?_map, List.getElem?_eq_getElem hi]; rfl)
    rwa [Nat.zero_add] at this
/-- Ops are gathered. -/
theorem Kp.push1 {o' : Value} {qq : List (Opn × Value)} {m : Nat} (h : Kp w B lb fb o z k wr fv vo ve (Gs ++ [fsts qq]) Gs n l q) (hm : qq.length = m) (hown : w'.ownsRow B 57 20 o' (q.length + m) (q.flatMap opc ++ qq.flatMap opc)) (hg : wr.grownBy w' o.ownBlock)
    (ho : o'.ownBlock = o.ownBlock ∨ o'.ownBlock = some wr.heap.size) (hqc : ∀ p ∈ qq, Cs w p.2 p.1.cuts) (hB : B ≤ wr.heap.size) (hw : w.heap.size ≤ B) :
    Lo B w' lb fb fv vo ve 0 (Gs ++ [fsts qq]) n 1048576 l ∧ w'.ownsRow B 57 20 o' (q ++ qq).length ((q ++ qq).flatMap opc) ∧ (∀ k, o'.ownBlock = some k → ¬ Ft lb fb fv vo ve k) ∧ Zl B w' z (psF Gs) ∧
      (∀ p ∈ l, p.1.cuts = [] ∨ ∀ k, o'.ownBlock = some k ∨ z.ownBlock = some k → p.2.ownBlock ≠ some k) ∧ Below w.heap.size w w' := by
  subst hm
  have hf : Fr (fun k => o.ownBlock = some k) wr w' := Fr.of_grown hg (fun k e => e)
  refine ⟨h.lo.side hf (fun k e => h.far k e) (fun p hp => (h.cu p hp).imp id (fun e k hk hk2 => e k (.inl hk2) hk)), by rw [List.length_append, List.flatMap_append]; exact hown, fun k hk e => ?_, own_fr h.zl hf (fun k hk e => own_two h.zl h.ro (by decide) hk e), fun p hp => ?_, h.bw.trans (hf.below (fun k hk e => by have := (h.ro.lt k e).1; omega) (Nat.le_trans hw hB))⟩
  · rcases ho with ho | ho
    · exact h.far k (ho ▸ hk) e
    · rw [ho] at hk
      have := (h.lo.lg.inside e).2
      simp at hk
      omega
  · by_cases hc : p.1.cuts = []
    · exact .inl hc
    · rcases h.cu p hp with e | e
      · exact absurd e hc
      · refine .inr (fun k hk hp2 => ?_)
        rcases hk with hk | hk
        · rcases ho with ho | ho
          · exact e k (.inl (ho ▸ hk)) hp2
          · have h1 := (h.lo.lg.cu p hp).1.blk hc hp2
            rw [ho] at hk
            simp at hk
            omega
        · exact e k (.inr hk) hp2
theorem Kp.push2 {o z z' : Value} {q qq : List (Opn × Value)} {m : Nat} {w1 w2 : World} {x : Obj} (hm : qq.length = m) (hp : Lo B w1 lb fb fv vo ve 0 (Gs ++ [fsts qq]) n 1048576 l ∧ w1.ownsRow B 57 20 o (q ++ qq).length ((q ++ qq).flatMap opc) ∧ (∀ k, o.ownBlock = some k → ¬ Ft lb fb fv vo ve k) ∧ Zl B w1 z (psF Gs) ∧
      (∀ p ∈ l, p.1.cuts = [] ∨ ∀ k, o.ownBlock = some k ∨ z.ownBlock = some k → p.2.ownBlock ≠ some k) ∧ Below w.heap.size w w1)
    (hown : w2.ownsRow B 3 1 z' ((psF Gs).length + 1) ((psF Gs).map (fun (z : Nat) => Value.int .i64 (z : Int)) ++ [.int .i64 ((q.length : Int) + (m : Int))])) (hg : (w1.alloc x).grownBy w2 z.ownBlock) (hv : z'.ownBlock = z.ownBlock ∨ z'.ownBlock = some (w1.alloc x).heap.size)
    (hq : ∀ p ∈ q, Cs w p.2 p.1.cuts) (hqc : ∀ p ∈ qq, Cs w p.2 p.1.cuts) (hfs : fsts q = Gs.flatten) (hB : B ≤ w1.heap.size) (hw : w.heap.size ≤ B) (hk : Gs.length ≤ k) (ha : q.length ≤ 50 * k) (hm50 : m ≤ 50) (hn10 : 10 ≤ n) : Kp w B lb fb o z' (k + 1) w2 fv vo ve (Gs ++ [fsts qq]) (Gs ++ [fsts qq]) n l (q ++ qq) := by
  subst hm
  obtain ⟨hlo1, hro1, hfar, hz1, hcu, hbw1⟩ := hp
  have hb := ba w1 x
  have hlo := hlo1.below hb
  have hro := own_fr hro1 (Fr.of_below (S := fun _ => False) hb) (fun _ _ e => e)
  have hz := hz1.below hb
  have hf : Fr (fun k => z.ownBlock = some k) (w1.alloc x) w2 := Fr.of_grown hg (fun k e => e)
  have hB2 := Nat.le_trans hB hb.size
  have hfl : fsts (q ++ qq) = (Gs ++ [fsts qq]).flatten := by
    unfold fsts at hfs ⊢
    rw [List.map_append, hfs, List.flatten_append]
    simp
  have hps : psF (Gs ++ [fsts qq]) = psF Gs ++ [q.length + qq.length] := by
    rw [psF_snoc, ← hfl, fsts_len, List.length_append]
  refine ⟨hlo.side hf (fun k e => hz.notFt hlo.lg e) (fun p hp => (hcu p hp).imp id (fun e k hk hk2 => e k (.inr hk2) hk)), own_fr hro hf (fun k hk e => own_two hro hz (by decide) hk e), hfar, fun p hp => (List.mem_append.1 hp).elim (hq p) (hqc p), hfl, ?_, fun p hp => ?_, hbw1.trans (((hb.mono hB).trans (hf.below (fun k hk e => by have := (hz.lt k e).1; omega) hB2)).mono hw), by rw [List.length_append]; exact Nat.add_le_add_right hk 1, by rw [List.length_append]; omega, hn10⟩
  · rw [hps]
    show w2.ownsRow B 3 1 z' _ _
    rw [List.length_append, List.map_append]
    exact hown
  · by_cases hc : p.1.cuts = []
    · exact .inl hc
    · rcases hcu p hp with e | e
      · exact absurd e hc
      · refine .inr (fun k hk hp2 => ?_)
        rcases hk with hk | hk
        · exact e k (.inl hk) hp2
        · rcases hv with ho | ho
          · exact e k (.inr (ho ▸ hk)) hp2
          · have h1 := (hlo.lg.cu p hp).1.blk hc hp2
            rw [ho] at hk
            simp only [Option.some.injEq] at hk
            omega
end

set_option maxHeartbeats 16000000 in
theorem keeps_walk (va : Value) (la : List (List (Opn × Value))) (vb : Value) (l2 : List (List (Opn × Value))) (keep : Int) (w : World) (hA : Oss w va la) (hB : Oss w vb l2) (hL : Lay w) :
    Calls Tryd.prog 3 #[va, vb, .int .i64 keep] w fun e w' => e = .returned (.bool true) ∧ Below w.heap.size w w' := by
  have HA := hid hA
  have HB := hid hB
  have HL := hid hL
  have H2 := hid hL.two
  have HAL := hid (galive_any w hL)
  obtain ⟨aa, ca, rfl, _, _⟩ := hA.form
  obtain ⟨ab, cb, rfl, _, _⟩ := hB.form
  obtain ⟨m1, hm1⟩ : ∃ m1, la.length = m1 := ⟨_, rfl⟩
  obtain ⟨m2, hm2⟩ : ∃ m2, l2.length = m2 := ⟨_, rfl⟩
  have HM1 := hid hm1
  have HM2 := hid hm2
  rw [hm1] at HA ⊢
  rw [hm2] at HB ⊢
  clear hA hB hL hm1 hm2
  by_cases hg1 : (20 : Int) < (m1 : Int)
  · go_enter Tryd.func3, Tryd.ntmps3
    go_wp2_with fail
    refine HAL.out.mono ?_
    rintro e w1 ⟨rfl, b1⟩
    have B1 := hid b1
    clear b1
    go_wp2
    go_ret
    exact ⟨rfl, B1.out⟩
  by_cases hg2 : (20 : Int) < (m2 : Int)
  · go_enter Tryd.func3, Tryd.ntmps3
    go_wp2_with fail
    refine HAL.out.mono ?_
    rintro e w1 ⟨rfl, b1⟩
    have B1 := hid b1
    clear b1
    go_wp2
    go_ret
    exact ⟨rfl, B1.out⟩
  have hq1 : m1 ≤ 20 := by omega
  have hq2 : m2 ≤ 20 := by omega
  go_enter Tryd.func3, Tryd.ntmps3
  go_wp2_with fail
  refine HAL.out.mono ?_
  rintro e w1 ⟨rfl, b1⟩
  have B1 := hid b1
  clear b1
  go_wp2_with fail
  refine (new_ok 1048576 (by decide)).mono ?_
  rintro e w2 ⟨rfl, b2, v2, hf2⟩
  obtain ⟨B, hB⟩ : ∃ B, w1.heap.size = B := ⟨_, rfl⟩
  have HBB : Hid (w.heap.size ≤ B) := hid (by rw [← hB]; exact B1.out.size)
  rw [hB] at b2 hf2 ⊢
  have B2 := hid b2
  have F2 := hid hf2
  have S2 : Hid (B ≤ w2.heap.size) := hid (by have := hf2.lt; omega)
  clear b2 hf2 hB
  go_wp2_with fail
  refine (format_any F2.out (HL.out.low (B1.out.trans (B2.out.mono HBB.out)) H2.out) S2.out 0 (by decide) (by decide)).mono ?_
  rintro e w3 h3
  rcases h3 with ⟨hbad, _⟩ | ⟨_, lb, fv3, rfl, hlo3, hx3⟩
  · exact absurd hbad (by decide)
  have L3 := hid hlo3
  have B3 : Hid (Below B w1 w3) := hid (B2.out.trans (hx3.below (fun k hk => by
    rcases hk with rfl | hk
    · exact F2.out.2.1
    · exact (F2.out.own.lt k hk).1) S2.out))
  have S3 : Hid (B ≤ w3.heap.size) := hid (Nat.le_trans S2.out hx3.size)
  clear hlo3 hx3
  have HA4 := hid (ba w3 (.cells #[] 57))
  obtain ⟨g4, hg4⟩ : ∃ g4, w3.heap.size = g4 := ⟨_, rfl⟩
  obtain ⟨w4, hw4⟩ : ∃ w4, w3.alloc (.cells #[] 57) = w4 := ⟨_, rfl⟩
  have hs4 : w4.heap.size = g4 + 1 := by rw [← hw4, ← hg4]; simp
  have HR4 : Hid (w4.ownsRow B 57 20 (.slice (some ⟨g4, 0, none⟩) 0 0) 0 []) := hid (by rw [← hw4, ← hg4]; exact World.ownsRow_made w3 #[] 0 S3.out (Nat.zero_le _) rfl)
  have HZ5 : Hid (Zl B (w4.alloc (.cells #[.int .i64 0] 3)) (.slice (some ⟨w4.heap.size, 0, none⟩) 1 1) [0]) := hid ⟨rfl, .inr ⟨w4.heap.size, 1, #[.int .i64 0], rfl, by have := S3.out; omega, heap_alloc_new w4 _, Nat.le_refl _, by decide, rfl, rfl⟩⟩
  have HA5 := hid (ba w4 (.cells #[.int .i64 0] 3))
  rw [hw4] at HA4
  have HW4 := hid hw4
  have HG4 := hid hg4
  have HS4 := hid hs4
  obtain ⟨w5, hw5⟩ : ∃ w5, w4.alloc (.cells #[.int .i64 0] 3) = w5 := ⟨_, rfl⟩
  rw [hw5] at HZ5 HA5
  have HW5 := hid hw5
  clear hw4 hg4 hs4 hw5
  have L5 := hid ((L3.out.below HA4.out).below HA5.out)
  have S5 : Hid (B ≤ w5.heap.size) := hid (by have h1 := S3.out; have h2 := HA4.out.size; have h3 := HA5.out.size; omega)
  have KP : Hid (Kp w B lb B (.slice (some ⟨g4, 0, none⟩) 0 0) (.slice (some ⟨g4 + 1, 0, none⟩) 1 1) 0 w5 fv3 (.slice none 0 0) (.slice none 0 0) [] [] 10 [] []) := hid
    ⟨L5.out, own_fr HR4.out (Fr.of_below (S := fun _ => False) HA5.out) (fun _ _ e => e), fun k hk e => by
        simp [Value.ownBlock] at hk
        have h1 := (L3.out.lg.inside e).2
        have h2 := HG4.out
        omega, (fun p hp => by cases hp), rfl, by have := HZ5.out; rw [HS4.out] at this; exact this, (fun p hp => by cases hp), B1.out.trans ((B3.out.trans ((HA4.out.mono S3.out).trans (HA5.out.mono (show B ≤ w4.heap.size by have h1 := S3.out; have h2 := HA4.out.size; omega)))).mono HBB.out), Nat.zero_le _, Nat.zero_le _, Nat.le_refl _⟩
  clear L5 HR4 HZ5 HA5 HA4 B3 L3 F2 B2 B1
  obtain ⟨M, hM⟩ : ∃ M, m1 + m2 = M := ⟨_, rfl⟩
  have hMi : (m1 : Int) + (m2 : Int) = (M : Int) := by omega
  have HMM := hid hM
  clear hM
  go_wp2
  rw [HW4.out, HG4.out, HW5.out]
  go_loopw [10, 11, 12] (fun o z i wr => ∃ (k : Nat) (fv vo ve : Value) (Fs : List (List Opn)) (n : Nat) (l q : List (Opn × Value)), i = .int .i64 k ∧ k ≤ M ∧ B ≤ wr.heap.size ∧ Kp w B lb B o z k wr fv vo ve Fs Fs n l q) (fun _ _ i _ => M - (intOf i).toNat)
  case atStart => exact ⟨0, _, _, _, _, _, _, _, rfl, Nat.zero_le _, S5.out, KP.out⟩
  case round =>
    obtain ⟨k, fv, vo, ve, Fs, n, l, q, rfl, hk, hS, hkp⟩ := hrel
    have K0 := hid hkp
    have S0 := hid hS
    obtain ⟨ao, co, rfl, _⟩ := own_cap2 hkp.ro
    obtain ⟨az, cz, rfl, _⟩ := own_cap2 hkp.zl
    clear hkp hS KP
    by_cases hlt : k < M
    · have hlt' : (k : Int) < (M : Int) := by omega
      go_upto_if 63 with fail
      go_cut [12] from 51 to 95 (fun i wx => i = .int .i64 k ∧ ∃ (fv vo ve : Value) (n : Nat) (l : List (Opn × Value)), B ≤ wx.heap.size ∧ Kp w B lb B (.slice ao q.length co) (.slice az (psF Fs).length cz) k wx fv vo ve Fs Fs n l q)
      case first =>
        by_cases he : k = m1
        · have heb : ((k : Int) == (m1 : Int)) = true := by simp [he]
          go_wp2_with fail
          refine (lo_sync K0.out.lo).mono ?_
          rintro e w6 ⟨rfl, fv6, vo6, ve6, l6, hlo6, hx6, hn6⟩
          have K6 := hid (K0.out.log HBB.out hlo6 hx6 hn6 S0.out (by rw [lby_len (by decide) (by decide)]; omega))
          have S6 := hid (Nat.le_trans S0.out hx6.size)
          clear hlo6 hx6 hn6
          go_wp2_with fail
          go_meet
          exact ⟨by first | rfl | rw [he], fv6, vo6, ve6, _, l6, S6.out, K6.out⟩
        · have heb : ((k : Int) == (m1 : Int)) = false := by simp; omega
          go_wp2_with fail
          go_meet
          exact ⟨rfl, fv, vo, ve, n, l, S0.out, K0.out⟩
      case rest =>
        obtain ⟨rfl, fv, vo, ve, n, l, hS, hkp⟩ := hcut
        have K1 := hid (hkp.below HBB.out (ba wc (.cells #[] 57)) hS)
        have S1 := hid (Nat.le_trans hS (ba wc (.cells #[] 57)).size)
        obtain ⟨w6, hw6⟩ : ∃ w6, wc.alloc (.cells #[] 57) = w6 := ⟨_, rfl⟩
        rw [hw6] at K1 S1
        have HW6 := hid hw6
        clear hS hkp hw6 K0 S0
        go_upto_if 70 with fail
        rw [HW6.out]
        go_cut [13] from 51 to 95 (fun u wx => wx = w6 ∧ ∃ qq, Os w u qq)
        case first =>
          by_cases he : k < m1
          · have heb : (k : Int) < (m1 : Int) := by omega
            obtain ⟨b, off, c, u, e1, hb, hc, ho⟩ := HA.out.at (i := k) (by rw [HM1.out]; exact he)
            simp only [Value.slice.injEq] at e1
            obtain ⟨rfl, -, rfl⟩ := e1
            have hc6 : w6.cell? ⟨b, off + k, none⟩ = some u := (K1.out.bw.cell hb).trans hc
            have HO := hid ho
            obtain ⟨ua, uc, rfl, _, _⟩ := Sl.form ho.1
            clear hc ho
            go_wp2_with fail
            go_meet
            exact ⟨rfl, _, HO.out⟩
          · have heb : ¬ (k : Int) < (m1 : Int) := by omega
            obtain ⟨j, hj⟩ : ∃ j, k - m1 = j := ⟨_, rfl⟩
            have hj2 : j < m2 := by have := HMM.out; omega
            have i1 : (k : Int) - (m1 : Int) < (m2 : Int) := by omega
            have i2 : (0 : Int) ≤ (k : Int) - (m1 : Int) := by omega
            have i3 : ((k : Int) - (m1 : Int)).toNat = j := by omega
            obtain ⟨b, off, c, u, e1, hb, hc, ho⟩ := HB.out.at (i := j) (by rw [HM2.out]; exact hj2)
            simp only [Value.slice.injEq] at e1
            obtain ⟨rfl, -, rfl⟩ := e1
            have hc6 : w6.cell? ⟨b, off + j, none⟩ = some u := (K1.out.bw.cell hb).trans hc
            have HO := hid ho
            obtain ⟨ua, uc, rfl, _, _⟩ := Sl.form ho.1
            clear hc ho hj
            go_wp2_with fail
            go_meet
            exact ⟨rfl, _, HO.out⟩
        case rest =>
          obtain ⟨hwx, qq, ho⟩ := hcut
          rw [hwx]
          have HO := hid ho
          obtain ⟨ua, uc, rfl, _, _⟩ := Sl.form ho.1
          obtain ⟨N, hN⟩ : ∃ N, qq.length = N := ⟨_, rfl⟩
          rw [hN] at HO
          have HN := hid hN
          clear ho hN hwx
          rw [HN.out]
          have HLG := hid (long_all (.slice ua N uc) qq 50 w6 (HO.out.later K1.out.bw) (by decide))
          obtain ⟨lbv, hlb⟩ : ∃ b, longB qq 50 = b := ⟨_, rfl⟩
          rw [hlb] at HLG
          have HLB := hid hlb
          clear hlb
          go_wp2_with fail
          refine HLG.out.mono ?_
          rintro e w7 ⟨rfl, rfl⟩
          cases lbv with
          | true =>
            go_wp2
            go_ret
            exact ⟨rfl, K1.out.bw⟩
          | false =>
            obtain ⟨hN50, hfine⟩ := longB_no HLB.out
            have HFI := hid hfine
            have HAP := hid (lappend_any K1.out.lo (HL.out.low K1.out.bw H2.out) S1.out (Oq.old K1.out.lo.lg HBB.out HO.out K1.out.bw) (fun p hp => ⟨(hfine p hp).1, by have := (hfine p hp).2; omega⟩) (by omega))
            have hND : N ≤ 50 := by rw [← HN.out]; exact hN50
            obtain ⟨E, hE⟩ : ∃ E, apE 1048576 Fs (fsts qq) = E := ⟨_, rfl⟩
            rw [hE] at HAP
            have HE := hid hE
            have hk' : k + 1 ≤ M := hlt
            clear hN50 hfine hE HLG
            by_cases h0 : E = 0
            · have hF : apF 1048576 Fs (fsts qq) = Fs ++ [fsts qq] := by unfold apF; rw [if_pos (by rw [HE.out]; exact h0)]
              rw [hF] at HAP
              subst h0
              clear hF
              go_wp2_with fail
              refine HAP.out.mono ?_
              rintro e w8 ⟨rfl, fv8, vo8, ve8, l8, hlo8, hx8, hn8⟩
              have K8 := hid (K1.out.log HBB.out hlo8 hx8 hn8 S1.out K1.out.n10)
              have S8 := hid (Nat.le_trans S1.out hx8.size)
              have HO8 := hid (HO.out.later K8.out.bw)
              have RO8 := hid K8.out.ro
              have hsl8 : Hid (Sl 20 w8 (.slice ua N uc) N (qq.flatMap opc)) := hid (by have := HO8.out.1; rw [HN.out] at this; exact this)
              have hb8 : (q.length + N) * 192 ≤ 140737488355328 := by have := K8.out.ak; omega
              have hm8 : q.length + N ≤ maxLen := by have := K8.out.ak; unfold maxLen; omega
              clear hlo8 hx8 hn8 HAP
              have HQC : Hid (∀ p ∈ qq, Cs w p.2 p.1.cuts) := hid HO.out.2
              have one1 : ∀ u ∈ [Value.int .i64 ((q.length : Int) + (N : Int))], u.oneCell' = true := fun u hu => by rw [List.mem_singleton.1 hu]; rfl
              have ONE := hid one1
              have hbz : ((psF Fs).length + 1) * 8 ≤ 140737488355328 := by rw [psF_len]; have := K8.out.fk; omega
              have hmz : (psF Fs).length + 1 ≤ maxLen := by rw [psF_len]; have := K8.out.fk; unfold maxLen; omega
              clear one1
              go_wp2_with (first
                | (at_builtin; refine wpList_append_sl 31 57 20 192 _ Tryd.underlying31 info_op rfl (Nat.succ_pos 19) rfl _ _ rfl B _ _ _ rfl RO8.out _ N (qq.flatMap opc) rfl hsl8.out (one_ops HO8.out) hb8 hm8 S8.out ?_; intro v9 w9 hown9 hg9 hv9; obtain ⟨a9, c9, rfl⟩ := own_shape hown9; have S9 := hid (Nat.le_trans S8.out (grown_size hg9)); have P9 := hid (K8.out.push1 HN.out hown9 hg9 hv9 HQC.out S8.out HBB.out); have ZL10 := hid (Zl.below P9.out.2.2.2.1 (ba w9 (.cells #[.int .i64 ((q.length : Int) + (N : Int))] 3))); have SL10 := hid (Sl.lit (sz := 1) w9 3 #[.int .i64 ((q.length : Int) + (N : Int))] 1 (by decide) rfl); have S10 := hid (Nat.le_trans S9.out (ba w9 (.cells #[.int .i64 ((q.length : Int) + (N : Int))] 3)).size); clear hown9 hg9 hv9)
                | (at_builtin; refine wpList_append_sl 32 3 1 8 _ Tryd.underlying32 info_int rfl (Nat.succ_pos 0) rfl _ _ rfl B _ _ _ rfl ZL10.out _ 1 _ rfl SL10.out ONE.out hbz hmz S10.out ?_; intro v11 w11 hown11 hg11 hv11; obtain ⟨a11, c11, rfl⟩ := own_shape hown11; have HO11 := hid hown11; have HG11 := hid hg11; have HV11 := hid hv11; clear hown11 hg11 hv11)
                | fail)
              go_roundw
              case rel =>
                exact ⟨k + 1, fv8, vo8, ve8, Fs ++ [fsts qq], n, l8, q ++ qq, by go_num, hk', Nat.le_trans S10.out (grown_size HG11.out), Kp.push2 HN.out P9.out HO11.out HG11.out HV11.out K8.out.qc HQC.out K8.out.fs S9.out HBB.out K8.out.fk K8.out.ak hND K8.out.n10⟩
              case measure => simp [intOf]; omega
            · have hF : apF 1048576 Fs (fsts qq) = Fs := by unfold apF; rw [if_neg (by rw [HE.out]; exact h0)]
              rw [hF] at HAP
              have h0b : (E == 0) = false := by simpa using h0
              clear hF
              go_wp2_with fail
              refine HAP.out.mono ?_
              rintro e w8 ⟨rfl, fv8, vo8, ve8, l8, hlo8, hx8, hn8⟩
              have K8 := hid (K1.out.log HBB.out hlo8 hx8 hn8 S1.out K1.out.n10)
              have S8 := hid (Nat.le_trans S1.out hx8.size)
              clear hlo8 hx8 hn8 HAP
              go_wp2_with fail
              go_roundw
              case rel => exact ⟨k + 1, fv8, vo8, ve8, Fs, n, l8, q, by go_num, hk', S8.out, K8.out.more (Nat.le_succ k)⟩
              case measure => simp [intOf]; omega
    · have hlt' : ¬ (k : Int) < (M : Int) := by omega
      go_upto_if 98 with fail
      go_cut [12] from 96 (fun i wx => i = .int .i64 k ∧ ∃ (fv vo ve : Value) (n : Nat) (l : List (Opn × Value)), B ≤ wx.heap.size ∧ Kp w B lb B (.slice ao q.length co) (.slice az (psF Fs).length cz) k wx fv vo ve Fs Fs n l q)
      case first =>
        by_cases he : m2 = 0
        · have heb : ((m2 : Int) == 0) = true := by simp [he]
          clear he
          go_wp2_with fail
          refine (lo_sync K0.out.lo).mono ?_
          rintro e w6 ⟨rfl, fv6, vo6, ve6, l6, hlo6, hx6, hn6⟩
          have K6 := hid (K0.out.log HBB.out hlo6 hx6 hn6 S0.out (by rw [lby_len (by decide) (by decide)]; omega))
          have S6 := hid (Nat.le_trans S0.out hx6.size)
          clear hlo6 hx6 hn6
          go_wp2_with fail
          go_meet
          exact ⟨rfl, fv6, vo6, ve6, _, l6, S6.out, K6.out⟩
        · have heb : ((m2 : Int) == 0) = false := by simp; omega
          go_wp2_with fail
          go_meet
          exact ⟨rfl, fv, vo, ve, n, l, S0.out, K0.out⟩
      case rest =>
        obtain ⟨rfl, fv, vo, ve, n, l, hS, hkp⟩ := hcut
        have K1 := hid hkp
        have S1 := hid hS
        clear hS hkp K0 S0
        go_wp2_with fail
        refine (lo_synced K1.out.lo).mono ?_
        rintro e w6 ⟨rfl, b6⟩
        have K6 := hid (K1.out.below HBB.out b6 S1.out)
        have S6 := hid (Nat.le_trans S1.out b6.size)
        obtain ⟨SY, hSY⟩ : ∃ SY, syF Fs n = SY := ⟨_, rfl⟩
        have HSY := hid hSY
        rw [hSY]
        clear b6 K1 S1 hSY
        go_wp2_with fail
        refine (lo_crash K6.out.lo keep).mono ?_
        rintro e w7 ⟨rfl, fv7, hf7, hx7⟩
        obtain ⟨hln, hlc⟩ := left_bounds (keep := keep) K6.out.lo.ns
        obtain ⟨C, hC⟩ : ∃ C, left keep (lby 0 Fs) n = C := ⟨_, rfl⟩
        rw [hC] at hf7 hln hlc
        have h10 : 10 ≤ n := K6.out.n10
        obtain ⟨kk, ys, hkk, hkk1, hkk2, _, _, htl⟩ := Tl.cut K6.out.lo.good (r := 0) (by decide) (by decide) C (by omega) hlc
        have HSL : Hid (SY ≤ (Fs.take kk).flatten.length) := hid (by rw [← HSY.out]; exact syF_le K6.out.lo.good hkk hln hkk1 hkk2)
        have TL := hid htl
        have F7 := hid hf7
        have X7 := hid hx7
        have S7 := hid (Nat.le_trans S6.out hx7.size)
        have BW7 : Hid (Below w.heap.size w w7) := hid (K6.out.bw.trans ((hx7.below (B := B) (fun j hj => (K6.out.lo.lg.inside (hj.elim (fun e => .inr (.inl e)) (fun e => .inr (.inr (.inl e))))).1) S6.out).mono HBB.out))
        clear hf7 hx7 hln hlc hkk1 hkk2 htl hC h10
        go_wp2_with fail
        refine (open_any F7.out (HL.out.low BW7.out H2.out) S7.out (by have := H2.out; have := HBB.out; omega)).mono ?_
        rintro e w8 h8
        rcases h8 with ⟨hbad, _⟩ | ⟨r8, Fs8, lb8, vo8, ve8, fv8, l8, v8, q8, htl8, rfl, hlo8, hq8, hfs8, hn8, hx8⟩
        · have := Tl.det hbad TL.out; cases this
        have hsome := Tl.det htl8 TL.out
        simp only [Option.some.injEq, Prod.mk.injEq] at hsome
        obtain ⟨rfl, rfl⟩ := hsome
        have X8 := hid (X7.out.trans hx8)
        have RO8 : Hid (w8.ownsRow B 57 20 (.slice ao q.length co) q.length (q.flatMap opc)) := hid (own_fr K6.out.ro X8.out.fr (fun j hj e => K6.out.far j hj (e.elim (fun e => .inr (.inl e)) (fun e => .inr (.inr (.inl e))))))
        have ZL8 : Hid (Zl B w8 (.slice az (psF Fs).length cz) (psF Fs)) := hid (own_fr K6.out.zl X8.out.fr (fun j hj e => Zl.notFt K6.out.lo.lg K6.out.zl hj (e.elim (fun e => .inr (.inl e)) (fun e => .inr (.inr (.inl e))))))
        have BW8 : Hid (Below w.heap.size w w8) := hid (BW7.out.trans ((hx8.below (B := B) (fun j hj => by
          rcases hj with rfl | hj
          · exact F7.out.2.1
          · exact (F7.out.own.lt j hj).1) S7.out).mono HBB.out))
        have OA8 : Hid (Os w8 (.slice ao q.length co) q) := hid ⟨Sl.of_own RO8.out, fun p hp => (K6.out.qc p hp).below BW8.out⟩
        have OV8 := hid hq8.os
        obtain ⟨a8, c8, rfl, _, _⟩ := Sl.form hq8.os.1
        obtain ⟨P, hP⟩ : ∃ P, (Fs.take kk).flatten.length = P := ⟨_, rfl⟩
        have hq8l : q8.length = P := by rw [← fsts_len, hfs8, hP]
        have hql : q.length = Fs.flatten.length := by rw [← fsts_len, K6.out.fs]
        have hPq : P ≤ q.length := by
          have e := congrArg List.length (congrArg List.flatten (List.take_append_drop kk Fs))
          rw [List.flatten_append, List.length_append] at e
          omega
        have HSM : Hid (fsts q8 = fsts (q.take P)) := hid (by rw [fsts_take, hfs8, K6.out.fs, ← hP]; exact take_flat Fs kk)
        rw [hq8l] at OV8
        rw [hq8l]
        have hs1 : ¬ (P : Int) < (SY : Int) := by have := HSL.out; omega
        have hs2 : ¬ (q.length : Int) < (P : Int) := by omega
        have hPZ : Hid (∃ i, ∃ h : i < (psF Fs).length, (psF Fs)[i] = P) := hid ⟨kk, by rw [psF_len]; omega, by rw [psF_get, hP]⟩
        have HSO := hid (sameops_any (.slice a8 P c8) (.slice ao P co) q8 (q.take P) w8 OV8.out (OA8.out.take P hPq))
        obtain ⟨Q, hQ⟩ : ∃ Q, q.length = Q := ⟨_, rfl⟩
        obtain ⟨Z, hZ⟩ : ∃ Z, (psF Fs).length = Z := ⟨_, rfl⟩
        have hco : Q ≤ co := by have := own_cap2 RO8.out; obtain ⟨_, _, e, h⟩ := this; simp at e; omega
        have hZb : Z ≤ 1000 := by have h1 := K6.out.fk; rw [psF_len] at hZ; have h2 := HMM.out; omega
        rw [hQ] at hs2 hPq ⊢
        rw [hZ] at ZL8 ⊢
        clear hP hq8l hql htl8 hlo8 hq8 hfs8 hn8 hx8 OA8 RO8 F7 S7 BW7 X7
        go_wp2_with fail
        refine HSO.out.mono ?_
        rintro e w9 ⟨rb, rfl, hrb, b9⟩
        obtain rfl := hrb.2 HSM.out
        have ZL9 := hid (ZL8.out.below b9)
        have BW9 := hid (bt BW8.out b9)
        have hcell : ∀ i (h : i < (psF Fs).length), ∃ g, az = some ⟨g, 0, none⟩ ∧ w9.cell? ⟨g, i, none⟩ = some (.int .i64 ((psF Fs)[i] : Int)) := fun i h => by
          have h9 := ZL9.out
          obtain ⟨g, c, e, hc⟩ := Zl.at h9 h
          simp only [Value.slice.injEq] at e
          exact ⟨g, e.1, hc⟩
        have HC9 := hid hcell
        clear hcell b9 hrb HSO HSM
        go_wp2
        go_loopw [17] (fun i wr => ∃ j : Nat, j ≤ Z ∧ i = .int .i64 j ∧ wr = w9 ∧ ∀ i (h : i < (psF Fs).length), i < j → (psF Fs)[i] ≠ P) (fun i _ => Z - (intOf i).toNat)
        case atStart => exact ⟨0, Nat.zero_le _, rfl, rfl, fun i h hi => absurd hi (Nat.not_lt_zero _)⟩
        case round =>
          obtain ⟨j, hj, rfl, rfl, hne⟩ := hrel
          have HNE := hid hne
          clear hne
          by_cases hjz : j < Z
          · have hjz' : (j : Int) < (Z : Int) := by omega
            have hjp : j < (psF Fs).length := by rw [hZ]; exact hjz
            obtain ⟨g, rfl, hc⟩ := HC9.out j hjp
            obtain ⟨V, hV⟩ : ∃ V, (psF Fs)[j] = V := ⟨_, rfl⟩
            rw [hV] at hc
            have HV := hid hV
            clear hV
            by_cases he : V = P
            · have heb : ((V : Int) == (P : Int)) = true := by simp [he]
              go_wp2
              go_ret
              exact ⟨rfl, BW9.out⟩
            · have heb : ((V : Int) == (P : Int)) = false := by simp; omega
              go_wp2
              go_roundw
              case rel =>
                refine ⟨j + 1, hjz, by go_num, by first | rfl | trivial, fun i h hi => ?_⟩
                by_cases e : i = j
                · subst e; rw [HV.out]; exact he
                · exact HNE.out i h (by omega)
              case measure => simp [intOf]; omega
          · exfalso
            obtain ⟨i, h, hi⟩ := hPZ.out
            exact HNE.out i h (by omega) hi
end Go.Proofs.YteckjkblngmenaaDoor

/-
  From a walk to the given statement: what the arguments' readings give (ops, rows of ops, bytes), and a world for the witness.
-/
namespace Go.Proofs.YteckjkblngmenaaDoor
open Go.RowKit Go.ChangeShapes Go.WideShapes Go.ChangeAt
set_option linter.unusedVariables false
set_option maxRecDepth 100000

theorem own : ownKnob Tryd.prog.godebug = none := by kernel_rfl
theorem laidOut : laidOutB Tryd.prog = true := by kernel_rfl

theorem Sl.of_rows {sz : Nat} {W : World} {x : Addr} {len cap : Nat} (hs : 0 < sz) (hl : len ≤ cap) (hm : cap ≤ maxLen) (R : Nat → List Value)
    (h : ∀ i, i < len → (R i).length = sz ∧ ∀ j u, (R i)[j]? = some u → W.cell? (x.add (i * sz + j)) = some u) : Sl sz W (.slice (some x) len cap) len ((List.range len).flatMap R) := by
  have hlen : ∀ n, n ≤ len → ((List.range n).flatMap R).length = n * sz := by
    intro n
    induction n with
    | zero => intro _; simp
    | succ n ih => intro hn; rw [List.range_succ, List.flatMap_append, List.length_append, ih (by omega)]; simp [(h n (by omega)).1, Nat.add_mul]
  have hat : ∀ n, n ≤ len → ∀ j u, ((List.range n).flatMap R)[j]? = some u → W.cell? (x.add j) = some u := by
    intro n
    induction n with
    | zero => intro _ j u hj; simp at hj
    | succ n ih =>
      intro hn j u hj
      rw [List.range_succ, List.flatMap_append] at hj
      by_cases hjl : j < n * sz
      · rw [List.getElem?_append_left (by rw [hlen n (by omega)]; exact hjl)] at hj
        exact ih (by omega) j u hj
      · rw [List.getElem?_append_right (by rw [hlen n (by omega)]; omega), hlen n (by omega)] at hj
        simp at hj
        have := (h n (by omega)).2 _ u hj
        rw [show n * sz + (j - n * sz) = j from by omega] at this
        exact this
  refine ⟨hlen len (Nat.le_refl _), some x, cap, rfl, hl, hm, fun h => (by cases h), fun j u hu => ?_⟩
  have h1 := hat len (Nat.le_refl _) j u hu
  have hpos : 0 < len := by
    rcases Nat.eq_zero_or_pos len with e | e
    · subst e; simp at hu
    · exact e
  obtain ⟨b, off, spot⟩ := x
  have hs0 : spot = none := by
    obtain ⟨h0, h0'⟩ := h 0 hpos
    obtain ⟨u0, hu0⟩ : ∃ u0, (R 0)[0]? = some u0 := ⟨_, List.getElem?_eq_getElem (by omega)⟩
    have := World.cell?_spot (h0' 0 u0 hu0)
    simpa [Addr.add] using this
  subst hs0
  rw [Addr.add_lit] at h1
  exact ⟨b, off, rfl, h1⟩

theorem cells_cut : Tryd.prog.cellsOf 84 = 4 := by kernel_rfl
theorem cells_id : Tryd.prog.cellsOf 52 = 2 := by kernel_rfl
theorem cells_char : Tryd.prog.cellsOf 54 = 3 := by kernel_rfl
theorem cells_int : Tryd.prog.cellsOf 3 = 1 := by kernel_rfl
theorem cells_str : Tryd.prog.cellsOf 9 = 1 := by kernel_rfl
theorem cells_bool : Tryd.prog.cellsOf 4 = 1 := by kernel_rfl
theorem cells_cuts : Tryd.prog.cellsOf 55 = 1 := by kernel_rfl
theorem cells_op : Tryd.prog.cellsOf 57 = 20 := by kernel_rfl

theorem list_3 {α : Type} {l : List α} (h : l.length = 3) : ∃ a b c, l = [a, b, c] := by
  match l, h with
  | [a, b, c], _ => exact ⟨a, b, c, rfl⟩
theorem list_4 {α : Type} {l : List α} (h : l.length = 4) : ∃ a b c d, l = [a, b, c, d] := by
  match l, h with
  | [a, b, c, d], _ => exact ⟨a, b, c, d, rfl⟩
theorem list_20 {α : Type} {l : List α} (h : l.length = 20) : ∃ a b c d e f g h i j k m n o p q r s t u, l = [a, b, c, d, e, f, g, h, i, j, k, m, n, o, p, q, r, s, t, u] := by
  match l, h with
  | [a, b, c, d, e, f, g, h, i, j, k, m, n, o, p, q, r, s, t, u], _ => exact ⟨a, b, c, d, e, f, g, h, i, j, k, m, n, o, p, q, r, s, t, u, rfl⟩

section
variable {H : Type} {enc : TypeId × Value → H} {W : World} {held : Bool}
theorem trod_id {n : Nat} {a b : Value} {x : DataW H × List MemPlace} (h : DataW.trod enc Tryd.prog W 0 (fun _ => true) held n 52 [a, b] = some x) : ∃ r m, a = .int .i64 r ∧ b = .int .i64 m := by
  obtain ⟨y0, y1, n, _, hl, h0, h1⟩ := trod_struct2 Tryd.underlying52 h
  simp [cells_int] at h0 h1
  obtain ⟨r, e0, _⟩ := DataW.trod_int Tryd.underlying3 h0
  obtain ⟨m, e1, _⟩ := DataW.trod_int Tryd.underlying3 h1
  simp at e0 e1
  exact ⟨r, m, e0, e1⟩
theorem trod_char {n : Nat} {a b c : Value} {x : DataW H × List MemPlace} (h : DataW.trod enc Tryd.prog W 0 (fun _ => true) held n 54 [a, b, c] = some x) : ∃ r m i, a = .int .i64 r ∧ b = .int .i64 m ∧ c = .int .i64 i := by
  obtain ⟨y0, y1, n, _, hl, h0, h1⟩ := trod_struct2 Tryd.underlying54 h
  simp [cells_int, cells_id] at h0 h1
  obtain ⟨r, m, e0, e1⟩ := trod_id h0
  obtain ⟨i, e2, _⟩ := DataW.trod_int Tryd.underlying3 h1
  simp at e2
  exact ⟨r, m, i, e0, e1, e2⟩
theorem trod_cut {n : Nat} {cs : List Value} {x : DataW H × List MemPlace} (h : DataW.trod enc Tryd.prog W 0 (fun _ => true) held n 84 cs = some x) : ∃ c : Ct, cs = cutc c := by
  obtain ⟨xs, k, hk, hxy, hlen, hxl, hfl⟩ := DataW.trod_struct Tryd.underlying84 h
  rw [cells_cut] at hlen
  obtain ⟨y0, y1, y2, rfl⟩ := list_3 hxl
  obtain ⟨v0, v1, v2, v3, rfl⟩ := list_4 hlen
  have g0 := hfl 0 _ rfl
  have g1 := hfl 1 _ rfl
  have g2 := hfl 2 _ rfl
  simp [cells_int, cells_id] at g0 g1 g2
  obtain ⟨r, m, rfl, rfl⟩ := trod_id g0
  obtain ⟨f, e1, _⟩ := DataW.trod_int Tryd.underlying3 g1
  obtain ⟨t, e2, _⟩ := DataW.trod_int Tryd.underlying3 g2
  simp at e1 e2
  subst e1; subst e2
  exact ⟨⟨r, m, f, t⟩, rfl⟩
theorem trod_cuts {n : Nat} {v : Value} {x : DataW H × List MemPlace} (h : DataW.trod enc Tryd.prog W 0 (fun _ => true) held n 55 [v] = some x) : ∃ l, Cs W v l := by
  rcases Go.Deep.open_slice Tryd.underlying55 h with ⟨hcs, _⟩ | ⟨x, len, c, m, n, D, Pl, hcs, _, hl, hm, hmm, _, hx⟩
  · simp at hcs
    subst hcs
    exact ⟨[], Cs.nil W⟩
  · simp at hcs
    subst hcs
    simp at hmm
    subst hmm
    rw [cells_cut] at hx
    have each : ∀ i, i < len → ∃ q : Ct, W.cells? 0 (x.add (i * 4)) 4 = some (cutc q) := fun i hi => by
      obtain ⟨cs', h1, h2⟩ := hx i (by omega)
      obtain ⟨q, rfl⟩ := trod_cut h2
      exact ⟨q, h1⟩
    have hinh : Inhabited Ct := ⟨Ct.zero⟩
    obtain ⟨q, hq⟩ := Go.Deep.choose_lt each
    refine ⟨(List.range len).map q, ?_⟩
    have := Sl.of_rows (sz := 4) (W := W) (x := x) (by decide) hl hm (fun i => cutc (q i)) (fun i hi => ⟨rfl, fun j u hu => by
      obtain ⟨_, _, hcell⟩ := World.cells?_some (hq i hi)
      have hj : j < 4 := (List.getElem?_eq_some_iff.1 hu).1
      have := hcell j hj
      rw [Go.Deep.add_add] at this
      rw [this, hu]⟩)
    unfold Cs
    rw [List.length_map, List.length_range, List.flatMap_map]
    exact this
theorem trod_op {n : Nat} {cs : List Value} {x : DataW H × List MemPlace} (h : DataW.trod enc Tryd.prog W 0 (fun _ => true) held n 57 cs = some x) : ∃ o v, cs = opc (o, v) ∧ Cs W v o.cuts := by
  obtain ⟨xs, k, hk, hxy, hlen, hxl, hfl⟩ := DataW.trod_struct Tryd.underlying57 h
  rw [cells_op] at hlen
  obtain ⟨v0, v1, v2, v3, v4, v5, v6, v7, v8, v9, v10, v11, v12, v13, v14, v15, v16, v17, v18, v19, rfl⟩ := list_20 hlen
  have hsz : xs.length = 12 := hxl
  have hat : ∀ i, i < 12 → ∃ y, xs[i]? = some y := fun i hi => ⟨_, List.getElem?_eq_getElem (by omega)⟩
  obtain ⟨z0, k0⟩ := hat 0 (by decide)
  obtain ⟨z1, k1⟩ := hat 1 (by decide)
  obtain ⟨z2, k2⟩ := hat 2 (by decide)
  obtain ⟨z3, k3⟩ := hat 3 (by decide)
  obtain ⟨z4, k4⟩ := hat 4 (by decide)
  obtain ⟨z5, k5⟩ := hat 5 (by decide)
  obtain ⟨z6, k6⟩ := hat 6 (by decide)
  obtain ⟨z7, k7⟩ := hat 7 (by decide)
  obtain ⟨z8, k8⟩ := hat 8 (by decide)
  obtain ⟨z9, k9⟩ := hat 9 (by decide)
  obtain ⟨z10, k10⟩ := hat 10 (by decide)
  obtain ⟨z11, k11⟩ := hat 11 (by decide)
  have g0 := (hfl 0 _ rfl).trans k0
  have g1 := (hfl 1 _ rfl).trans k1
  have g2 := (hfl 2 _ rfl).trans k2
  have g3 := (hfl 3 _ rfl).trans k3
  have g4 := (hfl 4 _ rfl).trans k4
  have g5 := (hfl 5 _ rfl).trans k5
  have g6 := (hfl 6 _ rfl).trans k6
  have g7 := (hfl 7 _ rfl).trans k7
  have g8 := (hfl 8 _ rfl).trans k8
  have g9 := (hfl 9 _ rfl).trans k9
  have g10 := (hfl 10 _ rfl).trans k10
  have g11 := (hfl 11 _ rfl).trans k11
  simp [cells_int] at g0
  simp [cells_id] at g1
  simp [cells_int] at g2
  simp [cells_id] at g3
  simp [cells_id] at g4
  simp [cells_str] at g5
  simp [cells_id] at g6
  simp [cells_char] at g7
  simp [cells_char] at g8
  simp [cells_str] at g9
  simp [cells_cuts] at g10
  simp [cells_bool] at g11
  obtain ⟨a0, e0, _⟩ := DataW.trod_int Tryd.underlying3 g0
  obtain ⟨a1, a2, rfl, rfl⟩ := trod_id g1
  obtain ⟨a3, e3, _⟩ := DataW.trod_int Tryd.underlying3 g2
  obtain ⟨a4, a5, rfl, rfl⟩ := trod_id g3
  obtain ⟨a6, a7, rfl, rfl⟩ := trod_id g4
  obtain ⟨a8, e8, _⟩ := DataW.trod_string Tryd.underlying9 g5
  obtain ⟨a9, a10, rfl, rfl⟩ := trod_id g6
  obtain ⟨a11, a12, a13, rfl, rfl, rfl⟩ := trod_char g7
  obtain ⟨a14, a15, a16, rfl, rfl, rfl⟩ := trod_char g8
  obtain ⟨a17, e17, _⟩ := DataW.trod_string Tryd.underlying9 g9
  obtain ⟨l, hl⟩ := trod_cuts g10
  obtain ⟨a19, e19, _⟩ := DataW.trod_bool Tryd.underlying4 g11
  obtain rfl : v0 = _ := by simpa using e0
  obtain rfl : v3 = _ := by simpa using e3
  obtain rfl : v8 = _ := by simpa using e8
  obtain rfl : v17 = _ := by simpa using e17
  obtain rfl : v19 = _ := by simpa using e19
  exact ⟨⟨a0, a1, a2, a3, a4, a5, a6, a7, a8, a9, a10, a11, a12, a13, a14, a15, a16, a17, l, a19⟩, v18, rfl, hl⟩
theorem open_op {b0 : Nat} {v : Value} {d : DataW H} {p : List MemPlace} (hv : Value.okWide Tryd.prog W .any b0 57 v) (h : DataW.Trod enc Tryd.prog W 0 (fun _ => true) held 57 v d p) : ∃ o u, v = opv o u ∧ Cs W u o.cuts := by
  obtain ⟨cs, rfl, hsz⟩ := okWide_struct Tryd.underlying57 hv
  obtain ⟨fuel, hf⟩ := h
  obtain ⟨o, u, e, hc⟩ := trod_op hf
  refine ⟨o, u, ?_, hc⟩
  obtain ⟨l⟩ := cs
  have e' : l = opc (o, u) := by simpa [Value.cells] using e
  rw [e']
theorem open_ops {b0 : Nat} {v : Value} {d : DataW H} {p : List MemPlace} (hv : Value.okWide Tryd.prog W .any b0 31 v) (h : DataW.Trod enc Tryd.prog W 0 (fun _ => true) held 31 v d p) : ∃ l, Os W v l := by
  obtain ⟨a, len, cap, rfl⟩ := okWide_slice Tryd.underlying31 hv
  obtain ⟨fuel, hf⟩ := h
  rcases Go.Deep.open_slice Tryd.underlying31 hf with ⟨hcs, _⟩ | ⟨x, l, c, m, n, D, Pl, hcs, _, hl, hm, hmm, _, hx⟩
  · simp [Value.cells] at hcs
    obtain ⟨rfl, rfl, rfl⟩ := hcs
    exact ⟨[], Sl.nil 20 W, fun p hp => by cases hp⟩
  · simp [Value.cells] at hcs
    obtain ⟨rfl, rfl, rfl⟩ := hcs
    simp at hmm
    subst hmm
    rw [cells_op] at hx
    have each : ∀ i, i < len → ∃ q : Opn × Value, W.cells? 0 (x.add (i * 20)) 20 = some (opc q) ∧ Cs W q.2 q.1.cuts := fun i hi => by
      obtain ⟨cs', h1, h2⟩ := hx i (by omega)
      obtain ⟨o, u, rfl, hc⟩ := trod_op h2
      exact ⟨(o, u), h1, hc⟩
    have hinh : Inhabited (Opn × Value) := ⟨(Opn.zero, .slice none 0 0)⟩
    obtain ⟨q, hq⟩ := Go.Deep.choose_lt each
    refine ⟨(List.range len).map q, ?_, fun p hp => ?_⟩
    · have := Sl.of_rows (sz := 20) (W := W) (x := x) (by decide) hl hm (fun i => opc (q i)) (fun i hi => ⟨rfl, fun j u hu => by
        obtain ⟨_, _, hcell⟩ := World.cells?_some (hq i hi).1
        have hj : j < 20 := (List.getElem?_eq_some_iff.1 hu).1
        have := hcell j hj
        rw [Go.Deep.add_add] at this
        rw [this, hu]⟩)
      rw [List.length_map, List.length_range, List.flatMap_map]
      exact this
    · obtain ⟨i, hi, rfl⟩ := List.mem_map.1 hp
      exact (hq i (List.mem_range.1 hi)).2
theorem open_u8s {b0 : Nat} {v : Value} {d : DataW H} {p : List MemPlace} (hv : Value.okWide Tryd.prog W .any b0 45 v) (h : DataW.Trod enc Tryd.prog W 0 (fun _ => true) held 45 v d p) : ∃ xs, Bs W v xs := by
  obtain ⟨a, len, cap, rfl⟩ := okWide_slice Tryd.underlying45 hv
  obtain ⟨fuel, hf⟩ := h
  rcases open_ints Tryd.underlying45 Tryd.underlying5 (by kernel_rfl) hf with ⟨hcs, _⟩ | ⟨x, l, c, zs, hcs, _, hl, hm, hz, _, hcell, hwz⟩
  · simp [Value.cells] at hcs
    obtain ⟨rfl, rfl, rfl⟩ := hcs
    exact ⟨[], Bs.nil W⟩
  · simp [Value.cells] at hcs
    obtain ⟨rfl, rfl, rfl⟩ := hcs
    exact ⟨zs.take len, Bs.of_row hl hm (by simpa using hz) hcell hwz⟩
theorem open_byte {b0 : Nat} {v : Value} {d : DataW H} {p : List MemPlace} (hv : Value.okWide Tryd.prog W .any b0 5 v) (h : DataW.Trod enc Tryd.prog W 0 (fun _ => true) held 5 v d p) : ∃ x, v = .int .u8 x ∧ 0 ≤ x ∧ x < 256 := by
  obtain ⟨a, rfl, _, _, hw⟩ := open_int Tryd.underlying5 hv h
  refine ⟨a, rfl, ?_⟩
  simp [Lit.wf, IntKind.min, IntKind.max, IntKind.signed, IntKind.bits] at hw
  omega
end

/-- The heap that the program's own text lays meets the list. -/
theorem door_met (os : Go.Os) (args : Array Value) : laidMetH Tryd.prog Rows.oplogKeepsRow.laid ((World.doorLaid Tryd.prog 72 os).forCall (fun _ _ => 0) ⟨#[], args, []⟩).memory := by
  rw [MakeChecks.laidMetH_plain _ _ _ (by kernel_rfl)]
  exact laidMet_of_run' 8 (by kernel_rfl) (by kernel_rfl)

end Go.Proofs.YteckjkblngmenaaDoor

/-
  From a walk to the given statement: what the readings of lists of lists of ops give.
-/
namespace Go.Proofs.YteckjkblngmenaaDoor
open Go.RowKit Go.ChangeShapes Go.WideShapes Go.ChangeAt
set_option linter.unusedVariables false
set_option maxRecDepth 100000

theorem cells_ops : Tryd.prog.cellsOf 31 = 1 := by kernel_rfl
section
variable {H : Type} {enc : TypeId × Value → H} {W : World} {held : Bool}
theorem trod_ops {n : Nat} {v : Value} {x : DataW H × List MemPlace} (h : DataW.trod enc Tryd.prog W 0 (fun _ => true) held n 31 [v] = some x) : ∃ l, Os W v l := by
  rcases Go.Deep.open_slice Tryd.underlying31 h with ⟨hcs, _⟩ | ⟨x, len, c, m, n, D, Pl, hcs, _, hl, hm, hmm, _, hx⟩
  · simp at hcs
    subst hcs
    exact ⟨[], Sl.nil 20 W, fun p hp => by cases hp⟩
  · simp at hcs
    subst hcs
    simp at hmm
    subst hmm
    rw [cells_op] at hx
    have each : ∀ i, i < len → ∃ q : Opn × Value, W.cells? 0 (x.add (i * 20)) 20 = some (opc q) ∧ Cs W q.2 q.1.cuts := fun i hi => by
      obtain ⟨cs', h1, h2⟩ := hx i (by omega)
      obtain ⟨o, u, rfl, hc⟩ := trod_op h2
      exact ⟨(o, u), h1, hc⟩
    have hinh : Inhabited (Opn × Value) := ⟨(Opn.zero, .slice none 0 0)⟩
    obtain ⟨q, hq⟩ := Go.Deep.choose_lt each
    refine ⟨(List.range len).map q, ?_, fun p hp => ?_⟩
    · have := Sl.of_rows (sz := 20) (W := W) (x := x) (by decide) hl hm (fun i => opc (q i)) (fun i hi => ⟨rfl, fun j u hu => by
        obtain ⟨_, _, hcell⟩ := World.cells?_some (hq i hi).1
        have hj : j < 20 := (List.getElem?_eq_some_iff.1 hu).1
        have := hcell j hj
        rw [Go.Deep.add_add] at this
        rw [this, hu]⟩)
      rw [List.length_map, List.length_range, List.flatMap_map]
      exact this
    · obtain ⟨i, hi, rfl⟩ := List.mem_map.1 hp
      exact (hq i (List.mem_range.1 hi)).2
theorem open_opss {b0 : Nat} {v : Value} {d : DataW H} {p : List MemPlace} (hv : Value.okWide Tryd.prog W .any b0 22 v) (h : DataW.Trod enc Tryd.prog W 0 (fun _ => true) held 22 v d p) : ∃ ls, Oss W v ls := by
  obtain ⟨a, len, cap, rfl⟩ := okWide_slice Tryd.underlying22 hv
  obtain ⟨fuel, hf⟩ := h
  rcases Go.Deep.open_slice Tryd.underlying22 hf with ⟨hcs, _⟩ | ⟨x, l, c, m, n, D, Pl, hcs, _, hl, hm, hmm, _, hx⟩
  · simp [Value.cells] at hcs
    obtain ⟨rfl, rfl, rfl⟩ := hcs
    exact ⟨[], [], rfl, Sl.nil 1 W, fun i hi => absurd hi (Nat.not_lt_zero _)⟩
  · simp [Value.cells] at hcs
    obtain ⟨rfl, rfl, rfl⟩ := hcs
    simp at hmm
    subst hmm
    rw [cells_ops] at hx
    have each : ∀ i, i < len → ∃ q : Value × List (Opn × Value), W.cells? 0 (x.add (i * 1)) 1 = some [q.1] ∧ Os W q.1 q.2 := fun i hi => by
      obtain ⟨cs', h1, h2⟩ := hx i (by omega)
      obtain ⟨_, hlen, _⟩ := World.cells?_some h1
      obtain ⟨u, rfl⟩ : ∃ u, cs' = [u] := by
        rcases cs' with _ | ⟨u, _ | ⟨y, r⟩⟩
        · simp at hlen
        · exact ⟨u, rfl⟩
        · simp at hlen
      obtain ⟨l, ho⟩ := trod_ops h2
      exact ⟨(u, l), h1, ho⟩
    have hinh : Inhabited (Value × List (Opn × Value)) := ⟨(.slice none 0 0, [])⟩
    obtain ⟨q, hq⟩ := Go.Deep.choose_lt each
    refine ⟨(List.range len).map (fun i => (q i).2), (List.range len).map (fun i => (q i).1), by simp, ?_, fun i hi hk => ?_⟩
    · have := Sl.of_rows (sz := 1) (W := W) (x := x) (by decide) hl hm (fun i => [(q i).1]) (fun i hi => ⟨rfl, fun j u hu => by
        obtain ⟨_, _, hcell⟩ := World.cells?_some (hq i hi).1
        have hj : j < 1 := (List.getElem?_eq_some_iff.1 hu).1
        have := hcell j hj
        rw [Go.Deep.add_add] at this
        rw [this, hu]⟩)
      rw [List.length_map, List.length_range]
      have e : ∀ n : Nat, (List.range n).map (fun i => (q i).1) = (List.range n).flatMap fun i => [(q i).1] := fun n => by
        rw [List.flatMap_def]
        induction (List.range n) with
        | nil => rfl
        | cons a t ih => simp only [List.map_cons, List.flatten_cons, List.cons_append, List.nil_append, ih]
      rw [e]
      exact this
    · simp only [List.getElem_map, List.getElem_range]
      simp at hi
      exact (hq i hi).2
end
end Go.Proofs.YteckjkblngmenaaDoor
