/-
  A writer in memory ('Wr'), what may change while it writes ('Wx'), and what its method numbers writes: proved for all right numbers.
-/
import Derived.Test.YtmgemgkanlpnnaaDoorOSl
import Derived.Test.YtmgemgkanlpnnaaDoorText
import Derived.Test.YtmgemgkanlpnnaaDoorAppend
namespace Go.Proofs.YtmgemgkanlpnnaaDoor
open Go.RowKit
set_option linter.unusedVariables false
set_option maxRecDepth 100000

/-- Blocks that were there are as they were, but for some. -/
structure Fr (S : Nat → Prop) (w w' : World) : Prop where
  os : w'.os = w.os
  tape : w'.tape = w.tape
  output : w'.output = w.output
  size : w.heap.size ≤ w'.heap.size
  block : ∀ k, k < w.heap.size → ¬ S k → w'.heap[k]? = w.heap[k]?
theorem Fr.refl (S : Nat → Prop) (w : World) : Fr S w w := ⟨rfl, rfl, rfl, Nat.le_refl _, fun _ _ _ => rfl⟩
theorem Fr.trans {S T : Nat → Prop} {a b c : World} (h : Fr S a b) (k : Fr T b c) (hs : ∀ i, i < a.heap.size → T i → S i) : Fr S a c :=
  ⟨k.os.trans h.os, k.tape.trans h.tape, k.output.trans h.output, Nat.le_trans h.size k.size, fun i hi hn => (k.block i (Nat.lt_of_lt_of_le hi h.size) (fun ht => hn (hs i hi ht))).trans (h.block i hi hn)⟩
theorem Fr.of_below {S : Nat → Prop} {w w' : World} (h : Below w.heap.size w w') : Fr S w w' := ⟨h.os, h.tape, h.output, h.size, fun k hk _ => h.block k hk⟩
theorem Fr.of_grown {S : Nat → Prop} {w w' : World} {row : Option Nat} (h : w.grownBy w' row) (hs : ∀ k, row = some k → S k) : Fr S w w' := ⟨h.os, h.tape, h.output, h.size, fun k hk hn => h.block k hk (fun e => hn (hs k e.symm))⟩
theorem Fr.mono {S T : Nat → Prop} {w w' : World} (h : Fr S w w') (hs : ∀ k, S k → T k) : Fr T w w' := ⟨h.os, h.tape, h.output, h.size, fun k hk hn => h.block k hk (fun e => hn (hs k e))⟩
theorem Fr.of_set (w : World) (b i : Nat) (v : Value) : Fr (fun k => k = b) w (w.setCell ⟨b, i, none⟩ v) :=
  ⟨rfl, rfl, rfl, by simp [World.setCell], fun k _ hn => heap_setCell_other w ⟨b, i, none⟩ k v hn⟩
theorem Fr.drewN {S : Nat → Prop} {a w : World} (h : Fr S a w) (n : Nat) : Fr S a (w.drewN n) := ⟨h.os, h.tape, h.output, h.size, h.block⟩
/-- Where all that changes is new. -/
theorem Fr.below {S : Nat → Prop} {B : Nat} {w w' : World} (h : Fr S w w') (hs : ∀ k, k < B → ¬ S k) (hB : B ≤ w.heap.size) : Below B w w' :=
  ⟨h.os, h.tape, h.output, h.size, fun k hk => h.block k (by omega) (hs k hk)⟩

/-- A writer's block, whose row of bytes is the call's own. -/
def Wr (B : Nat) (w : World) (b : Nat) (v : Value) (xs : List Int) : Prop :=
  w.heap[b]? = some (.cells #[v] 74 (0, 0)) ∧ w.ownsRow B 5 1 v xs.length (cs xs) ∧ ∀ x ∈ xs, 0 ≤ x ∧ x < 256
/-- What a writer's work changes: its block, its row's. -/
def Wx (b : Nat) (v v' : Value) (w w' : World) : Prop :=
  Fr (fun k => k = b ∨ v.ownBlock = some k) w w' ∧ (v'.ownBlock = v.ownBlock ∨ ∃ k, v'.ownBlock = some k ∧ w.heap.size ≤ k)
theorem Wx.refl (b : Nat) (v : Value) (w : World) : Wx b v v w w := ⟨Fr.refl _ _, .inl rfl⟩
theorem Wx.of_below {b : Nat} {v : Value} {w w' : World} (h : Below w.heap.size w w') : Wx b v v w w' := ⟨Fr.of_below h, .inl rfl⟩
theorem Wx.size {b : Nat} {v v' : Value} {w w' : World} (h : Wx b v v' w w') : w.heap.size ≤ w'.heap.size := h.1.size
theorem Wx.trans {b : Nat} {u v x : Value} {w w1 w2 : World} (h : Wx b u v w w1) (k : Wx b v x w1 w2) : Wx b u x w w2 := by
  refine ⟨h.1.trans k.1 ?_, ?_⟩
  · intro i hi hs
    rcases hs with hs | hs
    · exact .inl hs
    · rcases h.2 with e | ⟨j, e, hj⟩
      · rw [e] at hs; exact .inr hs
      · rw [e] at hs
        simp only [Option.some.injEq] at hs
        omega
  · have := h.1.size
    rcases k.2 with e | ⟨j, e, hj⟩
    · rw [e]; exact h.2
    · exact .inr ⟨j, e, by omega⟩
theorem Wx.block {b : Nat} {v v' : Value} {w w' : World} (h : Wx b v v' w w') {k : Nat} (hk : k < w.heap.size) (hb : k ≠ b) (hv : v.ownBlock ≠ some k) : w'.heap[k]? = w.heap[k]? := h.1.block k hk (fun h => h.elim hb hv)
theorem Wr.lt {B : Nat} {w : World} {b : Nat} {v : Value} {xs : List Int} (h : Wr B w b v xs) : b < w.heap.size := (Array.getElem?_eq_some_iff.1 h.1).1
theorem Wr.far {B : Nat} {w : World} {b : Nat} {v : Value} {xs : List Int} (h : Wr B w b v xs) {k : Nat} {c : Array Value} {T : TypeId} {fr : Nat × Nat} (hk : w.heap[k]? = some (.cells c T fr)) (hT : T ≠ 5) : v.ownBlock ≠ some k := by
  intro e
  rcases h.2.1.2 with ⟨rfl, _⟩ | ⟨g, cap, cur, rfl, _, hg, _⟩
  · cases e
  · simp [Value.ownBlock] at e
    subst e
    rw [hg] at hk
    simp at hk
    exact hT hk.2.1.symm
theorem Wr.below {B : Nat} {w w' : World} {b : Nat} {v : Value} {xs : List Int} (h : Wr B w b v xs) (hb : Below w.heap.size w w') : Wr B w' b v xs :=
  ⟨by rw [hb.block b h.lt]; exact h.1, own_below h.2.1 hb, h.2.2⟩
/-- A store of the row as it is now. -/
theorem Wr.put {B : Nat} {w w' : World} {b : Nat} {v v' : Value} {xs ys : List Int} (h : Wr B w b v xs) (hown : w'.ownsRow B 5 1 v' (xs ++ ys).length (cs (xs ++ ys))) (hg : w.grownBy w' v.ownBlock) (hy : ∀ x ∈ ys, 0 ≤ x ∧ x < 256)
    (hv : v'.ownBlock = v.ownBlock ∨ v'.ownBlock = some w.heap.size) : Wr B (w'.setCell ⟨b, 0, none⟩ v') b v' (xs ++ ys) ∧ Wx b v v' w (w'.setCell ⟨b, 0, none⟩ v') := by
  have hne := h.far h.1 (by decide)
  have hb' : w'.heap[b]? = some (.cells #[v] 74 (0, 0)) := by rw [hg.block b h.lt (Ne.symm hne)]; exact h.1
  have hne' : v'.ownBlock ≠ some b := by
    rcases hv with e | e
    · rw [e]; exact hne
    · rw [e]
      have := h.lt
      simp
      omega
  refine ⟨⟨by rw [heap_setCell_same w' b 0 _ _ v' hb']; simp, ownsRow_setCell_other hown hne' _, ?_⟩, ?_, ?_⟩
  · intro x hx
    rcases List.mem_append.1 hx with hx | hx
    · exact h.2.2 x hx
    · exact hy x hx
  · exact (Fr.of_grown hg (fun k e => .inr e)).trans ((Fr.of_set w' b 0 v').mono (fun k e => .inl e)) (fun _ _ h => h)
  · rcases hv with e | e
    · exact .inl e
    · exact .inr ⟨_, e, Nat.le_refl _⟩
theorem Wr.cell {B : Nat} {w : World} {b : Nat} {v : Value} {xs : List Int} (h : Wr B w b v xs) : w.cell? ⟨b, 0, none⟩ = some v ∧ w.frozen? ⟨b, 0, none⟩ = false ∧ ∃ a c, v = .slice a xs.length c ∧ xs.length ≤ c := by
  refine ⟨by rw [cell_of_row w b 0 _ _ _ h.1]; rfl, frozen_of_row w b 0 _ _ h.1, own_form h.2.1⟩

def Num49 (n : Int) : Prop := 0 ≤ n ∧ n < 562949953421312
theorem encs_len (ns : List Int) : (ns.flatMap M.enc).length ≤ 7 * ns.length := by
  induction ns with
  | nil => simp
  | cons n ns ih =>
    rw [List.flatMap_cons, List.length_append, M.enc_length, List.length_cons]
    have := (M.sz_pos n).2
    omega
theorem encs_step (ns : List Int) (k : Nat) (hk : k < ns.length) : (ns.take (k + 1)).flatMap M.enc = (ns.take k).flatMap M.enc ++ M.enc ns[k] := by
  rw [List.take_succ_eq_append_getElem hk, List.flatMap_append]
  simp

set_option maxHeartbeats 2000000 in
theorem numbers_any (B b : Nat) (v : Value) (xs ns : List Int) (g : Nat) (w : World) (h : Wr B w b v xs) (hB : B ≤ w.heap.size) (hns : ∀ n ∈ ns, Num49 n) (hlen : xs.length + 7 * ns.length ≤ 140737488355328) (hpos : 0 < ns.length)
    (hg : w.heap[g]? = some (.cells (ns.map (Value.int .i64)).toArray 3 (0, 0))) :
    Calls Tryd.prog 40 #[.pointer (some ⟨b, 0, none⟩), .slice (some ⟨g, 0, none⟩) ns.length ns.length] w fun e w' =>
      e = .returned (.tuple #[]) ∧ ∃ v', Wr B w' b v' (xs ++ ns.flatMap M.enc) ∧ Wx b v v' w w' := by
  obtain ⟨n, hn⟩ : ∃ n, ns.length = n := ⟨_, rfl⟩
  have HN := hid hn
  have HW := hid h
  have HG := hid hg
  have HS := hid hns
  have HGL : g < w.heap.size := (Array.getElem?_eq_some_iff.1 hg).1
  have HGB : g ≠ b := by intro e; subst e; rw [h.1] at hg; simp at hg
  have HGV := hid (h.far hg (by decide))
  rw [hn] at hlen hpos ⊢
  clear hn h hg hns
  go_enter Tryd.func40, Tryd.ntmps40
  go_wp2
  go_loopw [10] (fun i wr => ∃ (k : Nat) (v' : Value), k ≤ n ∧ i = .int .i64 k ∧ Wr B wr b v' (xs ++ (ns.take k).flatMap M.enc) ∧ Wx b v v' w wr) (fun i _ => n - (intOf i).toNat)
  case atStart => exact ⟨0, v, Nat.zero_le _, rfl, by simpa using HW.out, Wx.refl _ _ _⟩
  case round =>
    obtain ⟨k, v1, hk, rfl, hw1, hx1⟩ := hrel
    have HX1 := hid hx1
    obtain ⟨ys, hys⟩ : ∃ ys, xs ++ (ns.take k).flatMap M.enc = ys := ⟨_, rfl⟩
    rw [hys] at hw1
    have HY := hid hys
    have HW1 := hid hw1
    clear hx1 hw1 hys
    by_cases hlt : k < n
    · have hkl : k < ns.length := by rw [HN.out]; exact hlt
      have hg1 : wr.heap[g]? = some (.cells (ns.map (Value.int .i64)).toArray 3 (0, 0)) := by rw [HX1.out.block HGL HGB HGV.out]; exact HG.out
      have g1 : wr.cell? ⟨g, k, none⟩ = some (.int .i64 ns[k]) := by
        rw [cell_of_row wr g k _ _ _ hg1]
        simp [hkl]
      obtain ⟨x, hx⟩ : ∃ x, ns[k] = x := ⟨_, rfl⟩
      have hx49 : Num49 x := by rw [← hx]; exact HS.out _ (List.getElem_mem hkl)
      rw [hx] at g1
      have HX := hid hx
      have HX49 := hid hx49
      have b1' : (k : Int) < (n : Int) := by omega
      clear hx hg1 hx49
      go_wp2_with fail
      refine (put_bs x _ HX49.out.1 HX49.out.2).mono ?_
      rintro e w2 ⟨u, rfl, hu, hb2⟩
      have HW2 := hid (HW1.out.below hb2)
      have HX2 := hid (HX1.out.trans (Wx.of_below (v := v1) (b := b) hb2))
      have HU := hid hu
      have hsz : w.heap.size ≤ w2.heap.size := HX2.out.size
      have hlx : ys.length + (M.enc x).length ≤ 140737488355328 := by
        have := encs_len (ns.take k)
        rw [← HY.out]
        have := (M.sz_pos x).2
        have := HN.out
        rw [List.length_append, M.enc_length]
        rw [List.length_take] at *
        omega
      obtain ⟨hc, hfz, a1, c1, rfl, _⟩ := HW2.out.cell
      clear hb2 hu g1
      go_wp2_with (at_builtin; refine wpList_append_bs rfl _ _ rfl B _ _ ys rfl HW2.out.2.1 _ (M.enc x) rfl HU.out hlx (by omega) ?_)
      intro v3 w3 hown3 hg3 hv3
      rw [← List.length_append, ← List.map_append] at hown3
      have hp := HW2.out.put hown3 hg3 (M.enc_byte x HX49.out.1 HX49.out.2) hv3
      have HP := hid hp
      obtain ⟨a3, c3, rfl, _⟩ := own_form hown3
      simp only [List.length_append] at HP
      have hc3 : w3.cell? ⟨b, 0, none⟩ = some (.slice a1 ys.length c1) := hg3.cell hc (Ne.symm (HW2.out.far HW2.out.1 (by decide)))
      have hfz3 : w3.frozen? ⟨b, 0, none⟩ = false := by rw [World.frozen?_of_block (w := w2) (hg3.block b HW2.out.lt (Ne.symm (HW2.out.far HW2.out.1 (by decide))))]; exact hfz
      clear hp hown3 hg3 hv3 hc hfz
      go_wp2
      go_roundw
      case rel =>
        refine ⟨k + 1, _, by omega, by go_num, ?_, HX2.out.trans HP.out.2⟩
        rw [encs_step ns k hkl, HX.out, ← List.append_assoc, HY.out]
        exact HP.out.1
      case measure => simp [intOf]; omega
    · have e1 : k = n := by omega
      go_wp2
      go_end0
      refine ⟨rfl, v1, ?_, HX1.out⟩
      have := HW1.out
      rw [← HY.out, List.take_of_length_le (by have := HN.out; omega)] at this
      exact this

end Go.Proofs.YtmgemgkanlpnnaaDoor
