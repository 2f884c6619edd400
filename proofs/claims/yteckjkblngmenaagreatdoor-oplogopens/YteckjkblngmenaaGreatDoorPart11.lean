/-
  Parts of the proof, one behind the other; what each proves stands at its head.
-/
import Derived.Test.YteckjkblngmenaaGreatDoorPart10
import Derived.Shelf.SlSorted.Search
import Derived.RegionTactic
import Derived.Test.YteckjkblngmenaaGreatDoorPart7
import Derived.OrdersHeld
import Derived.Test.YteckjkblngmenaaGreatDoorPart8
import Derived.Lib.ConvBytes

/-
  A log in memory ('Lg'): its block, its file's, its row of ops, its row of ends; what its use changes ('Ft', 'Lx').
-/
namespace Go.Proofs.YteckjkblngmenaaGreatDoor
open Go.RowKit
set_option linter.unusedVariables false
set_option maxRecDepth 100000

abbrev endc (p : Nat × Nat) : List Value := [.int .i64 p.1, .int .i64 p.2]
theorem endc_len (p : Nat × Nat) : (endc p).length = 2 := rfl

/-- The blocks that a log's use changes. -/
def Ft (lb fb : Nat) (fv vo ve : Value) (k : Nat) : Prop := k = lb ∨ k = fb ∨ fv.ownBlock = some k ∨ vo.ownBlock = some k ∨ ve.ownBlock = some k

/-- Only blocks of S are changed; those of S' are of S, or new. -/
structure Lx (S S' : Nat → Prop) (w w' : World) : Prop where
  fr : Fr S w w'
  new : ∀ k, S' k → S k ∨ w.heap.size ≤ k
theorem Lx.of_below {S : Nat → Prop} {w w' : World} (h : Below w.heap.size w w') : Lx S S w w' := ⟨Fr.of_below h, fun k h => .inl h⟩
theorem Lx.trans {S S1 S2 : Nat → Prop} {a b c : World} (h : Lx S S1 a b) (k : Lx S1 S2 b c) : Lx S S2 a c := by
  refine ⟨h.fr.trans k.fr ?_, ?_⟩
  · intro i hi hs
    rcases h.new i hs with e | e
    · exact e
    · omega
  · intro i hs
    have := h.fr.size
    rcases k.new i hs with e | e
    · exact h.new i e
    · exact .inr (by omega)
theorem Lx.size {S S' : Nat → Prop} {w w' : World} (h : Lx S S' w w') : w.heap.size ≤ w'.heap.size := h.fr.size
theorem Lx.below {S S' : Nat → Prop} {B : Nat} {w w' : World} (h : Lx S S' w w') (hs : ∀ k, S k → B ≤ k) (hB : B ≤ w.heap.size) : Below B w w' :=
  h.fr.below (fun k hk e => by have := hs k e; omega) hB

/-- Ops whose cuts lie outside S. -/
def Cq (S : Nat → Prop) (w : World) (l : List (Opn × Value)) : Prop := ∀ p ∈ l, Cs w p.2 p.1.cuts ∧ (p.1.cuts = [] ∨ ∀ k, p.2.ownBlock = some k → ¬ S k)
theorem Cq.nil (S : Nat → Prop) (w : World) : Cq S w [] := fun p hp => by cases hp
theorem Cq.step {S S' : Nat → Prop} {w w' : World} {l : List (Opn × Value)} (h : Cq S w l) (x : Lx S S' w w') : Cq S' w' l := by
  intro p hp
  obtain ⟨hc, hs⟩ := h p hp
  rcases hs with hs | hs
  · rw [hs] at hc ⊢
    exact ⟨hc.none, .inl rfl⟩
  · by_cases h0 : p.1.cuts = []
    · rw [h0] at hc ⊢
      exact ⟨hc.none, .inl rfl⟩
    · refine ⟨Sl.kept hc (fun k hk hlt => x.fr.block k hlt (hs k hk)), .inr (fun k hk e => ?_)⟩
      have hlt := hc.blk h0 hk
      rcases x.new k e with e | e
      · exact hs k hk e
      · omega
theorem Cq.append {S : Nat → Prop} {w : World} {l q : List (Opn × Value)} (h : Cq S w l) (k : Cq S w q) : Cq S w (l ++ q) := fun p hp => (List.mem_append.1 hp).elim (h p) (k p)
structure Lg (B : Nat) (w : World) (lb fb : Nat) (fv vo ve : Value) (xs : List Int) (n R : Nat) (r : Int) (l : List (Opn × Value)) (es : List (Nat × Nat)) : Prop where
  blk : w.heap[lb]? = some (.cells #[.pointer (some ⟨fb, 0, none⟩), .int .i64 r, vo, ve] 83 (0, 0))
  base : B ≤ lb
  fi : Fi B w fb fv xs n R
  ro : w.ownsRow B 77 20 vo l.length (l.flatMap opc)
  re : w.ownsRow B 96 2 ve es.length (es.flatMap endc)
  cu : Cq (Ft lb fb fv vo ve) w l

section
variable {B : Nat} {w w' : World} {lb fb : Nat} {fv vo ve : Value} {xs : List Int} {n R : Nat} {r : Int} {l : List (Opn × Value)} {es : List (Nat × Nat)}

theorem Lg.lt (h : Lg B w lb fb fv vo ve xs n R r l es) : lb < w.heap.size := (Array.getElem?_eq_some_iff.1 h.blk).1
theorem Lg.nf (h : Lg B w lb fb fv vo ve xs n R r l es) : lb ≠ fb := fun e => by
  have h1 := h.blk
  rw [e, h.fi.1] at h1
  simp at h1
theorem Lg.nv (h : Lg B w lb fb fv vo ve xs n R r l es) : fv.ownBlock ≠ some lb := own_far h.fi.own h.blk (by decide)
theorem Lg.no (h : Lg B w lb fb fv vo ve xs n R r l es) : vo.ownBlock ≠ some lb := own_far h.ro h.blk (by decide)
theorem Lg.ne (h : Lg B w lb fb fv vo ve xs n R r l es) : ve.ownBlock ≠ some lb := own_far h.re h.blk (by decide)
theorem Lg.of (h : Lg B w lb fb fv vo ve xs n R r l es) : vo.ownBlock ≠ some fb := own_far h.ro h.fi.1 (by decide)
theorem Lg.ef (h : Lg B w lb fb fv vo ve xs n R r l es) : ve.ownBlock ≠ some fb := own_far h.re h.fi.1 (by decide)
/-- Two rows of unlike types are two blocks. -/
theorem own_two {e e' sz sz' m m' : Nat} {v v' : Value} {c c' : List Value} (h : w.ownsRow B e sz v m c) (h' : w.ownsRow B e' sz' v' m' c') (he : e ≠ e') {k : Nat} (hk : v.ownBlock = some k) : v'.ownBlock ≠ some k := by
  rcases h.2 with ⟨rfl, _⟩ | ⟨g, cap, cur, rfl, _, hg, _⟩
  · cases hk
  · simp [Value.ownBlock] at hk
    subst hk
    exact own_far h' hg he
theorem Lg.inside (h : Lg B w lb fb fv vo ve xs n R r l es) {k : Nat} (hk : Ft lb fb fv vo ve k) : B ≤ k ∧ k < w.heap.size := by
  rcases hk with rfl | rfl | hk | hk | hk
  · exact ⟨h.base, h.lt⟩
  · exact ⟨h.fi.2.1, h.fi.lt⟩
  · exact h.fi.own.lt k hk
  · exact h.ro.lt k hk
  · exact h.re.lt k hk
theorem Lg.below (h : Lg B w lb fb fv vo ve xs n R r l es) (hb : Below w.heap.size w w') : Lg B w' lb fb fv vo ve xs n R r l es := by
  have hk : ∀ k, Ft lb fb fv vo ve k → w'.heap[k]? = w.heap[k]? := fun k hk => hb.block k (h.inside hk).2
  have hF : Fr (fun _ => False) w w' := Fr.of_below hb
  exact ⟨(hk lb (.inl rfl)).trans h.blk, h.base, h.fi.below hb, own_fr h.ro hF (fun _ _ e => e), own_fr h.re hF (fun _ _ e => e), h.cu.step (Lx.of_below hb)⟩
theorem Lg.drewN (h : Lg B w lb fb fv vo ve xs n R r l es) (m : Nat) : Lg B (w.drewN m) lb fb fv vo ve xs n R r l es := h.below (bd w m)
theorem Lg.fr {S' : Nat → Prop} (h : Lg B w lb fb fv vo ve xs n R r l es) (x : Lx (Ft lb fb fv vo ve) S' w w') (hB : B ≤ w.heap.size) : Below B w w' := x.below (fun k hk => (h.inside hk).1) hB
theorem Lg.os (h : Lg B w lb fb fv vo ve xs n R r l es) : Os w vo l := ⟨Sl.of_own h.ro, fun p hp => (h.cu p hp).1⟩
/-- What the walk reads. -/
theorem Lg.cells (h : Lg B w lb fb fv vo ve xs n R r l es) :
    ∃ a c a2 c2,vo = .slice a l.length c ∧ ve = .slice a2 es.length c2 ∧ l.length ≤ c ∧ es.length ≤ c2 ∧ w.cell? ⟨lb,0,none⟩ = some (.pointer (some ⟨fb,0,none⟩)) ∧ w.cell? ⟨lb,1,none⟩ = some (.int .i64 r) ∧ w.cell? ⟨lb,2,none⟩ = some (.slice a l.length c) ∧ w.cell? ⟨lb,3,none⟩ = some (.slice a2 es.length c2) ∧ w.frozen? ⟨lb,2,none⟩ = false ∧ w.frozen? ⟨lb,3,none⟩ = false := by
  have f1 : ∃ a c, vo = .slice a l.length c ∧ l.length ≤ c := by
    rcases h.ro.2 with ⟨h1, h2⟩ | ⟨g, cap, cur, hv, _, _, hc, _⟩
    · exact ⟨none, 0, by rw [h1, h2], by omega⟩
    · exact ⟨_, cap, hv, hc⟩
  have f2 : ∃ a c, ve = .slice a es.length c ∧ es.length ≤ c := by
    rcases h.re.2 with ⟨h1, h2⟩ | ⟨g, cap, cur, hv, _, _, hc, _⟩
    · exact ⟨none, 0, by rw [h1, h2], by omega⟩
    · exact ⟨_, cap, hv, hc⟩
  obtain ⟨a, c, e, hc⟩ := f1
  obtain ⟨a2, c2, e2, hc2⟩ := f2
  refine ⟨a, c, a2, c2, e, e2, hc, hc2, ?_, ?_, ?_, ?_, frozen_of_row w lb 2 _ _ h.blk, frozen_of_row w lb 3 _ _ h.blk⟩
  · rw [cell_of_row w lb 0 _ _ _ h.blk]; rfl
  · rw [cell_of_row w lb 1 _ _ _ h.blk]; rfl
  · rw [cell_of_row w lb 2 _ _ _ h.blk, ← e]; rfl
  · rw [cell_of_row w lb 3 _ _ _ h.blk, ← e2]; rfl
/-- Where the file was used. -/
theorem Lg.file {fv' : Value} {xs' : List Int} {n' : Nat} (h : Lg B w lb fb fv vo ve xs n R r l es) (hf : Fi B w' fb fv' xs' n' R) (hx : Fx fb fv fv' w w') :
    Lg B w' lb fb fv' vo ve xs' n' R r l es ∧ Lx (Ft lb fb fv vo ve) (Ft lb fb fv' vo ve) w w' := by
  have x : Lx (Ft lb fb fv vo ve) (Ft lb fb fv' vo ve) w w' := by
    refine ⟨hx.1.mono (fun k hk => ?_), fun k hk => ?_⟩
    · rcases hk with rfl | hk
      · exact .inr (.inl rfl)
      · exact .inr (.inr (.inl hk))
    · rcases hk with rfl | rfl | hk | hk | hk
      · exact .inl (.inl rfl)
      · exact .inl (.inr (.inl rfl))
      · exact (hx.2 k hk).imp (fun e => .inr (.inr (.inl e))) id
      · exact .inl (.inr (.inr (.inr (.inl hk))))
      · exact .inl (.inr (.inr (.inr (.inr hk))))
  refine ⟨⟨?_, h.base, hf, ?_, ?_, h.cu.step x⟩, x⟩
  · rw [hx.block h.lt h.nf h.nv]; exact h.blk
  · refine own_fr h.ro hx.1 (fun k hk e => ?_)
    rcases e with rfl | e
    · exact h.of hk
    · exact own_two h.ro h.fi.own (by decide) hk e
  · refine own_fr h.re hx.1 (fun k hk e => ?_)
    rcases e with rfl | e
    · exact h.ef hk
    · exact own_two h.re h.fi.own (by decide) hk e
/-- A store of the row of ops, in a world in which that row was changed alone. -/
theorem Lg.ops {vo' : Value} {l' : List (Opn × Value)} (h : Lg B w lb fb fv vo ve xs n R r l es) (hown : w'.ownsRow B 77 20 vo' l'.length (l'.flatMap opc)) (hfr : Fr (fun k => vo.ownBlock = some k) w w')
    (hv : ∀ k, vo'.ownBlock = some k → vo.ownBlock = some k ∨ w.heap.size ≤ k) (hq : Cq (Ft lb fb fv vo ve) w l') :
    Lg B (w'.setCell ⟨lb, 2, none⟩ vo') lb fb fv vo' ve xs n R r l' es ∧ Lx (Ft lb fb fv vo ve) (Ft lb fb fv vo' ve) w (w'.setCell ⟨lb, 2, none⟩ vo') := by
  have hb' : w'.heap[lb]? = some (.cells #[.pointer (some ⟨fb, 0, none⟩), .int .i64 r, vo, ve] 83 (0, 0)) := by rw [hfr.block lb h.lt h.no]; exact h.blk
  have hne' : vo'.ownBlock ≠ some lb := fun e => by
    rcases hv lb e with e | e
    · exact h.no e
    · have := h.lt; omega
  have hx : Fr (fun k => k = lb ∨ vo.ownBlock = some k) w (w'.setCell ⟨lb, 2, none⟩ vo') := (hfr.mono (fun k e => .inr e)).trans ((Fr.of_set w' lb 2 vo').mono (fun k e => .inl e)) (fun _ _ h => h)
  have x : Lx (Ft lb fb fv vo ve) (Ft lb fb fv vo' ve) w (w'.setCell ⟨lb, 2, none⟩ vo') := by
    refine ⟨hx.mono (fun k hk => ?_), fun k hk => ?_⟩
    · rcases hk with rfl | hk
      · exact .inl rfl
      · exact .inr (.inr (.inr (.inl hk)))
    · rcases hk with rfl | rfl | hk | hk | hk
      · exact .inl (.inl rfl)
      · exact .inl (.inr (.inl rfl))
      · exact .inl (.inr (.inr (.inl hk)))
      · exact (hv k hk).imp (fun e => .inr (.inr (.inr (.inl e)))) id
      · exact .inl (.inr (.inr (.inr (.inr hk))))
  refine ⟨⟨by rw [heap_setCell_same w' lb 2 _ _ vo' hb']; simp, h.base, ?_, ownsRow_setCell_other hown hne' _, ?_, hq.step x⟩, x⟩
  · refine h.fi.of_block (fun k hk => hx.block k ?_ (fun e => ?_))
    · rcases hk with rfl | hk
      · exact h.fi.lt
      · exact (h.fi.own.lt k hk).2
    · rcases e with rfl | e
      · rcases hk with hk | hk
        · exact h.nf hk
        · exact h.nv hk
      · rcases hk with rfl | hk
        · exact h.of e
        · exact own_two h.ro h.fi.own (by decide) e hk
  · refine own_fr h.re hx (fun k hk e => ?_)
    rcases e with rfl | e
    · exact h.ne hk
    · exact own_two h.ro h.re (by decide) e hk
/-- A store of the row of ends. -/
theorem Lg.ends {ve' : Value} {es' : List (Nat × Nat)} (h : Lg B w lb fb fv vo ve xs n R r l es) (hown : w'.ownsRow B 96 2 ve' es'.length (es'.flatMap endc)) (hfr : Fr (fun k => ve.ownBlock = some k) w w')
    (hv : ∀ k, ve'.ownBlock = some k → ve.ownBlock = some k ∨ w.heap.size ≤ k) :
    Lg B (w'.setCell ⟨lb, 3, none⟩ ve') lb fb fv vo ve' xs n R r l es' ∧ Lx (Ft lb fb fv vo ve) (Ft lb fb fv vo ve') w (w'.setCell ⟨lb, 3, none⟩ ve') := by
  have hb' : w'.heap[lb]? = some (.cells #[.pointer (some ⟨fb, 0, none⟩), .int .i64 r, vo, ve] 83 (0, 0)) := by rw [hfr.block lb h.lt h.ne]; exact h.blk
  have hne' : ve'.ownBlock ≠ some lb := fun e => by
    rcases hv lb e with e | e
    · exact h.ne e
    · have := h.lt; omega
  have hx : Fr (fun k => k = lb ∨ ve.ownBlock = some k) w (w'.setCell ⟨lb, 3, none⟩ ve') := (hfr.mono (fun k e => .inr e)).trans ((Fr.of_set w' lb 3 ve').mono (fun k e => .inl e)) (fun _ _ h => h)
  have x : Lx (Ft lb fb fv vo ve) (Ft lb fb fv vo ve') w (w'.setCell ⟨lb, 3, none⟩ ve') := by
    refine ⟨hx.mono (fun k hk => ?_), fun k hk => ?_⟩
    · rcases hk with rfl | hk
      · exact .inl rfl
      · exact .inr (.inr (.inr (.inr hk)))
    · rcases hk with rfl | rfl | hk | hk | hk
      · exact .inl (.inl rfl)
      · exact .inl (.inr (.inl rfl))
      · exact .inl (.inr (.inr (.inl hk)))
      · exact .inl (.inr (.inr (.inr (.inl hk))))
      · exact (hv k hk).imp (fun e => .inr (.inr (.inr (.inr e)))) id
  refine ⟨⟨by rw [heap_setCell_same w' lb 3 _ _ ve' hb']; simp, h.base, ?_, ?_, ownsRow_setCell_other hown hne' _, h.cu.step x⟩, x⟩
  · refine h.fi.of_block (fun k hk => hx.block k ?_ (fun e => ?_))
    · rcases hk with rfl | hk
      · exact h.fi.lt
      · exact (h.fi.own.lt k hk).2
    · rcases e with rfl | e
      · rcases hk with hk | hk
        · exact h.nf hk
        · exact h.nv hk
      · rcases hk with rfl | hk
        · exact h.ef e
        · exact own_two h.re h.fi.own (by decide) e hk
  · refine own_fr h.ro hx (fun k hk e => ?_)
    rcases e with rfl | e
    · exact h.no hk
    · exact own_two h.ro h.re (by decide) hk e
/-- A new log of a file. -/
theorem Lg.fresh (hf : Fi B w fb fv xs n R) (hB : B ≤ w.heap.size) (r : Int) :
    Lg B (w.alloc (.cells #[.pointer (some ⟨fb, 0, none⟩), .int .i64 r, .slice none 0 0, .slice none 0 0] 83 (0, 0))) w.heap.size fb fv (.slice none 0 0) (.slice none 0 0) xs n R r [] [] :=
  ⟨heap_alloc_new w _, hB, hf.below (ba w _), ⟨rfl, .inl ⟨rfl, rfl⟩⟩, ⟨rfl, .inl ⟨rfl, rfl⟩⟩, Cq.nil _ _⟩
end


end Go.Proofs.YteckjkblngmenaaGreatDoor

/-
  How many frames stand within so many bytes (the library's search, by its own contract, at this program's numbers), and how many ops stand in the first so many frames.
-/
namespace Go.Proofs
open Go.Shelf
def Tryz.laysSearch_ren : Go.Shelf.Ren := ⟨fun | 16 => 101 | n => n, fun | 3 => 3 | 4 => 4 | 35 => 133 | 38 => 114 | n => n, fun | n => n⟩
theorem Tryz.laysSearch : Go.Proofs.SlLaysO.n16 Tryz.prog Tryz.laysSearch_ren := {
  mixed := by kernel_rfl
  f16 := Tryz.func101.trans (congrArg some (by kernel_rfl))
  t3 := Tryz.underlying3
  a3 := Tryz.isAgg3
  z3 := Tryz.sizeOf3
  v3 := Tryz.zeroValue3
  t4 := Tryz.underlying4
  a4 := Tryz.isAgg4
  z4 := Tryz.sizeOf4
  v4 := Tryz.zeroValue4
  t35 := Tryz.underlying133
  a35 := Tryz.isAgg133
  z35 := Tryz.sizeOf133
  v35 := Tryz.zeroValue133
  t38 := Tryz.underlying114
  a38 := Tryz.isAgg114
  z38 := Tryz.sizeOf114
  v38 := Tryz.zeroValue114 }
end Go.Proofs
namespace Go.Proofs.YteckjkblngmenaaGreatDoor
open Go.RowKit Go.Sort
set_option linter.unusedVariables false
set_option maxRecDepth 100000

section
variable {B : Nat} {w w' : World} {lb fb : Nat} {fv vo ve : Value} {xs : List Int} {n R : Nat} {r : Int} {l : List (Opn × Value)} {es : List (Nat × Nat)}

/-- Where an end's two numbers lie. -/
theorem Lg.end_at (h : Lg B w lb fb fv vo ve xs n R r l es) {i : Nat} (hi : i < es.length) : ∃ g c, ve = .slice (some ⟨g, 0, none⟩) es.length c ∧ g < w.heap.size ∧ w.cell? ⟨g, i * 2, none⟩ = some (.int .i64 (es[i]).1) ∧ w.cell? ⟨g, i * 2 + 1, none⟩ = some (.int .i64 (es[i]).2) := by
  rcases h.re.2 with ⟨_, h2⟩ | ⟨g, cap, cur, hv, _, hg, _, _, _, ht⟩
  · omega
  · refine ⟨g, cap, hv, (Array.getElem?_eq_some_iff.1 hg).1, ?_, ?_⟩
    · have := flat_at endc 2 endc_len es i 0 hi (by omega)
      rw [← ht] at this
      rw [cell_of_row w g _ _ _ _ hg]
      rw [List.getElem?_take] at this
      rw [if_pos (by omega)] at this
      simpa using this
    · have := flat_at endc 2 endc_len es i 1 hi (by omega)
      rw [← ht] at this
      rw [cell_of_row w g _ _ _ _ hg]
      rw [List.getElem?_take] at this
      rw [if_pos (by omega)] at this
      simpa using this

set_option maxHeartbeats 2000000 in
theorem closure_any {bl bs g c m i : Nat} {s x : Int} {W : World} (h0 : W.cell? ⟨bl, 0, none⟩ = some (.pointer (some ⟨lb, 0, none⟩))) (h1 : W.cell? ⟨bs, 0, none⟩ = some (.int .i64 s))
    (h2 : W.cell? ⟨lb, 3, none⟩ = some (.slice (some ⟨g, 0, none⟩) m c)) (hi : i < m) (h3 : W.cell? ⟨g, i * 2, none⟩ = some (.int .i64 x)) :
    Calls Tryz.prog 102 (#[.int .i64 i] ++ #[.pointer (some ⟨bl, 0, none⟩), .pointer (some ⟨bs, 0, none⟩)]) W fun e w' => e = .returned (.bool (decide (s < x))) ∧ ∃ q, w' = W.drewN q := by
  have hiz : (i : Int) < (m : Int) := by omega
  have h3' : W.cell? ⟨g, 0 + i * 2, none⟩ = some (.int .i64 x) := by rw [Nat.zero_add]; exact h3
  have h3'' : W.cell? ⟨g, 0 + i * 2 + 0, none⟩ = some (.int .i64 x) := by rw [Nat.zero_add]; exact h3
  go_enter Tryz.func102, Tryz.ntmps102
  go_wp2
  go_quiet (fail)
  go_wp2
  go_ret
  exact ⟨by first | rfl | simp, _, rfl⟩

/-- How many frames end within so many bytes. -/
def inF (es : List (Nat × Nat)) (s : Int) : Nat := es.countP (fun p => decide ((p.1 : Int) ≤ s))
theorem inF_range (es : List (Nat × Nat)) (s : Int) : (List.range es.length).countP (fun i => !decide (s < ((es.getD i (0, 0)).1 : Int))) = inF es s := by
  have h := Lib.countP_range es.toArray (fun p => !decide (s < (p.1 : Int)))
  have e1 : es.toArray.size = es.length := by simp
  rw [e1] at h
  unfold inF
  rw [show es.toArray.toList = es from rfl] at h
  have e2 : (fun i => !decide (s < ((es.getD i (0, 0)).1 : Int))) = fun i => !decide (s < ((es.toArray[i]!).1 : Int)) := by
    funext i
    by_cases hi : i < es.length
    · rw [getElem!_pos es.toArray i (by simpa using hi)]
      simp [hi]
    · rw [getElem!_neg es.toArray i (by simpa using hi)]
      simp [hi]
      rfl
  rw [e2, h]
  congr 1
  funext p
  by_cases hp : s < (p.1 : Int)
  · simp [hp]
  · simp [hp]; omega

set_option maxHeartbeats 2000000 in
theorem frames_any (h : Lg B w lb fb fv vo ve xs n R r l es) (s : Int) (hs : es.Pairwise (fun p q => p.1 ≤ q.1)) (hl : es.length ≤ 10000000) :
    Calls Tryz.prog 70 #[.pointer (some ⟨lb, 0, none⟩), .int .i64 s] w fun e w' => e = .returned (.int .i64 (inF es s : Nat)) ∧ Below w.heap.size w w' := by
  obtain ⟨W0, hW0⟩ : ∃ W0, W0 = (w.alloc (.cells #[.pointer (some ⟨lb, 0, none⟩)] 32)).alloc (.cells #[.int .i64 s] 3) := ⟨_, rfl⟩
  have hsize : W0.heap.size = w.heap.size + 1 + 1 := by rw [hW0]; simp
  have ca : W0.cell? ⟨w.heap.size, 0, none⟩ = some (.pointer (some ⟨lb, 0, none⟩)) := by rw [hW0]; exact cell_alloc_sl _ (cell_new_sl w _ _)
  have cx : W0.cell? ⟨w.heap.size + 1, 0, none⟩ = some (.int .i64 s) := by rw [hW0]; have := cell_new_sl (w.alloc (.cells #[.pointer (some ⟨lb, 0, none⟩)] 32)) (.int .i64 s) 3; rwa [World.size_alloc] at this
  have hlt := h.lt
  have cl : ∀ {g j : Nat} {v : Value}, w.cell? ⟨g, j, none⟩ = some v → W0.cell? ⟨g, j, none⟩ = some v := fun hc => by rw [hW0]; exact cell_alloc_sl _ (cell_alloc_sl _ hc)
  obtain ⟨a, c, a2, c2, e1, e2, _, hc2, k0, k1, k2, k3, _, _⟩ := h.cells
  have eg : ∀ args w, (callFunc 102 args).run Tryz.prog w = .ok (.enter 102 args) w := enters_of Tryz.func102 (by kernel_rfl) rfl
  have hS := Any.sort_Search Tryz.laysSearch 102 #[.pointer (some ⟨w.heap.size, 0, none⟩), .pointer (some ⟨w.heap.size + 1, 0, none⟩)] es.length (fun i => decide (s < ((es.getD i (0, 0)).1 : Int))) W0 eg (by omega)
    (fun m os i hi => by
      obtain ⟨g, cc, hv, hg, hx1, _⟩ := h.end_at hi
      have hx := cl hx1
      have k3' := cl k3
      rw [e2] at hv
      rw [hv] at k3'
      have e3 : es.getD i (0, 0) = es[i] := by simp [hi]
      rw [e3]
      exact (closure_any (cell_grown (by simp [hsize]; omega) ca m os) (cell_grown (by simp [hsize]) cx m os) (cell_grown (by simp [hsize]; omega) k3' m os) hi (cell_grown (by simp [hsize]; omega) hx m os)).mono
        fun _ _ ⟨he, q, hq⟩ => ⟨he, q, #[], by rw [hq, grow_empty]⟩)
    (fun a b hab hb h => by
      have ea : es.getD a (0, 0) = es[a]'(by omega) := by simp [show a < es.length by omega]
      have eb : es.getD b (0, 0) = es[b] := by simp [hb]
      rw [ea] at h
      rw [eb]
      rcases Nat.lt_or_eq_of_le hab with hlt | rfl
      · have := List.pairwise_iff_getElem.1 hs a b (by omega) hb hlt
        simp at h ⊢
        omega
      · exact h)
  rw [inF_range] at hS
  change Calls Tryz.prog 101 _ _ _ at hS
  subst e2
  clear ca cx cl hs k0 k1 k2 e1
  have HB0 : Hid (Below w.heap.size w W0) := hid (by rw [hW0]; exact ((Below.refl _ w).alloc (Nat.le_refl _) _).alloc (by simp) _)
  generalize inF es s = q at hS ⊢
  have HH := hid h.lt
  clear h
  have k4 := fun o o' => ((ba (w.alloc o) o').cell (p := ⟨lb, 3, none⟩) (World.block_lt_of_cell? _ _ (((ba w o).cell (p := ⟨lb, 3, none⟩) hlt).trans k3))).trans (((ba w o).cell (p := ⟨lb, 3, none⟩) hlt).trans k3)
  go_enter Tryz.func70, Tryz.ntmps70
  go_wp2_with (go_at_call 101; rw [← hW0]; refine hS.mono ?_; rintro e w' ⟨rfl, q, os, rfl⟩)
  go_ret
  refine ⟨rfl, ?_⟩
  rw [← hW0]
  exact HB0.out.trans (below_grown_sl w.heap.size W0 q os (by omega))

set_option maxHeartbeats 2000000 in
theorem opsof_zero (h : Lg B w lb fb fv vo ve xs n R r l es) :
    Calls Tryz.prog 69 #[.pointer (some ⟨lb, 0, none⟩), .int .i64 0] w fun e w' => e = .returned (.int .i64 0) ∧ w = w' := by
  clear h
  go_enter Tryz.func69, Tryz.ntmps69
  go_wp2
  go_ret
  exact ⟨rfl, rfl⟩
set_option maxHeartbeats 2000000 in
theorem opsof_more (h : Lg B w lb fb fv vo ve xs n R r l es) (k : Nat) (hk : k < es.length) (hl : es.length ≤ 10000000) :
    Calls Tryz.prog 69 #[.pointer (some ⟨lb, 0, none⟩), .int .i64 ((k + 1 : Nat) : Int)] w fun e w' => e = .returned (.int .i64 (es[k]).2) ∧ w = w' := by
  obtain ⟨a, c, a2, c2, e1, e2, _, hc2, k0, k1, k2, k3, _, _⟩ := h.cells
  obtain ⟨g, cc, hv, hg, hx1, hx2⟩ := h.end_at hk
  rw [e2] at hv
  rw [hv] at k3
  generalize (es[k]).2 = y at hx2 ⊢
  clear h hx1
  generalize es.length = m at *
  have i1 : (((k + 1 : Nat) : Int) == 0) = false := by simp; omega
  have i2 : ((k + 1 : Nat) : Int) - 1 < (m : Int) := by omega
  have i3 : (0 : Int) ≤ ((k + 1 : Nat) : Int) - 1 := by omega
  have i4 : (((k + 1 : Nat) : Int) - 1).toNat = k := by omega
  generalize ((k + 1 : Nat) : Int) = z at *
  have hx3 : w.cell? ⟨g, 0 + k * 2 + 1, none⟩ = some (.int .i64 y) := by rw [Nat.zero_add]; exact hx2
  clear e1 e2 hv k0 k1 k2 hc2
  go_enter Tryz.func69, Tryz.ntmps69
  go_wp2
  go_ret
  exact ⟨rfl, rfl⟩
end
end Go.Proofs.YteckjkblngmenaaGreatDoor

/-
  Steps of a region whose order is drawn, under a condition on the world that each step keeps.
-/
namespace Go.Proofs.YteckjkblngmenaaGreatDoor
open Go.RowKit
set_option linter.unusedVariables false
set_option maxRecDepth 100000

section
variable {P : Program} {ops : Array Oper} {Q : Exit → Act → World → Prop} {o : Oper} {a : Act} {w : World} {K : Act → World → Prop}
theorem hb_callx {i : Nat} {f : FuncId} {args : Array Value} {D : Value → World → Prop} (hi : ops[i]? = some o) (hw : Region.wanted o (yielded ops a.tmps) = true) (hrun : (execOp a.eval o).run P w = .ok (.enter f args) w)
    (hc : Calls P f args w fun e w' => ∃ v, e = .returned v ∧ D v w') (h : ∀ v w', D v w' → K (a.put o.dst v) w') : wpOp P ops Q i K a w :=
  wpOp_step hi fun K' hK => by rw [if_pos hw]; unfold Oper.wp; rw [hrun]; exact hc.mono fun e w' ⟨v, he, hd⟩ => by subst he; exact hK _ _ (h v w' hd)
theorem hb_new {i : Nat} {w' : World} {v : Value} (hi : ops[i]? = some o) (hw : Region.wanted o (yielded ops a.tmps) = true) (hrun : (execOp a.eval o).run P w = .ok (.value v) w') (h : K (a.put o.dst v) w') : wpOp P ops Q i K a w :=
  wpOp_step hi fun K' hK => by rw [if_pos hw]; unfold Oper.wp; rw [hrun]; exact hK _ _ h
theorem hb_skip {i : Nat} {w' : World} (hi : ops[i]? = some o) (hw : Region.wanted o (yielded ops a.tmps) = true) (hrun : (execOp a.eval o).run P w = .ok .skip w') (h : K (a.put o.dst undef) w') : wpOp P ops Q i K a w :=
  wpOp_step hi fun K' hK => by rw [if_pos hw]; unfold Oper.wp; rw [hrun]; exact hK _ _ h
end

end Go.Proofs.YteckjkblngmenaaGreatDoor

/-
  Lists of ops as bytes, more: a cursor that is lost, and what is told by so many.
-/
namespace Go.Proofs.YteckjkblngmenaaGreatDoor
open Go.RowKit
set_option linter.unusedVariables false
set_option maxRecDepth 100000

theorem decO_nil : (decO Bnd.own []).2 = false := by decide
theorem rt_lost (m : Int) : rt m ([], true) = (⟨#[]⟩, ([], true)) := by
  unfold rt
  rfl
theorem rdA_lost {m : St → Int} {j : Nat} {s q : St} {l : List Opn} (h : rdA m j s = some (l, q)) (hq : q = ([], true)) : rdA m (j + 1) s = none := by
  rw [rdA_step m j s q l h, hq, rt_lost]
  have : tx ⟨#[]⟩ = [] := rfl
  rw [this, decO_nil]
  rfl
theorem decA_eq {m : St → Int} {xs : List Int} {n : Nat} {s1 : St} (h : rn 1048576 (xs, false) = ((n : Int), s1)) :
    decA m xs = match rdA m n s1 with | none => ([], false) | some (l, q) => if !q.2 && q.1.isEmpty then (l, true) else ([], false) := by
  unfold decA
  rw [h]
  rfl

end Go.Proofs.YteckjkblngmenaaGreatDoor

/-
  A text as new bytes, for every text: as a law of the walk.
-/
namespace Go.Proofs.YteckjkblngmenaaGreatDoor
open Go.RowKit
set_option linter.unusedVariables false
set_option maxRecDepth 100000

theorem tobytes (s : ByteArray) (w : World) (hs : s.size ≤ 1099511627776) : ∃ u w', (convert 9 36 (.string s)).run Tryz.prog w = .ok u w' ∧ Bs w' u (tx s) ∧ Below w.heap.size w w' := by
  have hl : (tx s).length = s.size := tx_length s
  refine ⟨_, _, Lib.run_convert_string_bytes w 9 36 5 s Tryz.underlying9 Tryz.underlying36 Tryz.underlying5, ?_, ?_⟩
  · refine ⟨some ⟨w.heap.size, 0, none⟩, grownCap w s.size 0 5, by rw [hl], by rw [hl]; exact grownCap_ge _ _ _ _, grownCap_le_maxLen _ _ _ _ (by unfold maxLen; omega), fun h => (by cases h), fun i hi => ⟨w.heap.size, 0, rfl, ?_⟩, fun x hx => M.ofStr_byte s x hx⟩
    rw [hl] at hi
    rw [Nat.zero_add, Lib.bytesWorld_cell w 5 s i hi]
    have hi' : i < s.data.size := hi
    simp [tx, List.getD, Array.getElem?_eq_getElem hi']
  · exact ⟨rfl, rfl, rfl, by rw [Lib.bytesWorld_size]; omega, fun k hk => Lib.bytesWorld_at_old w 5 s k hk⟩
end Go.Proofs.YteckjkblngmenaaGreatDoor
