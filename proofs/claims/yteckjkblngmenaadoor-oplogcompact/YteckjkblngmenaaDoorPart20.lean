/-
  Parts of the proof, one behind the other; what each proves stands at its head.
-/
import Derived.Test.YteckjkblngmenaaDoorPart19
import Derived.Test.YteckjkblngmenaaDoorPart17
import Derived.Test.YteckjkblngmenaaDoorPart9
import Derived.Test.YteckjkblngmenaaDoorPart11
import Derived.Test.YteckjkblngmenaaDoorPart16

/-
  What oplog's Compact does is proved here: the file has the ops anew, in parts, or is left.
-/
namespace Go.Proofs.YteckjkblngmenaaDoor
open Go.RowKit
set_option linter.unusedVariables false
set_option maxRecDepth 100000

theorem encA_one (o : Opn) : (encA [o]).length = 1 + (encT o).length := by
  unfold encA
  rw [List.length_append, M.enc_length, List.flatMap_cons, List.flatMap_nil, List.append_nil]
  rfl
theorem encA_snoc (f : List Opn) (o : Opn) : (encA (f ++ [o])).length = M.sz ((f.length + 1 : Nat) : Int) + (f.flatMap encT).length + (encT o).length := by
  unfold encA
  rw [List.length_append, M.enc_length, List.flatMap_append, List.length_append, List.length_append, List.flatMap_cons, List.flatMap_nil, List.append_nil, List.length_singleton, Nat.add_assoc]
/-- What holds of parts under way. -/
theorem foldP_inv {l : List Opn} (hr : ∀ o ∈ l, rightO o = true) : (foldP l).2.2 = ((foldP l).2.1.flatMap encT).length ∧ (∀ f ∈ (foldP l).1, f ≠ [] ∧ (encA f).length ≤ 60000) ∧ ((foldP l).2.1 = [] ∨ (encA (foldP l).2.1).length ≤ 60000) := by
  refine snoc_ind (P := fun l => (∀ o ∈ l, rightO o = true) → (foldP l).2.2 = ((foldP l).2.1.flatMap encT).length ∧ (∀ f ∈ (foldP l).1, f ≠ [] ∧ (encA f).length ≤ 60000) ∧ ((foldP l).2.1 = [] ∨ (encA (foldP l).2.1).length ≤ 60000)) ?_ ?_ l hr
  · intro _
    exact ⟨rfl, (fun f hf => by cases hf), .inl rfl⟩
  · intro l o ih h
    obtain ⟨i1, i2, i3⟩ := ih (fun p hp => h p (by simp [hp]))
    have ho := encT_less (h o (by simp))
    rw [foldP_snoc]
    unfold stepP
    split
    · rename_i hc
      refine ⟨by simp, fun f hf => ?_, .inr ?_⟩
      · rcases List.mem_append.1 hf with hf | hf
        · exact i2 f hf
        · rw [List.mem_singleton.1 hf]
          exact ⟨hc.1, i3.resolve_left hc.1⟩
      · rw [encA_one]; omega
    · rename_i hc
      refine ⟨?_, i2, .inr ?_⟩
      · simp only [List.flatMap_append, List.flatMap_cons, List.flatMap_nil, List.append_nil, List.length_append]
        rw [i1]
      · simp only
        rw [encA_snoc]
        by_cases h0 : (foldP l).2.1 = []
        · rw [h0]
          have e : M.sz ((([] : List Opn).length + 1 : Nat) : Int) = 1 := by decide
          rw [e]
          simp
          omega
        · have h1 : ¬ 60000 < M.sz (((foldP l).2.1.length + 1 : Nat) : Int) + (foldP l).2.2 + (encT o).length := fun e => hc ⟨h0, e⟩
          omega
theorem partsP_mem {l : List Opn} {f : List Opn} (hf : f ∈ partsP l) : ∀ o ∈ f, o ∈ l := fun o ho => by
  rw [← partsP_all l]
  exact List.mem_flatten.2 ⟨f, hf, ho⟩
theorem partsP_good {l : List Opn} (hr : ∀ o ∈ l, rightO o = true) : Good (partsP l) := fun f hf => by
  obtain ⟨_, i2, i3⟩ := foldP_inv hr
  have hrf : ∀ o ∈ f, rightO o = true := fun o ho => hr o (partsP_mem hf o ho)
  unfold partsP at hf
  split at hf
  · have := i2 f hf
    exact ⟨this.1, hrf, by omega⟩
  · rename_i hc
    rcases List.mem_append.1 hf with hf | hf
    · have := i2 f hf
      exact ⟨this.1, hrf, by omega⟩
    · have e := List.mem_singleton.1 hf
      have := i3.resolve_left hc
      rw [← e] at this
      exact ⟨by rw [e]; exact hc, hrf, by omega⟩
theorem szF_less {Fs : List (List Opn)} (hg : Good Fs) : szF Fs ≤ 15 * Fs.length + 500 * Fs.flatten.length := by
  induction Fs with
  | nil => exact Nat.le_refl _
  | cons f Fs ih =>
    have h1 := hg f (by simp)
    have h2 := ih (fun x hx => hg x (by simp [hx]))
    have h3 := encTs_less h1.2.1
    have h4 := (M.sz_pos (f.length : Int)).2
    rw [szF_cons, List.flatten_cons, List.length_append, List.length_cons]
    unfold encA
    rw [List.length_append, M.enc_length]
    omega
theorem partsP_len {l : List Opn} (hr : ∀ o ∈ l, rightO o = true) : (partsP l).length ≤ l.length := by
  have h1 := szF_pos (partsP l)
  have h : ∀ Fs : List (List Opn), (∀ f ∈ Fs, f ≠ []) → Fs.length ≤ Fs.flatten.length := by
    intro Fs
    induction Fs with
    | nil => intro _; exact Nat.le_refl _
    | cons f Fs ih =>
      intro hf
      have h2 := ih (fun x hx => hf x (by simp [hx]))
      have h3 : 0 < f.length := List.length_pos_iff.2 (hf f (by simp))
      rw [List.flatten_cons, List.length_append, List.length_cons]
      omega
  have := h (partsP l) (fun f hf => (partsP_good hr f hf).1)
  rwa [partsP_all] at this

/-- An operation that makes memory; one that leaves no value. -/
theorem wpList_new {P : Program} {ops : Array Oper} {rest : List Oper} {o : Oper} {a : Act} {w w' : World} {v : Value} {Q : Exit → Act → World → Prop} (hgd : o.guard = none) (hrun : (execOp a.eval o).run P w = .ok (.value v) w') (hk : wpList P ops Q rest (a.put o.dst v) w') : wpList P ops Q (o :: rest) a w :=
  wpList_plain hgd fun K hK => by unfold Oper.wp; rw [hrun]; exact hK _ _ hk
theorem wpList_none {P : Program} {ops : Array Oper} {rest : List Oper} {o : Oper} {a : Act} {w w' : World} {Q : Exit → Act → World → Prop} (hgd : o.guard = none) (hrun : (execOp a.eval o).run P w = .ok .skip w') (hk : wpList P ops Q rest (a.put o.dst undef) w') : wpList P ops Q (o :: rest) a w :=
  wpList_plain hgd fun K hK => by unfold Oper.wp; rw [hrun]; exact hK _ _ hk

def gc0 : Oper := { dst := some 12, op := Op.move (Operand.tmp 0), type := 28, pos := "oplog.go:86", after := #[], guard := none }
def gc1 : Oper := { dst := some 13, op := Op.nilCheck (Operand.tmp 12), type := 0, pos := "oplog.go:86", after := #[{ on := 0, ground := Ground.data }], guard := none }
def gc2 : Oper := { dst := some 14, op := Op.fieldAddr 64 (Operand.tmp 13) 2, type := 0, pos := "oplog.go:86", after := #[{ on := 1, ground := Ground.data }], guard := none }
def gc3 : Oper := { dst := some 15, op := Op.load 31 (Operand.tmp 14), type := 31, pos := "oplog.go:86", after := #[{ on := 2, ground := Ground.data }], guard := none }
def gc4 : Oper := { dst := some 16, op := Op.move (Operand.tmp 0), type := 28, pos := "oplog.go:86", after := #[], guard := none }
def gc5 : Oper := { dst := some 17, op := Op.call { callee := Callee.value (Operand.func 25), args := #[Operand.tmp 16], argTypes := #[28] }, type := 3, pos := "oplog.go:86", after := #[{ on := 4, ground := Ground.data }], guard := none }
def gc6 : Oper := { dst := some 18, op := Op.slice 31 (Operand.tmp 15) none (some (Operand.tmp 17)) none, type := 31, pos := "oplog.go:86", after := #[{ on := 3, ground := Ground.data }, { on := 5, ground := Ground.data }], guard := none }
def gc7 : Oper := { dst := some 3, op := Op.assign (Operand.tmp 18), type := 31, pos := "oplog.go:86", after := #[{ on := 6, ground := Ground.data }, { on := 5, ground := Ground.chain }, { on := 0, ground := Ground.phase }, { on := 1, ground := Ground.phase }, { on := 2, ground := Ground.phase }, { on := 3, ground := Ground.phase }, { on := 4, ground := Ground.phase }, { on := 5, ground := Ground.phase }, { on := 6, ground := Ground.phase }], guard := none }
def gcs : Array Oper := #[gc0, gc1, gc2, gc3, gc4, gc5, gc6, gc7]
theorem gc_lit : Region.noSelect gcs = true := by kernel_rfl

set_option maxHeartbeats 4000000 in
theorem comp_r1 {B : Nat} {w : World} {lb fb : Nat} {fv vo ve : Value} {xs : List Int} {n R : Nat} {r : Int} {l : List (Opn × Value)} {es : List (Nat × Nat)} {x1 x2 x3 x4 x5 x6 x7 x8 x9 x10 x11 x12 x13 x14 x15 x16 x17 x18 x19 x20 x21 x22 x23 x24 x25 x26 x27 x28 x29 x30 x31 x32 x33 x34 x35 x36 x37 x38 x39 x40 x41 x42 x43 x44 x45 x46 x47 x48 x49 x50 x51 x52 x53 x54 x55 x56 x57 x58 x59 x60 x61 x62 x63 x64 x65 x66 x67 : Value} {Q : Exit → Act → World → Prop} (hl0 : Lg B w lb fb fv vo ve xs n R r l es) (hs : es.Pairwise (fun p q => p.1 ≤ q.1)) (hop : opsAt es (inF es (xs.length : Nat)) = l.length)  (hen : es.length ≤ 10000000)
    (hP : ∀ c t t' d W, Q (.panic c) { tmps := t, defers := d } W → Q (.panic c) { tmps := t', defers := d } W)
    (hQ : ∀ W, Below w.heap.size (World.drew w) W → Q .normal { tmps := #[.pointer (some ⟨lb, 0, none⟩), x1, x2, vo, x4, x5, x6, x7, x8, x9, x10, x11, .pointer (some ⟨lb, 0, none⟩), .pointer (some ⟨lb, 0, none⟩), .pointer (some ⟨lb, 2, none⟩), vo, .pointer (some ⟨lb, 0, none⟩), .int .i64 (l.length : Nat), vo, x19, x20, x21, x22, x23, x24, x25, x26, x27, x28, x29, x30, x31, x32, x33, x34, x35, x36, x37, x38, x39, x40, x41, x42, x43, x44, x45, x46, x47, x48, x49, x50, x51, x52, x53, x54, x55, x56, x57, x58, x59, x60, x61, x62, x63, x64, x65, x66, x67], defers := [] } W) : (Code.region 1 gcs true).wp Tryd.prog Q { tmps := #[.pointer (some ⟨lb, 0, none⟩), x1, x2, x3, x4, x5, x6, x7, x8, x9, x10, x11, x12, x13, x14, x15, x16, x17, x18, x19, x20, x21, x22, x23, x24, x25, x26, x27, x28, x29, x30, x31, x32, x33, x34, x35, x36, x37, x38, x39, x40, x41, x42, x43, x44, x45, x46, x47, x48, x49, x50, x51, x52, x53, x54, x55, x56, x57, x58, x59, x60, x61, x62, x63, x64, x65, x66, x67], defers := [] } w := by
  obtain ⟨va, vc, hvo, hvc⟩ := own_cap2 hl0.ro
  refine wp_region_held (S := fun W => Lg B W lb fb fv vo ve xs n R r l es) (by kernel_rfl) ?_
  change wpAnyH _ _ _ _ _ 8 _ _ (World.drew _)
  have hS : Lg B (World.drew w) lb fb fv vo ve xs n R r l es := hl0.drewN 1
  clear hl0
  obtain ⟨W0, hW⟩ : ∃ W, World.drew w = W := ⟨_, rfl⟩
  rw [show w.heap.size = (World.drew w).heap.size from rfl, hW] at hQ
  rw [hW] at hS ⊢
  clear hW
  refine wpAnyH_take (i := 0) (oi := gc0) (v := .pointer (some ⟨lb, 0, none⟩)) (by kernel_rfl) gc_lit (by kernel_rfl) (by kernel_rfl) (fun c a W h => hP c _ _ _ W h) (Or.inl ⟨by kernel_rfl, fun W hW => by kernel_rfl⟩) hS ?_
  rw [show Act.put _ gc0.dst _ = { tmps := #[.pointer (some ⟨lb, 0, none⟩), x1, x2, x3, x4, x5, x6, x7, x8, x9, x10, x11, .pointer (some ⟨lb, 0, none⟩), x13, x14, x15, x16, x17, x18, x19, x20, x21, x22, x23, x24, x25, x26, x27, x28, x29, x30, x31, x32, x33, x34, x35, x36, x37, x38, x39, x40, x41, x42, x43, x44, x45, x46, x47, x48, x49, x50, x51, x52, x53, x54, x55, x56, x57, x58, x59, x60, x61, x62, x63, x64, x65, x66, x67], defers := [] } from by kernel_rfl]
  refine wpAnyH_take (i := 1) (oi := gc1) (v := .pointer (some ⟨lb, 0, none⟩)) (by kernel_rfl) gc_lit (by kernel_rfl) (by kernel_rfl) (fun c a W h => hP c _ _ _ W h) (Or.inl ⟨by kernel_rfl, fun W hW => by kernel_rfl⟩) hS ?_
  rw [show Act.put _ gc1.dst _ = { tmps := #[.pointer (some ⟨lb, 0, none⟩), x1, x2, x3, x4, x5, x6, x7, x8, x9, x10, x11, .pointer (some ⟨lb, 0, none⟩), .pointer (some ⟨lb, 0, none⟩), x14, x15, x16, x17, x18, x19, x20, x21, x22, x23, x24, x25, x26, x27, x28, x29, x30, x31, x32, x33, x34, x35, x36, x37, x38, x39, x40, x41, x42, x43, x44, x45, x46, x47, x48, x49, x50, x51, x52, x53, x54, x55, x56, x57, x58, x59, x60, x61, x62, x63, x64, x65, x66, x67], defers := [] } from by kernel_rfl]
  refine wpAnyH_take (i := 2) (oi := gc2) (v := .pointer (some ⟨lb, 2, none⟩)) (by kernel_rfl) gc_lit (by kernel_rfl) (by kernel_rfl) (fun c a W h => hP c _ _ _ W h) (Or.inl ⟨by kernel_rfl, fun W hW => by kernel_rfl⟩) hS ?_
  rw [show Act.put _ gc2.dst _ = { tmps := #[.pointer (some ⟨lb, 0, none⟩), x1, x2, x3, x4, x5, x6, x7, x8, x9, x10, x11, .pointer (some ⟨lb, 0, none⟩), .pointer (some ⟨lb, 0, none⟩), .pointer (some ⟨lb, 2, none⟩), x15, x16, x17, x18, x19, x20, x21, x22, x23, x24, x25, x26, x27, x28, x29, x30, x31, x32, x33, x34, x35, x36, x37, x38, x39, x40, x41, x42, x43, x44, x45, x46, x47, x48, x49, x50, x51, x52, x53, x54, x55, x56, x57, x58, x59, x60, x61, x62, x63, x64, x65, x66, x67], defers := [] } from by kernel_rfl]
  refine wpAnyH_take (i := 3) (oi := gc3) (v := vo) (by kernel_rfl) gc_lit (by kernel_rfl) (by kernel_rfl) (fun c a W h => hP c _ _ _ W h) (Or.inl ⟨by kernel_rfl, fun W hW => run_ldo rfl rfl hW.c2⟩) hS ?_
  rw [show Act.put _ gc3.dst _ = { tmps := #[.pointer (some ⟨lb, 0, none⟩), x1, x2, x3, x4, x5, x6, x7, x8, x9, x10, x11, .pointer (some ⟨lb, 0, none⟩), .pointer (some ⟨lb, 0, none⟩), .pointer (some ⟨lb, 2, none⟩), vo, x16, x17, x18, x19, x20, x21, x22, x23, x24, x25, x26, x27, x28, x29, x30, x31, x32, x33, x34, x35, x36, x37, x38, x39, x40, x41, x42, x43, x44, x45, x46, x47, x48, x49, x50, x51, x52, x53, x54, x55, x56, x57, x58, x59, x60, x61, x62, x63, x64, x65, x66, x67], defers := [] } from by kernel_rfl]
  refine wpAnyH_take (i := 4) (oi := gc4) (v := .pointer (some ⟨lb, 0, none⟩)) (by kernel_rfl) gc_lit (by kernel_rfl) (by kernel_rfl) (fun c a W h => hP c _ _ _ W h) (Or.inl ⟨by kernel_rfl, fun W hW => by kernel_rfl⟩) hS ?_
  rw [show Act.put _ gc4.dst _ = { tmps := #[.pointer (some ⟨lb, 0, none⟩), x1, x2, x3, x4, x5, x6, x7, x8, x9, x10, x11, .pointer (some ⟨lb, 0, none⟩), .pointer (some ⟨lb, 0, none⟩), .pointer (some ⟨lb, 2, none⟩), vo, .pointer (some ⟨lb, 0, none⟩), x17, x18, x19, x20, x21, x22, x23, x24, x25, x26, x27, x28, x29, x30, x31, x32, x33, x34, x35, x36, x37, x38, x39, x40, x41, x42, x43, x44, x45, x46, x47, x48, x49, x50, x51, x52, x53, x54, x55, x56, x57, x58, x59, x60, x61, x62, x63, x64, x65, x66, x67], defers := [] } from by kernel_rfl]
  refine wpAnyH_all (rs := [5]) (by kernel_rfl) (by simp) (fun i hi => ?_)
  obtain rfl := List.mem_singleton.1 hi
  refine hb_callx (o := gc5) (f := 25) (args := #[.pointer (some ⟨lb, 0, none⟩)]) (D := fun v V => v = .int .i64 (l.length : Nat) ∧ Below W0.heap.size W0 V) (by kernel_rfl) (by kernel_rfl) (by kernel_rfl) ?hc ?_
  case hc => exact (count_any hS hs hen).mono fun e V ⟨h1, h2⟩ => ⟨_, h1, by rw [hop], h2⟩
  rintro v W1 ⟨rfl, b1⟩
  rw [show Act.put _ gc5.dst _ = { tmps := #[.pointer (some ⟨lb, 0, none⟩), x1, x2, x3, x4, x5, x6, x7, x8, x9, x10, x11, .pointer (some ⟨lb, 0, none⟩), .pointer (some ⟨lb, 0, none⟩), .pointer (some ⟨lb, 2, none⟩), vo, .pointer (some ⟨lb, 0, none⟩), .int .i64 (l.length : Nat), x18, x19, x20, x21, x22, x23, x24, x25, x26, x27, x28, x29, x30, x31, x32, x33, x34, x35, x36, x37, x38, x39, x40, x41, x42, x43, x44, x45, x46, x47, x48, x49, x50, x51, x52, x53, x54, x55, x56, x57, x58, x59, x60, x61, x62, x63, x64, x65, x66, x67], defers := [] } from by kernel_rfl]
  have hS1 := hS.below b1
  refine ⟨hS1, ?_⟩
  refine wpAnyH_take (i := 6) (oi := gc6) (v := vo) (by kernel_rfl) gc_lit (by kernel_rfl) (by kernel_rfl) (fun c a W h => hP c _ _ _ W h) (Or.inl ⟨by kernel_rfl, fun W hW => run_slfo rfl rfl rfl hvo hvc⟩) hS1 ?_
  rw [show Act.put _ gc6.dst _ = { tmps := #[.pointer (some ⟨lb, 0, none⟩), x1, x2, x3, x4, x5, x6, x7, x8, x9, x10, x11, .pointer (some ⟨lb, 0, none⟩), .pointer (some ⟨lb, 0, none⟩), .pointer (some ⟨lb, 2, none⟩), vo, .pointer (some ⟨lb, 0, none⟩), .int .i64 (l.length : Nat), vo, x19, x20, x21, x22, x23, x24, x25, x26, x27, x28, x29, x30, x31, x32, x33, x34, x35, x36, x37, x38, x39, x40, x41, x42, x43, x44, x45, x46, x47, x48, x49, x50, x51, x52, x53, x54, x55, x56, x57, x58, x59, x60, x61, x62, x63, x64, x65, x66, x67], defers := [] } from by kernel_rfl]
  refine wpAnyH_take (i := 7) (oi := gc7) (v := vo) (by kernel_rfl) gc_lit (by kernel_rfl) (by kernel_rfl) (fun c a W h => hP c _ _ _ W h) (Or.inl ⟨by kernel_rfl, fun W hW => by kernel_rfl⟩) hS1 ?_
  rw [show Act.put _ gc7.dst _ = { tmps := #[.pointer (some ⟨lb, 0, none⟩), x1, x2, vo, x4, x5, x6, x7, x8, x9, x10, x11, .pointer (some ⟨lb, 0, none⟩), .pointer (some ⟨lb, 0, none⟩), .pointer (some ⟨lb, 2, none⟩), vo, .pointer (some ⟨lb, 0, none⟩), .int .i64 (l.length : Nat), vo, x19, x20, x21, x22, x23, x24, x25, x26, x27, x28, x29, x30, x31, x32, x33, x34, x35, x36, x37, x38, x39, x40, x41, x42, x43, x44, x45, x46, x47, x48, x49, x50, x51, x52, x53, x54, x55, x56, x57, x58, x59, x60, x61, x62, x63, x64, x65, x66, x67], defers := [] } from by kernel_rfl]
  exact wpAnyH_done (by kernel_rfl) (hQ W1 b1) _


/-- A store of the row of ends, where that row is another, new one. -/
theorem Lg.ends2 {B : Nat} {w : World} {lb fb : Nat} {fv vo ve ve' : Value} {xs : List Int} {n R : Nat} {r : Int} {l : List (Opn × Value)} {es es' : List (Nat × Nat)} (h : Lg B w lb fb fv vo ve xs n R r l es) (hown : w.ownsRow B 80 2 ve' es'.length (es'.flatMap endc))
    (hc : ∀ p ∈ l, p.1.cuts = [] ∨ ∀ k, ve'.ownBlock = some k → p.2.ownBlock ≠ some k) : Lg B (w.setCell ⟨lb, 3, none⟩ ve') lb fb fv vo ve' xs n R r l es' := by
  have hne' : ve'.ownBlock ≠ some lb := own_far hown h.blk (by decide)
  have hx := Fr.of_set w lb 3 ve'
  refine ⟨by rw [heap_setCell_same w lb 3 _ _ ve' h.blk]; simp, h.base, ?_, ?_, ownsRow_setCell_other hown hne' _, ?_⟩
  · refine h.fi.of_block (fun k hk => hx.block k ?_ (fun e => ?_))
    · rcases hk with rfl | hk
      · exact h.fi.lt
      · exact (h.fi.own.lt k hk).2
    · subst e
      rcases hk with hk | hk
      · exact h.nf hk
      · exact h.nv hk
  · exact own_fr h.ro hx (fun k hk e => by subst e; exact h.no hk)
  · intro p hp
    obtain ⟨h1, h2⟩ := h.cu p hp
    by_cases h0 : p.1.cuts = []
    · rw [h0] at h1 ⊢
      exact ⟨h1.none, .inl rfl⟩
    · have h2' := h2.resolve_left h0
      refine ⟨Sl.kept h1 (fun k hk hlt => hx.block k hlt (fun e => h2' k hk (.inl e))), .inr (fun k hk e => ?_)⟩
      rcases e with e | e | e | e | e
      · exact h2' k hk (.inl e)
      · exact h2' k hk (.inr (.inl e))
      · exact h2' k hk (.inr (.inr (.inl e)))
      · exact h2' k hk (.inr (.inr (.inr (.inl e))))
      · exact (hc p hp).resolve_left h0 k e hk

end Go.Proofs.YteckjkblngmenaaDoor

/-
  Frames of at most fifty ops take no less room than the same ops in parts: plain mathematics.
-/
namespace Go.Proofs.YteckjkblngmenaaDoor
open Go.RowKit
set_option linter.unusedVariables false
set_option maxRecDepth 100000

theorem szF_50 : ∀ {Fs : List (List Opn)}, (∀ f ∈ Fs, f.length ≤ 50) → szF Fs = 9 * Fs.length + (Fs.flatten.flatMap encT).length
  | [], _ => rfl
  | f :: Fs, h => by
    have h1 := h f (by simp)
    have h2 := szF_50 (Fs := Fs) (fun x hx => h x (by simp [hx]))
    have e : M.sz (f.length : Int) = 1 := by unfold M.sz; rw [if_pos (by omega)]
    have e2 : (encA f).length = 1 + (f.flatMap encT).length := by unfold encA; rw [List.length_append, M.enc_length, e]
    rw [szF_cons, List.flatten_cons, List.flatMap_append, List.length_append, List.length_cons, e2]
    omega
theorem szF_3 : ∀ {Fs : List (List Opn)}, (∀ f ∈ Fs, f.length ≤ 1048576) → szF Fs ≤ 11 * Fs.length + (Fs.flatten.flatMap encT).length
  | [], _ => Nat.le_refl _
  | f :: Fs, h => by
    have h1 := h f (by simp)
    have h2 := szF_3 (Fs := Fs) (fun x hx => h x (by simp [hx]))
    have e : M.sz (f.length : Int) ≤ 3 := by unfold M.sz; (repeat' split) <;> omega
    have e2 : (encA f).length ≤ 3 + (f.flatMap encT).length := by unfold encA; rw [List.length_append, M.enc_length]; omega
    rw [szF_cons, List.flatten_cons, List.flatMap_append, List.length_append, List.length_cons]
    omega
theorem foldP_none {l : List Opn} (h : (foldP l).2.1 = []) : l = [] := by
  refine snoc_ind (P := fun l => (foldP l).2.1 = [] → l = []) ?_ ?_ l h
  · intro _; rfl
  · intro l o _ h
    rw [foldP_snoc] at h
    unfold stepP at h
    split at h
    · cases h
    · simp at h
theorem foldP_many {l : List Opn} (hr : ∀ o ∈ l, rightO o = true) : ∀ f ∈ (foldP l).1, 119 ≤ f.length := by
  refine snoc_ind (P := fun l => (∀ o ∈ l, rightO o = true) → ∀ f ∈ (foldP l).1, 119 ≤ f.length) ?_ ?_ l hr
  · intro _ f hf; cases hf
  · intro l o ih h f hf
    have hl : ∀ p ∈ l, rightO p = true := fun p hp => h p (by simp [hp])
    have ho := encT_less (h o (by simp))
    have i1 := (foldP_inv hl).1
    have hcr : ∀ p ∈ (foldP l).2.1, rightO p = true := fun p hp => hl p (by rw [← foldP_all l]; exact List.mem_append.2 (.inr hp))
    have i2 := encTs_less hcr
    rw [foldP_snoc] at hf
    unfold stepP at hf
    split at hf
    · rename_i hc
      rcases List.mem_append.1 hf with hf | hf
      · exact ih hl f hf
      · rw [List.mem_singleton.1 hf]
        have h1 := hc.2
        have h2 := (M.sz_pos (((foldP l).2.1.length + 1 : Nat) : Int)).2
        omega
    · exact ih hl f hf
theorem flat_many : ∀ {Fs : List (List Opn)}, (∀ f ∈ Fs, 119 ≤ f.length) → 119 * Fs.length ≤ Fs.flatten.length
  | [], _ => Nat.le_refl _
  | f :: Fs, h => by
    have h1 := h f (by simp)
    have h2 := flat_many (Fs := Fs) (fun x hx => h x (by simp [hx]))
    rw [List.flatten_cons, List.length_append, List.length_cons]
    omega
theorem flat_50 : ∀ {Fs : List (List Opn)}, (∀ f ∈ Fs, f.length ≤ 50) → Fs.flatten.length ≤ 50 * Fs.length
  | [], _ => Nat.le_refl _
  | f :: Fs, h => by
    have h1 := h f (by simp)
    have h2 := flat_50 (Fs := Fs) (fun x hx => h x (by simp [hx]))
    rw [List.flatten_cons, List.length_append, List.length_cons]
    omega
theorem parts_small {Fs : List (List Opn)} (hg : Good Fs) (hl : ∀ f ∈ Fs, f.length ≤ 50) (hn : Fs.flatten.length ≤ 1048576) : szF (partsP Fs.flatten) ≤ szF Fs := by
  have hr : ∀ o ∈ Fs.flatten, rightO o = true := fun o ho => by
    obtain ⟨f, hf, hm⟩ := List.mem_flatten.1 ho
    exact (hg f hf).2.1 o hm
  obtain ⟨l, hL⟩ : ∃ l, Fs.flatten = l := ⟨_, rfl⟩
  have h50 := szF_50 hl
  have hN := flat_50 hl
  rw [hL] at hr hn h50 hN ⊢
  have hpl : ∀ f ∈ partsP l, f.length ≤ 1048576 := fun f hf => by
    have h1 : f.length ≤ (partsP l).flatten.length := by
      obtain ⟨s, t, e⟩ := List.append_of_mem hf
      rw [e, List.flatten_append, List.flatten_cons, List.length_append, List.length_append]
      omega
    rw [partsP_all] at h1
    omega
  have h3 := szF_3 hpl
  rw [partsP_all] at h3
  have hall := congrArg List.length (foldP_all l)
  rw [List.length_append] at hall
  have hm := flat_many (foldP_many hr)
  by_cases hc : (foldP l).2.1 = []
  · have e := foldP_none hc
    subst e
    have : partsP [] = [] := rfl
    rw [this]
    exact Nat.zero_le _
  · have hpp : partsP l = (foldP l).1 ++ [(foldP l).2.1] := by unfold partsP; rw [if_neg hc]
    have hcl : 0 < (foldP l).2.1.length := List.length_pos_iff.2 hc
    have hlen : (partsP l).length = (foldP l).1.length + 1 := by rw [hpp, List.length_append, List.length_singleton]
    by_cases hd : (foldP l).1.length = 0
    · have hd0 := List.length_eq_zero_iff.1 hd
      have hl1 := foldP_all l
      rw [hd0] at hl1
      simp only [List.flatten_nil, List.nil_append] at hl1
      have hp1 : partsP l = [l] := by rw [hpp, hd0, hl1]; rfl
      have hs : szF [l] = 8 + (M.sz (l.length : Int) + (l.flatMap encT).length) := by
        rw [szF_one]
        unfold encA
        rw [List.length_append, M.enc_length]
      rw [hp1, hs, h50]
      have hl0 : 0 < l.length := by rw [hl1] at hcl; exact hcl
      by_cases h7 : l.length < 128
      · have e : M.sz (l.length : Int) = 1 := by unfold M.sz; rw [if_pos (by omega)]
        rw [e]
        omega
      · have e : M.sz (l.length : Int) ≤ 3 := by unfold M.sz; (repeat' split) <;> omega
        omega
    · omega
end Go.Proofs.YteckjkblngmenaaDoor

/-
  What oplog's Compact does is proved here: the file has the ops anew, in parts, or is left.
-/
namespace Go.Proofs.YteckjkblngmenaaDoor
open Go.RowKit
set_option linter.unusedVariables false
set_option maxRecDepth 100000

/-- What Compact does. -/
def CX (B lb fb R : Nat) (fv vo ve : Value) (r : Int) (Fs : List (List Opn)) (n : Nat) (l : List (Opn × Value)) (w : World) (e : Ending) (w' : World) : Prop :=
  (10 + szF (partsP Fs.flatten) ≤ R ∧ e = .returned (.int .i64 0) ∧ ∃ fv' ve', Lo B w' lb fb fv' vo ve' r (partsP Fs.flatten) (10 + szF (partsP Fs.flatten)) R l ∧ Lx (Ft lb fb fv vo ve) (Ft lb fb fv' vo ve') w w') ∨
  (R < 10 + szF (partsP Fs.flatten) ∧ e = .returned (.int .i64 14) ∧ ∃ fv', Lo B w' lb fb fv' vo ve r Fs n R l ∧ Lx (Ft lb fb fv vo ve) (Ft lb fb fv' vo ve) w w')

/-- What the loop holds. -/
structure Ck (w : World) (r : Int) (Ps : List (List Opn)) (b e p : Value) (us : List Value) (k : Nat) (wr : World) : Prop where
  bo : Ow w.heap.size wr b (lby r (Ps.take k))
  eo : wr.ownsRow w.heap.size 80 2 e (endsF (Ps.take k)).length ((endsF (Ps.take k)).flatMap endc)
  po : Pl w.heap.size wr p us
  bw : Below w.heap.size w wr
theorem Ck.below {w : World} {r : Int} {Ps : List (List Opn)} {b e p : Value} {us : List Value} {k : Nat} {wr w' : World} (h : Ck w r Ps b e p us k wr) (hb : Below wr.heap.size wr w') : Ck w r Ps b e p us k w' :=
  ⟨own_below h.bo hb, own_fr h.eo (Fr.of_below (S := fun _ => False) hb) (fun _ _ e => e), own_fr h.po (Fr.of_below (S := fun _ => False) hb) (fun _ _ e => e), bt h.bw hb⟩
theorem Ck.app1 {w : World} {r : Int} {Ps : List (List Opn)} {b e p b' : Value} {us : List Value} {k : Nat} {wr w' : World} {ys : List Int} (h : Ck w r Ps b e p us k wr) (hown : Ow w.heap.size w' b' ys) (hg : wr.grownBy w' b.ownBlock) :
    Ow w.heap.size w' b' ys ∧ w'.ownsRow w.heap.size 80 2 e (endsF (Ps.take k)).length ((endsF (Ps.take k)).flatMap endc) ∧ Pl w.heap.size w' p us ∧ Below w.heap.size w w' := by
  have hf : Fr (fun k => b.ownBlock = some k) wr w' := Fr.of_grown hg (fun k e => e)
  exact ⟨hown, own_fr h.eo hf (fun k hk e => own_two h.eo h.bo (by decide) hk e), own_fr h.po hf (fun k hk e => own_two h.po h.bo (by decide) hk e), h.bw.trans (hf.below (fun k hk e => by have := (h.bo.lt k e).1; omega) h.bw.size)⟩
theorem Ck.app2 {w : World} {r : Int} {Ps : List (List Opn)} {e p b e' : Value} {us : List Value} {k : Nat} {w1 w2 : World} {x : Obj} (hk : k < Ps.length) (h : Ow w.heap.size w1 b (lby r (Ps.take (k + 1))) ∧ w1.ownsRow w.heap.size 80 2 e (endsF (Ps.take k)).length ((endsF (Ps.take k)).flatMap endc) ∧ Pl w.heap.size w1 p us ∧ Below w.heap.size w w1)
    (hown : w2.ownsRow w.heap.size 80 2 e' ((endsF (Ps.take k)).length + 1) ((endsF (Ps.take k)).flatMap endc ++ [.int .i64 ((10 + szF (Ps.take (k + 1)) : Nat) : Int), .int .i64 (((Ps.take (k + 1)).flatten.length : Nat) : Int)])) (hg : (w1.alloc x).grownBy w2 e.ownBlock) : Ck w r Ps b e' p us (k + 1) w2 := by
  obtain ⟨hb, he, hp, hw⟩ := h
  have ha := ba w1 x
  have hb := own_below hb ha
  have he := own_fr he (Fr.of_below (S := fun _ => False) ha) (fun _ _ e => e)
  have hp := own_fr hp (Fr.of_below (S := fun _ => False) ha) (fun _ _ e => e)
  have hf : Fr (fun k => e.ownBlock = some k) (w1.alloc x) w2 := Fr.of_grown hg (fun k e => e)
  have es : endsF (Ps.take (k + 1)) = endsF (Ps.take k) ++ [(10 + szF (Ps.take (k + 1)), (Ps.take (k + 1)).flatten.length)] := by
    have h1 := List.take_succ_eq_append_getElem hk
    rw [h1, endsF_snoc]
  refine ⟨own_fr hb hf (fun k hk e => own_two hb he (by decide) hk e), ?_, own_fr hp hf (fun k hk e => own_two hp he (by decide) hk e), bt hw ha |>.trans (hf.below (fun k hk e => by have := (he.lt k e).1; omega) (Nat.le_trans hw.size ha.size))⟩
  rw [es, List.length_append, List.flatMap_append]
  exact hown
theorem run_endi {o : Oper} {a : Act} {x : Operand} {p q : Int} {W : World} (ho : o.op = .buildSlice 62 1 #[(0, x)]) (hx : a.eval x = .agg #[.int .i64 p, .int .i64 q]) : (execOp a.eval o).run Tryd.prog W = .ok (.value (.slice (some ⟨W.heap.size, 0, none⟩) 1 1)) (W.alloc (.cells #[.int .i64 p, .int .i64 q] 80)) := by
  unfold execOp
  simp only [ho, List.map_toArray, List.map_cons, List.map_nil, hx]
  kernel_rfl
theorem two_ints (p q : Int) : ∀ x ∈ [Value.int .i64 p, Value.int .i64 q], x.oneCell' = true := by
  intro x hx
  rcases List.mem_cons.1 hx with rfl | hx
  · rfl
  · rw [List.mem_singleton.1 hx]; rfl
theorem Pl.at {B : Nat} {w : World} {v : Value} {us : List Value} (h : Pl B w v us) {i : Nat} (hi : i < us.length) : ∃ g c, v = .slice (some ⟨g, 0, none⟩) us.length c ∧ w.cell? ⟨g, i, none⟩ = some (us[i]) := by
  rcases h.2 with ⟨_, h2⟩ | ⟨g, cap, cur, hv, _, hg, _, _, _, ht⟩
  · omega
  · refine ⟨g, cap, hv, ?_⟩
    rw [cell_of_row w g _ _ _ _ hg]
    have : (cur.toList.take (us.length * 1))[i]? = us[i]? := by rw [ht]
    rw [List.getElem?_take, if_pos (by omega), List.getElem?_eq_getElem hi] at this
    simpa using this

set_option maxHeartbeats 16000000 in
theorem compact_any {B : Nat} {w : World} {lb fb : Nat} {fv vo ve : Value} {r : Int} {Fs : List (List Opn)} {n R : Nat} {l : List (Opn × Value)} (h : Lo B w lb fb fv vo ve r Fs n R l) (hL : Lay w) (hB : B ≤ w.heap.size) :
    Calls Tryd.prog 18 #[.pointer (some ⟨lb, 0, none⟩)] w fun e w' => CX B lb fb R fv vo ve r Fs n l w e w' := by
  have HL := hid h
  have HY := hid hL
  have hbd := h.bounds
  have hs := endsF_sorted Fs
  have HS := hid hs
  have HA := hid h.all
  have hro : ∀ o ∈ Fs.flatten, rightO o = true := fun o ho => by
    obtain ⟨f, hf, hm⟩ := List.mem_flatten.1 ho
    exact (h.good f hf).2.1 o hm
  have HRO := hid hro
  obtain ⟨va, vc, rfl, hvc⟩ := own_cap2 h.lg.ro
  obtain ⟨Q, hQ⟩ : ∃ Q, l.length = Q := ⟨_, rfl⟩
  have HQ := hid hQ
  have hb2 := hbd.2
  clear h hL hs hro
  go_enter Tryd.func18, Tryd.ntmps18
  go_wp2_with fail
  refine comp_r1 HL.out.lg HS.out HA.out (by omega) (fun _ _ _ _ _ h => h) (fun W hW => ?_)
  have BW := hid ((bd w 1).trans hW : Below w.heap.size w W)
  have L1 := hid (HL.out.below BW.out)
  have c1 := L1.out.lg.c1
  clear hW
  go_wp2_with fail
  refine (firstframe_any r W (HY.out.low BW.out HY.out.two) L1.out.r0 L1.out.r1).mono ?_
  rintro e w2 ⟨v2, rfl, ho2, b2⟩
  obtain ⟨a2, c2, rfl, _⟩ := ho2.form
  have hfb : lby r [] = C.frame (fb0 r) := by rw [lby_cons]; simp [C.cat]
  have HF2 := hid ho2
  have B2 := hid b2
  have LW : Hid (Lay W) := hid (HY.out.low BW.out HY.out.two)
  have HFB := hid hfb
  have HP := hid (parts_any (.slice va l.length vc) l W w2 (LW.out.low b2 LW.out.two) L1.out.lg.os b2 L1.out.right (by have := L1.out.bounds; omega))
  rw [hQ] at HP ⊢
  obtain ⟨X, hX⟩ : ∃ X, (C.frame (fb0 r)).length = X := ⟨_, rfl⟩
  have hX10 : X = 10 := by rw [← hX, ← hfb, lby_nil_len L1.out.r0 L1.out.r1]
  rw [hX]
  have HX := hid hX
  clear ho2 b2 hfb hX
  go_wp2_with fail
  refine HP.out.mono ?_
  rintro e w3 ⟨v3, rfl, us, ps, hpl, hul, hos, hps, hb3⟩
  obtain ⟨Ps, hPs⟩ : ∃ Ps, partsP Fs.flatten = Ps := ⟨_, rfl⟩
  have hps2 : ps.map fsts = Ps := by rw [hps, L1.out.fl, hPs]
  have hgd : Good Ps := by rw [← hPs]; exact partsP_good HRO.out
  have hfl : Ps.flatten = Fs.flatten := by rw [← hPs]; exact partsP_all _
  have hpn : Ps.length ≤ 1048576 := by
    have h1 := partsP_len HRO.out
    rw [hPs] at h1
    have h2 := L1.out.len
    have h3 := L1.out.bounds
    omega
  have hfn : Ps.flatten.length ≤ 1048576 := by rw [hfl, ← L1.out.len]; exact L1.out.bounds.1
  obtain ⟨a3, c3, rfl, hc3⟩ := own_cap2 hpl
  have HOS := hid hos
  have HPS := hid hps2
  have HPP := hid hPs
  have HGD := hid hgd
  have HFL := hid hfl
  have huP : us.length = Ps.length := by rw [hul, ← hps2, List.length_map]
  have CK : Hid (Ck W r Ps (.slice a2 X c2) (.slice none 0 0) (.slice a3 us.length c3) us 0 w3) := hid ⟨by
      rw [List.take_zero, HFB.out, ← HX.out]
      exact own_below HF2.out hb3, ⟨rfl, .inl ⟨rfl, rfl⟩⟩, own_base hpl B2.out.size, bt B2.out hb3⟩
  subst hX10
  obtain ⟨M, hM⟩ : ∃ M, us.length = M := ⟨_, rfl⟩
  have HUL := hid hul
  have HM := hid hM
  have hMP : M = Ps.length := by rw [← hM]; exact huP
  have hM2 : M ≤ 1048576 := by omega
  rw [hM] at CK ⊢
  have HMP := hid hMP
  have HPN := hid hpn
  have HFN := hid hfn
  clear hpl hul hos hps hb3 hps2 hPs hgd hfl hpn hfn huP hM hMP HP
  go_wp2
  go_loopw [4, 5, 6, 27] (fun b e c i wr => ∃ k : Nat, i = .int .i64 k ∧ k ≤ M ∧ c = .int .i64 ((Ps.take k).flatten.length : Nat) ∧ Ck W r Ps b e (.slice a3 M c3) us k wr) (fun _ _ _ i _ => M - (intOf i).toNat)
  case atStart => exact ⟨0, rfl, Nat.zero_le _, rfl, CK.out⟩
  case round =>
    obtain ⟨k, rfl, hk, rfl, hck⟩ := hrel
    have K0 := hid hck
    obtain ⟨ab, cb, rfl, _⟩ := hck.bo.form
    obtain ⟨ae, ce, rfl, _⟩ := own_cap2 hck.eo
    clear hck CK
    obtain ⟨N, hN⟩ : ∃ N, (lby r (Ps.take k)).length = N := ⟨_, rfl⟩
    obtain ⟨Cc, hC⟩ : ∃ Cc, (Ps.take k).flatten.length = Cc := ⟨_, rfl⟩
    have HN := hid hN
    have HC := hid hC
    rw [hN] at K0 ⊢
    rw [hC] at ⊢
    by_cases hlt : k < M
    · have hlt' : (k : Int) < (M : Int) := by omega
      have hkP : k < Ps.length := by have := HMP.out; omega
      have hku : k < us.length := by rw [HM.out]; exact hlt
      have hkps : k < ps.length := by have := HUL.out; omega
      obtain ⟨g, c, e3, hcell⟩ := Pl.at K0.out.po hku
      rw [HM.out] at e3
      simp only [Value.slice.injEq] at e3
      obtain ⟨rfl, -, rfl⟩ := e3
      obtain ⟨u, hu⟩ : ∃ u, us[k] = u := ⟨_, rfl⟩
      obtain ⟨qq, hqq⟩ : ∃ qq, ps[k] = qq := ⟨_, rfl⟩
      have ho := HOS.out k hkps hku
      rw [hu, hqq] at ho
      rw [hu] at hcell
      have hf : fsts qq = Ps[k] := by
        have h1 := HPS.out
        have h2 : (ps.map fsts)[k]'(by rw [List.length_map]; exact hkps) = Ps[k] := by simp only [h1]
        rw [List.getElem_map, hqq] at h2
        exact h2
      have hok := HGD.out _ (List.getElem_mem hkP)
      have hql : qq.length ≤ 65536 := by
        have h1 := encA_pos (fsts qq)
        rw [hf] at h1
        have h2 : (fsts qq).length = qq.length := fstsL qq
        rw [hf] at h2
        have := hok.2.2
        omega
      have HO := hid (ho.later K0.out.bw)
      obtain ⟨ua, uc, rfl, _, _⟩ := Sl.form ho.1
      obtain ⟨m, hm⟩ : ∃ m, qq.length = m := ⟨_, rfl⟩
      have hm65 : m ≤ 65536 := by rw [← hm]; exact hql
      have HFA := hid (frame_any _ qq wr (LW.out.low K0.out.bw LW.out.two) HO.out (fun p hp => (fine_right (hok.2.1 p.1 (by rw [← hf]; exact List.mem_map.2 ⟨p, hp, rfl⟩))).1) (by omega))
      have hfr0 : frE (fsts qq) = 0 := by rw [hf]; exact frE_good hok
      have hfrB : frB (fsts qq) = C.frame (encA Ps[k]) := by unfold frB; rw [hfr0, hf]; rfl
      rw [hfr0, hfrB, hm] at HFA
      rw [hm] at hcell
      have hst : Ps.take (k + 1) = Ps.take k ++ [Ps[k]] := List.take_succ_eq_append_getElem hkP
      have hlb : lby r (Ps.take (k + 1)) = lby r (Ps.take k) ++ C.frame (encA Ps[k]) := by rw [hst, lby_snoc]
      obtain ⟨F, hF⟩ : ∃ F, (C.frame (encA Ps[k])).length = F := ⟨_, rfl⟩
      have hF2 : F ≤ 65544 := by rw [← hF, C.frame_length]; have := hok.2.2; omega
      have hNF : N + F = 10 + szF (Ps.take (k + 1)) := by
        rw [← lby_len L1.out.r0 L1.out.r1, hlb, List.length_append, hF, HN.out]
      have hCm : Cc + m = (Ps.take (k + 1)).flatten.length := by
        rw [hst, List.flatten_append, List.length_append, HC.out]
        simp only [List.flatten_cons, List.flatten_nil, List.append_nil]
        rw [← hf, fstsL, hm]
      have hCC : Cc ≤ 1048576 := by
        have e := congrArg List.length (congrArg List.flatten (List.take_append_drop k Ps))
        rw [List.flatten_append, List.length_append, HC.out] at e
        have := HFN.out
        omega
      have hN47 : N ≤ 1000000000 := by
        have h1 := lby_len L1.out.r0 L1.out.r1 (Ps.take k)
        have h2 := szF_less (HGD.out.take k)
        rw [HC.out, List.length_take] at h2
        rw [HN.out] at h1
        omega
      have hek : (endsF (Ps.take k)).length ≤ 1048576 := by rw [endsF_len, List.length_take]; have := HPN.out; omega
      have HLB := hid hlb
      have HNF := hid hNF
      have HCM := hid hCm
      have HFF := hid hF
      have hk' : k + 1 ≤ M := hlt
      clear hu hqq ho hf hok hm hfr0 hfrB hst hlb hF hNF hCm
      go_wp2_with fail
      refine HFA.out.mono ?_
      rintro e w6 ⟨v6, rfl, hb6, b6⟩
      have K6 := hid (K0.out.below b6)
      have BO6 : Hid (w6.ownsRow W.heap.size 5 1 (.slice ab N cb) N (cs (lby r (Ps.take k)))) := hid (by have := K6.out.bo; unfold Ow at this; rwa [HN.out] at this)
      obtain ⟨a6, c6, rfl⟩ := hb6.form
      rw [HFF.out] at hb6
      have V6 := hid hb6
      have S6 : Hid (W.heap.size ≤ w6.heap.size) := hid K6.out.bw.size
      have hFb : N + (C.frame (encA Ps[k])).length ≤ 140737488355328 := by rw [HFF.out]; omega
      obtain ⟨EN, hEN⟩ : ∃ EN, (endsF (Ps.take k)).length = EN := ⟨_, rfl⟩
      have HEN := hid hEN
      rw [hEN] at hek ⊢
      have hbE : (EN + 1) * 16 ≤ 140737488355328 := by omega
      have hmE : EN + 1 ≤ maxLen := by unfold maxLen; omega
      rw [HFF.out]
      clear hb6 b6 HFA K0 hEN
      go_wp2_with (first
        | (at_builtin; refine wpList_append_bs rfl _ _ rfl W.heap.size _ N _ rfl BO6.out _ _ rfl V6.out hFb S6.out ?_; intro v7 w7 hown7 hg7 hv7; rw [HFF.out] at hown7; obtain ⟨a7, c7, rfl⟩ := own_shape hown7; have P7 := hid (K6.out.app1 (ys := lby r (Ps.take (k + 1))) (by unfold Ow; rw [HLB.out, List.length_append, HN.out, HFF.out]; exact hown7) hg7); have EO7 : Hid ((w7.alloc (.cells #[.int .i64 ((N + F : Nat) : Int), .int .i64 ((Cc : Int) + (m : Int))] 80)).ownsRow W.heap.size 80 2 (.slice ae EN ce) EN ((endsF (Ps.take k)).flatMap endc)) := hid (by have h1 := own_fr P7.out.2.1 (Fr.of_below (S := fun _ => False) (ba w7 (.cells #[.int .i64 ((N + F : Nat) : Int), .int .i64 ((Cc : Int) + (m : Int))] 80))) (fun _ _ e => e); rw [HEN.out] at h1; exact h1); have SL7 := hid (Sl.lit (sz := 2) w7 80 #[.int .i64 ((N + F : Nat) : Int), .int .i64 ((Cc : Int) + (m : Int))] 1 (by decide) rfl); have ONE7 := hid (two_ints ((N + F : Nat) : Int) ((Cc : Int) + (m : Int))); have S7 := hid (Nat.le_trans P7.out.2.2.2.size (ba w7 (.cells #[.int .i64 ((N + F : Nat) : Int), .int .i64 ((Cc : Int) + (m : Int))] 80)).size); clear hown7 hg7 hv7)
        | (refine wpList_new rfl (run_endi (p := ((N + F : Nat) : Int)) (q := (Cc : Int) + (m : Int)) rfl rfl) ?_)
        | (at_builtin; refine wpList_append_sl 62 80 2 16 _ Tryd.underlying62 info_end rfl (Nat.succ_pos 1) rfl _ _ rfl W.heap.size (.slice ae EN ce) _ _ rfl EO7.out _ 1 _ rfl SL7.out ONE7.out hbE hmE S7.out ?_; intro v9 w9 hown9 hg9 hv9; obtain ⟨a9, c9, rfl⟩ := own_shape hown9; have HO9 := hid hown9; have HG9 := hid hg9; clear hown9 hg9 hv9)
        | fail)
      go_roundw
      case rel =>
        refine ⟨k + 1, by go_num, hk', ?_, Ck.app2 hkP P7.out ?_ (by rw [HEN.out]; exact HG9.out)⟩
        · have h1 := HCM.out
          rw [← h1]
          first | rfl | (congr 1)
        · have h := HO9.out
          rw [HEN.out, ← HNF.out, ← HCM.out]
          exact h
      case measure => simp [intOf]; omega
    · have hlt' : ¬ (k : Int) < (M : Int) := by omega
      have e1 : k = M := by omega
      subst e1
      have htk : Ps.take k = Ps := List.take_of_length_le (by have := HMP.out; omega)
      have hbo := K0.out.bo
      have heo := K0.out.eo
      rw [htk] at hbo heo
      have hN := HN.out
      rw [htk] at hN
      have L2 := hid (L1.out.below K0.out.bw)
      have hby := lby_byt HGD.out L1.out.r0 L1.out.r1
      have V2 := hid (hbo.bs hby)
      have EO := hid heo
      have BW2 := hid K0.out.bw
      have S2 : Hid (B ≤ wr.heap.size) := hid (Nat.le_trans hB (Nat.le_trans BW.out.size BW2.out.size))
      have hNs : Hid (N = 10 + szF Ps) := hid (by rw [← hN, lby_len L1.out.r0 L1.out.r1])
      have HNN := hid hN
      have heE : (endsF Ps).length = (endsF (Ps.take k)).length := by rw [htk]
      rw [← heE]
      clear hbo heo hN hby htk K0 heE
      by_cases hfit : N ≤ R
      · have hrep : repS R (lby r Ps) (lby r Fs) n = (0, lby r Ps, N) := by unfold repS; rw [HNN.out, if_pos hfit]
        have HRP := hid hrep
        clear hrep
        have c0 := L2.out.lg.c0
        go_wp2_with fail
        refine (freplace_any S2.out L2.out.lg.fi _ (lby r Ps) V2.out).mono ?_
        rintro e w6 ⟨he, ho⟩
        have he' := he.out HRP.out
        obtain ⟨fv', hfi, hfx⟩ := ho.out HRP.out
        subst he'
        obtain ⟨hl6, hx6⟩ := L2.out.lg.file hfi hfx
        rw [hQ] at hl6 hx6
        have hown6 := EO.out
        have hB6 : Fr (fun k => k = fb ∨ fv.ownBlock = some k) wr w6 := hfx.1
        have heo6 := own_fr hown6 hB6 (fun k hk e => e.elim (fun e => own_far hown6 L2.out.lg.fi.1 (by decide) (e ▸ hk)) (fun e => by
          have h1 := (hown6.lt k hk).1
          have h2 := (L1.out.lg.fi.own.lt k e).2
          omega))
        have hops := hl6.ops (w' := w6) (vo' := .slice va Q vc) (l' := l) hl6.ro (Fr.refl _ _) (fun k hk => .inl hk) hl6.cu
        have heo7 := ownsRow_setCell_other (a := ⟨lb, 2, none⟩) heo6 (own_far heo6 hl6.blk (by decide)) (.slice va Q vc)
        have hend := hops.1.ends2 (es' := endsF Ps) (own_base heo7 (Nat.le_trans hB BW.out.size)) (fun p hp => by
          by_cases h0 : p.1.cuts = []
          · exact .inl h0
          · refine .inr (fun k hk e => ?_)
            have h1 := (heo7.lt k hk).1
            have h2 := (L1.out.lg.cu p hp).1.blk h0 e
            omega)
        have X7 := hid (((Lx.of_below (BW.out.trans (BW2.out.mono BW.out.size)) : Lx (Ft lb fb fv (.slice va Q vc) ve) (Ft lb fb fv (.slice va Q vc) ve) w wr).trans hx6).trans hops.2)
        have HVE : Hid (∀ k, Value.ownBlock (.slice ae (endsF Ps).length ce) = some k → w.heap.size ≤ k) := hid (fun k hk => Nat.le_trans BW.out.size (heo7.lt k hk).1)
        have H6 := hid hl6.blk
        have H7 := hid hops.1.blk
        have HEND := hid hend
        clear he ho hfi hfx hl6 hx6 hown6 hB6 heo6 hops heo7 hend
        go_wp2_with (first | (refine wpList_none rfl (run_sto rfl rfl rfl ⟨_, _, _, rfl⟩ H6.out) ?_) | (refine wpList_none rfl (run_ste rfl rfl rfl ⟨_, _, _, rfl⟩ H7.out) ?_) | fail)
        go_ret
        refine .inl ⟨by rw [HPP.out, ← hNs.out]; exact hfit, rfl, fv', .slice ae (endsF Ps).length ce, ?_, ?_⟩
        · rw [HPP.out, ← hNs.out, hQ]
          exact ⟨HEND.out, by rw [L1.out.fl, HFL.out], HGD.out, L1.out.r0, L1.out.r1, by rw [HNN.out]; exact Nat.le_refl _⟩
        · rw [hQ]
          refine ⟨X7.out.fr.trans (Fr.of_set _ lb 3 _) (fun i hi e => by subst e; exact .inl rfl), fun k hk => ?_⟩
          rcases hk with e | e | e | e | e
          · exact X7.out.new k (.inl e)
          · exact X7.out.new k (.inr (.inl e))
          · exact X7.out.new k (.inr (.inr (.inl e)))
          · exact X7.out.new k (.inr (.inr (.inr (.inl e))))
          · exact .inr (HVE.out k e)
      · have hrep : repS R (lby r Ps) (lby r Fs) n = (14, lby r Fs, n) := by unfold repS; rw [HNN.out, if_neg hfit]
        have HRP := hid hrep
        clear hrep
        have c0 := L2.out.lg.c0
        go_wp2_with fail
        refine (freplace_any S2.out L2.out.lg.fi _ (lby r Ps) V2.out).mono ?_
        rintro e w6 ⟨he, ho⟩
        have he' := he.out HRP.out
        obtain ⟨fv', hfi, hfx⟩ := ho.out HRP.out
        subst he'
        obtain ⟨hl6, hx6⟩ := L2.out.lg.file hfi hfx
        have HL6 := hid hl6
        have X6 := hid ((Lx.of_below (BW.out.trans (BW2.out.mono BW.out.size)) : Lx (Ft lb fb fv (.slice va l.length vc) ve) (Ft lb fb fv (.slice va l.length vc) ve) w wr).trans hx6)
        clear he ho hfi hfx hl6 hx6
        go_wp2_with fail
        go_ret
        exact .inr ⟨by rw [HPP.out, ← hNs.out]; omega, rfl, fv', ⟨HL6.out, L1.out.fl, L1.out.good, L1.out.r0, L1.out.r1, L1.out.ns⟩, X6.out⟩
end Go.Proofs.YteckjkblngmenaaDoor

/-
  What the reference's CopyCuts, CopyOp and CopyOps return is proved here.
-/
namespace Go.Proofs.YteckjkblngmenaaDoor
open Go.RowKit
set_option linter.unusedVariables false
set_option maxRecDepth 100000

set_option maxHeartbeats 2000000 in
theorem copycuts_any (v : Value) (l : List Ct) (w : World) (hC : Cs w v l) (hl : l.length ≤ 100000) :
    Calls Tryd.prog 61 #[v] w fun e w' => ∃ u, e = .returned u ∧ w'.ownsRow w.heap.size 84 4 u l.length (l.flatMap cutc) ∧ Below w.heap.size w w' := by
  obtain ⟨a, c, rfl, _, _⟩ := hC.form
  have HA := hid (ba w (.cells #[] 84))
  have HC := hid (hC.below HA.out)
  have HO : Hid ((w.alloc (.cells #[] 84)).ownsRow w.heap.size 84 4 (.slice (some ⟨w.heap.size, 0, none⟩) 0 0) 0 []) := hid (World.ownsRow_made w #[] 0 (Nat.le_refl _) (Nat.zero_le _) rfl)
  have H1C : Hid (∀ x ∈ l.flatMap cutc, x.oneCell' = true) := hid (fun x hx => by
    obtain ⟨c, _, hx⟩ := List.mem_flatMap.1 hx
    simp at hx
    rcases hx with rfl | rfl | rfl | rfl <;> rfl)
  obtain ⟨n, hn⟩ : ∃ n, l.length = n := ⟨_, rfl⟩
  have hb : (0 + n) * 32 ≤ 140737488355328 := by omega
  have hm : 0 + n ≤ maxLen := by unfold maxLen; omega
  have hSl : Hid (Sl 4 (w.alloc (.cells #[] 84)) (.slice a n c) n (l.flatMap cutc)) := hid (by have := HC.out; unfold Cs at this; rwa [hn] at this)
  have HS := hid HA.out.size
  rw [hn]
  clear hC hl hn HC
  go_enter Tryd.func61, Tryd.ntmps61
  go_wp2_with (first | (at_builtin; refine wpList_append_sl 55 84 4 32 _ Tryd.underlying55 info_cut rfl (Nat.succ_pos 3) rfl _ _ rfl w.heap.size (.slice (some ⟨w.heap.size, 0, none⟩) 0 0) _ [] rfl HO.out _ n (l.flatMap cutc) rfl hSl.out H1C.out hb hm HS.out ?_; intro v5 w5 hown5 hg5 hv5; rw [Nat.zero_add, List.nil_append] at hown5; obtain ⟨a5, c5, rfl⟩ := own_shape hown5; have HO5 := hid hown5; have HG5 := hid hg5; clear hown5 hg5 hv5) | fail)
  have B5 : Hid (Below w.heap.size w w5) := hid (HA.out.trans ((Fr.of_grown (S := fun k => w.heap.size ≤ k) HG5.out (fun k e => by simp [Value.ownBlock] at e; omega)).below (fun k hk e => by omega) HS.out))
  go_ret
  exact ⟨_, rfl, HO5.out, B5.out⟩

set_option maxHeartbeats 2000000 in
theorem copyop_any (A : Value) (o : Opn) (v : Value) (hA : A = opv o v) (w : World) (hC : Cs w v o.cuts) (hl : o.cuts.length ≤ 100000) :
    Calls Tryd.prog 42 #[A] w fun e w' => ∃ u, e = .returned (opv o u) ∧ Cs w' u o.cuts ∧ Below w.heap.size w w' ∧ ∀ k, u.ownBlock = some k → w.heap.size ≤ k := by
  subst hA
  obtain ⟨va, vc, hv, _⟩ := hC.form
  have HV : Hid (∃ va n vc, v = .slice va n vc) := hid ⟨_, _, _, hv⟩
  have HA := hid (ba w (opo o v))
  have HO := hid (Ob.new w o v)
  have HC := hid (hC.below HA.out)
  clear hC hv
  go_enter Tryd.func42, Tryd.ntmps42
  have hrb : (w.alloc (opo o v)).heap.size = w.heap.size + 1 := by simp
  have HRB := hid hrb
  clear hrb
  go_wp2_with (first
    | (have hh2 := HR2.out; refine wpList_al_op rfl rfl ?_; intro w3 ho3 hb3 hlt3; clear hh2; have HL3 := hid ho3; have HR3 := hid (HR2.out.below hb3); have HO3 := hid (HO2.out.below hb3); have HC3 := hid (HC2.out.below hb3); have B3 := hid (bt B2.out hb3); have LT3 := hid hlt3; clear ho3 hb3 hlt3)
    | (refine wpList_al_op rfl rfl ?_; intro w2 ho2 hb2 hlt2; rw [HRB.out] at ho2 hlt2; have HR2 := hid ho2; have HO2 := hid (HO.out.below hb2); have HC2 := hid (HC.out.below hb2); have B2 := hid (bt HA.out hb2); have LT2 := hid hlt2; clear ho2 hb2 hlt2)
    | (refine wpList_load_op rfl _ rfl w.heap.size rfl o v HO2.out ?_)
    | (refine wpList_st_op rfl rfl rfl rfl HV.out HL3.out ?_; intro w4 ho4 hf4; have HL4 := hid ho4; have HF4 := hid hf4; have HO4 := hid (HO3.out.fr hf4 (fun e => by have h2 := LT2.out; omega)); clear ho4 hf4)
    | (refine wpList_ld_cuts rfl rfl rfl HO4.out ?_)
    | fail)
  have B4 := hid (below_fr B3.out HF4.out (by have h2 := LT2.out; omega))
  have hq : w.heap.size + 1 < w2.heap.size := LT2.out
  have HR4 := hid (HR3.out.fr HF4.out (fun e => by omega))
  obtain ⟨ua, uc, rfl, _⟩ := HC3.out.form
  have HC4 : Hid (Cs w4 (.slice ua o.cuts.length uc) o.cuts) := hid (by
    by_cases h0 : o.cuts = []
    · have := HC3.out
      rw [h0] at this ⊢
      exact this.none
    · refine Sl.kept HC3.out (fun k hk hlt => HF4.out.block k hlt (fun e => ?_))
      have h1 := HC2.out.blk h0 hk
      omega)
  obtain ⟨q, hqq⟩ : ∃ q, w2.heap.size = q := ⟨_, rfl⟩
  rw [hqq] at HL4 hq ⊢
  clear hqq HF4 HL3 HR3 HC3 HC2 HO2 HR2 HO3 HO HC
  refine (copycuts_any _ o.cuts w4 HC4.out hl).mono ?_
  rintro e w5 ⟨u5, rfl, ho5, b5⟩
  have HU5 := hid ho5
  have HL5 := hid (HL4.out.below b5)
  have HR5 := hid (HR4.out.below b5)
  have B5 := hid (bt B4.out b5)
  have H45 := hid B4.out.size
  obtain ⟨a5, c5, rfl⟩ := own_shape ho5
  clear ho5 b5 HL4 HR4 HO4
  go_wp2_with (first
    | (refine wpList_st_cuts o.cuts rfl rfl rfl rfl HL5.out ?_; intro w6 ho6 hf6; have HL6 : Hid (Ob w6 q o (.slice a5 o.cuts.length c5)) := hid ho6; have HR6 := hid (HR5.out.fr hf6 (fun e => by omega)); have HF6 := hid hf6; clear ho6 hf6)
    | (refine wpList_load_op rfl _ rfl q rfl o (.slice a5 o.cuts.length c5) HL6.out ?_)
    | (refine wpList_st_op rfl rfl rfl rfl ⟨_, _, _, rfl⟩ HR6.out ?_; intro w7 ho7 hf7; have HR7 := hid ho7; have HF7 := hid hf7; clear ho7 hf7)
    | fail)
  have B7 := hid (below_fr (below_fr B5.out HF6.out (by omega)) HF7.out (by omega))
  refine bodyPost_ret (results_cell_row rfl _ _ (w.heap.size + 1) 57 (opl o (.slice a5 o.cuts.length c5)) (0, 0) _ rfl HR7.out Tryd.underlying57 rfl (by kernel_rfl)) rfl ?_
  have hu6 := own_fr HU5.out HF6.out (fun k hk e => own_far HU5.out HL5.out (by decide) (e ▸ hk))
  have hu7 := own_fr hu6 HF7.out (fun k hk e => own_far hu6 HR6.out (by decide) (e ▸ hk))
  exact ⟨_, rfl, Sl.of_own hu7, B7.out, fun k hk => Nat.le_trans H45.out (HU5.out.lt k hk).1⟩

/-- What CopyOps answers. -/
def YX (w : World) (l : List (Opn × Value)) (v' : Value) (w' : World) : Prop := ∃ l', Rw w.heap.size w' v' l' ∧ fsts l' = fsts l ∧ Nw w.heap.size l' ∧ Below w.heap.size w w'

set_option maxHeartbeats 4000000 in
theorem copyops_any (v : Value) (l : List (Opn × Value)) (w : World) (hO : Os w v l) (hf : ∀ p ∈ l, p.1.cuts.length ≤ 100000) (hn : l.length ≤ 1048576) :
    Calls Tryd.prog 20 #[v] w fun e w' => ∃ v', e = .returned v' ∧ YX w l v' w' := by
  obtain ⟨a, c, rfl, _, _⟩ := Sl.form hO.1
  obtain ⟨n, hnn⟩ : ∃ n, l.length = n := ⟨_, rfl⟩
  have HN := hid hnn
  have HO := hid hO
  have HF := hid hf
  rw [hnn] at hn HO ⊢
  have HR := hid (Rw.made (B := w.heap.size) (w := w) (Nat.le_refl _))
  have HA := hid (ba w (.cells #[] 57))
  clear hO hf hnn
  go_enter Tryd.func20, Tryd.ntmps20
  go_wp2
  go_loopw [3, 4] (fun o i wr => ∃ (k : Nat) (l' : List (Opn × Value)), i = .int .i64 k ∧ k ≤ n ∧ Rw w.heap.size wr o l' ∧ l'.length = k ∧ fsts l' = fsts (l.take k) ∧ Nw w.heap.size l' ∧ Below w.heap.size w wr) (fun _ i _ => n - (intOf i).toNat)
  case atStart => exact ⟨0, [], rfl, Nat.zero_le _, HR.out, rfl, rfl, Nw.nil _, HA.out⟩
  case round =>
    obtain ⟨k, l', rfl, hk, hr, hl', hfs, hnw, hb⟩ := hrel
    have R0 := hid hr
    obtain ⟨ao, co, rfl⟩ := hr.form
    have HL' := hid hl'
    have HFS := hid hfs
    have HNW := hid hnw
    have B0 := hid hb
    rw [hl'] at R0
    rw [hl']
    clear hr hl' hfs hnw hb HR HA
    by_cases hlt : k < n
    · have hlt' : (k : Int) < (n : Int) := by omega
      have hx : k < l.length := by rw [HN.out]; exact hlt
      obtain ⟨b, off, c', e1, _, _, hbl, hc⟩ := HO.out.inv (by rw [HN.out]; omega)
      rw [HN.out] at e1
      simp only [Value.slice.injEq] at e1
      obtain ⟨rfl, -, rfl⟩ := e1
      have hc := hc k hx
      obtain ⟨⟨o, u⟩, hp⟩ : ∃ p, l[k] = p := ⟨_, rfl⟩
      have hcs := HO.out.2 _ (List.getElem_mem hx)
      have hcl := HF.out _ (List.getElem_mem hx)
      rw [hp] at hc hcs hcl
      dsimp only at hc hcs hcl
      have HP := hid hp
      have HC : Hid (∀ j, j < 20 → wr.cell? ⟨b, off + k * 20 + j, none⟩ = (opl o u)[j]?) := hid (fun j hj => (B0.out.cell hbl).trans (hc j hj))
      have HCP := hid (copyop_any (opv o u) o u rfl wr (hcs.below B0.out) hcl)
      clear hp hc hcs hcl
      go_wp2_with (first | (refine wpList_val _ rfl (run_load_opat rfl rfl HC.out) ?_) | fail)
      refine HCP.out.mono ?_
      rintro e w6 ⟨u6, rfl, hcs6, b6, hu6⟩
      have hA := ba w6 (opo o u6)
      have O7 := hid (Os.one w6 o u6 hcs6)
      have R7 := hid ((R0.out.below b6).below hA)
      have B7 := hid (bt (bt B0.out b6) hA)
      have S7 := hid B7.out.size
      have AW7 : Hid (Aw (.slice ao k co) (o, u6)) := hid (.inr (fun j hj e => by
        have h1 := hu6 j e
        have h2 := (R0.out.1.lt j hj).2
        omega))
      have HU6 : Hid (∀ j, u6.ownBlock = some j → w.heap.size ≤ j) := hid (fun j hj => Nat.le_trans B0.out.size (hu6 j hj))
      have hlen : l'.length ≤ 1048576 := by have := HL'.out; omega
      clear HCP hcs6 b6 hu6 hA
      go_wp2_with (first
        | (refine wpList_ops1 rfl _ rfl o u6 rfl ?_)
        | (at_builtin; refine wpList_append_op rfl _ _ rfl w.heap.size (.slice ao k co) l' rfl R7.out _ (o, u6) rfl O7.out AW7.out hlen S7.out ?_; intro v9 w9 hR9 hf9 hv9; have R9 := hid hR9; have HF9 := hid hf9; obtain ⟨a9, c9, rfl⟩ := hR9.form; clear hR9 hf9 hv9)
        | fail)
      have B9 : Hid (Below w.heap.size w w9) := hid (B7.out.trans (HF9.out.below (fun j hj e => by have := (R7.out.1.lt j e).1; omega) S7.out))
      go_roundw
      case rel =>
        refine ⟨k + 1, l' ++ [(o, u6)], by go_num, hlt, by have h9 := R9.out; rw [List.length_append] at h9; exact h9, by rw [List.length_append, HL'.out]; rfl, ?_, HNW.out.snoc HU6.out, B9.out⟩
        have htk : fsts (l.take (k + 1)) = fsts (l.take k) ++ [o] := by
          unfold fsts
          rw [List.take_succ_eq_append_getElem hx, List.map_append, HP.out]
          rfl
        rw [htk, ← HFS.out]
        simp [fsts]
      case measure => simp [intOf]; omega
    · have hlt' : ¬ (k : Int) < (n : Int) := by omega
      have htk : l.take k = l := List.take_of_length_le (by rw [HN.out]; omega)
      go_wp2
      go_ret
      exact ⟨_, rfl, l', R0.out, by rw [HFS.out, htk], HNW.out, B0.out⟩
end Go.Proofs.YteckjkblngmenaaDoor
