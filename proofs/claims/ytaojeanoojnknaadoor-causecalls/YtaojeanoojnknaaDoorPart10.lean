/-
  Parts of the proof, one behind the other; what each proves stands at its head.
-/
import Derived.Test.YtaojeanoojnknaaDoorPart6
import Derived.Test.YtaojeanoojnknaaDoorPart5
import Derived.Lib.Strings
import Derived.Lib.Slices
import Derived.Lib.Small
import Derived.Lib.Walk
import Derived.Lib.BitFns
import Derived.Deep.QuietTactic
import Derived.BigQuiet
import Derived.Laws.BytesString
import Derived.Test.YtaojeanoojnknaaDoorPart1
import Derived.Laws.AppendOwnNone

/-
  What num.first returns is proved here, for all slices that read as bytes: the number that they begin with, and how many of them it takes.
-/
namespace Go.Proofs.YtaojeanoojnknaaDoor
open Go.RowKit
set_option linter.unusedVariables false
set_option maxRecDepth 100000

end Go.Proofs.YtaojeanoojnknaaDoor

/-
  What the methods of num.Cursor return, and what the cursor is then over, is proved here, for every cursor.
-/
namespace Go.Proofs.YtaojeanoojnknaaDoor
open Go.RowKit
set_option linter.unusedVariables false
set_option maxRecDepth 100000

end Go.Proofs.YtaojeanoojnknaaDoor

/-
  Ops as data: which are right, their bytes, and what is read of bytes. Nothing of the program is walked here.
-/
namespace Go.Proofs.YtaojeanoojnknaaDoor
open Go.RowKit
set_option linter.unusedVariables false
set_option maxRecDepth 100000

/-- An op. -/
structure Opn where
  (k ir im t br bm pr pm : Int)
  (key : ByteArray)
  (sr sm lr lm li gr gm gi : Int)
  (text : ByteArray)
  (cuts : List Ct)
  (flag : Bool)
def Opn.zero : Opn := ⟨0, 0, 0, 0, 0, 0, 0, 0, ⟨#[]⟩, 0, 0, 0, 0, 0, 0, 0, 0, ⟨#[]⟩, [], false⟩

/-- A block's name; a character; a cut. -/
def rb (r n : Int) : Bool := decide (n = 0 ∧ (r = 0 ∨ r = 1)) || ro r n
def rc (r n i : Int) : Bool := decide (r = 0 ∧ n = 0 ∧ i = 0) || (ro r n && decide (0 ≤ i ∧ i < 64))
def rct (c : Ct) : Bool := ro c.r c.n && decide (0 ≤ c.f ∧ c.f < c.t ∧ c.t ≤ 64)

/-- The fields that a kind tells, by their numbers. -/
def told (k : Int) : List Nat :=
  if k = 1 then [1, 2] else if k = 2 then [0, 1, 2] else if k = 3 then [3, 4, 5, 6] else if k = 4 then [7] else if k = 5 then [3, 4, 5, 1, 2] else if k = 6 then [0, 8] else []

def rightF (o : Opn) : Nat → Bool
  | 0 => ro o.br o.bm
  | 1 => rb o.pr o.pm
  | 2 => K.right (tx o.key)
  | 3 => ro o.sr o.sm
  | 4 => rc o.lr o.lm o.li
  | 5 => rc o.gr o.gm o.gi
  | 6 => decide (1 ≤ o.text.size ∧ o.text.size ≤ 64)
  | 7 => decide (1 ≤ o.cuts.length ∧ o.cuts.length ≤ 16) && o.cuts.all rct
  | _ => true
def noughtF (o : Opn) : Nat → Bool
  | 0 => decide (o.br = 0 ∧ o.bm = 0)
  | 1 => decide (o.pr = 0 ∧ o.pm = 0)
  | 2 => decide (o.key.size = 0)
  | 3 => decide (o.sr = 0 ∧ o.sm = 0)
  | 4 => decide (o.lr = 0 ∧ o.lm = 0 ∧ o.li = 0)
  | 5 => decide (o.gr = 0 ∧ o.gm = 0 ∧ o.gi = 0)
  | 6 => decide (o.text.size = 0)
  | 7 => decide (o.cuts.length = 0)
  | _ => !o.flag
def goodF (o : Opn) (f : Nat) : Bool := if f ∈ told o.k then rightF o f else noughtF o f
def rightO (o : Opn) : Bool := ro o.ir o.im && rs o.t o.ir && (List.range 9).all (goodF o) && !(told o.k).isEmpty

/-- What is left to read, and whether the cursor is lost. -/
abbrev St := List Int × Bool
def rn (m : Int) (s : St) : Int × St := (M.numV m s.1, (M.numS m s.1, M.numL m s.1 s.2))
end Go.Proofs.YtaojeanoojnknaaDoor

/-
  What is read of bytes is what they were made of: of right ops, whatever the bounds (if they are wide enough); one right op's bytes are never the beginning of another's. Nothing of the program is walked here.
-/
namespace Go.Proofs.YtaojeanoojnknaaDoor
open Go.RowKit
set_option linter.unusedVariables false
set_option maxRecDepth 100000

theorem ro_bounds {r n : Int} (h : ro r n = true) : 0 ≤ r ∧ r < 16 ∧ 1 ≤ n ∧ n ≤ 1048576 := by simpa [ro] using h
/-- A field, copied. -/
def cpF (f : Nat) (q o : Opn) : Opn :=
  match f with
  | 0 => { o with br := q.br, bm := q.bm }
  | 1 => { o with pr := q.pr, pm := q.pm }
  | 2 => { o with key := q.key }
  | 3 => { o with sr := q.sr, sm := q.sm }
  | 4 => { o with lr := q.lr, lm := q.lm, li := q.li }
  | 5 => { o with gr := q.gr, gm := q.gm, gi := q.gi }
  | 6 => { o with text := q.text }
  | 7 => { o with cuts := q.cuts }
  | _ => { o with flag := q.flag }

theorem nine {f : Nat} (h : f ≤ 8) : f = 0 ∨ f = 1 ∨ f = 2 ∨ f = 3 ∨ f = 4 ∨ f = 5 ∨ f = 6 ∨ f = 7 ∨ f = 8 := by omega
/-- All fields of a list, one behind the other. -/
theorem told_le (k : Int) : ∀ f ∈ told k, f ≤ 8 := by
  unfold told
  intro f
  repeat' split
  all_goals simp
  all_goals omega
theorem six {k : Int} (h : told k ≠ []) : k = 1 ∨ k = 2 ∨ k = 3 ∨ k = 4 ∨ k = 5 ∨ k = 6 := by
  unfold told at h
  by_cases h1 : k = 1; · exact .inl h1
  by_cases h2 : k = 2; · exact .inr (.inl h2)
  by_cases h3 : k = 3; · exact .inr (.inr (.inl h3))
  by_cases h4 : k = 4; · exact .inr (.inr (.inr (.inl h4)))
  by_cases h5 : k = 5; · exact .inr (.inr (.inr (.inr (.inl h5))))
  by_cases h6 : k = 6; · exact .inr (.inr (.inr (.inr (.inr h6))))
  simp [h1, h2, h3, h4, h5, h6] at h
theorem right_parts {o : Opn} (h : rightO o = true) : (ro o.ir o.im = true ∧ rs o.t o.ir = true ∧ told o.k ≠ []) ∧ ∀ f, f ≤ 8 → goodF o f = true := by
  unfold rightO at h
  simp only [Bool.and_eq_true, List.all_eq_true, List.mem_range, Bool.not_eq_true'] at h
  obtain ⟨⟨⟨h1, h2⟩, h3⟩, h4⟩ := h
  exact ⟨⟨h1, h2, by simpa using h4⟩, fun f hf => h3 f (by omega)⟩
theorem right_not {o : Opn} (h : rightO o = true) {f : Nat} (h8 : f ≤ 8) (hf : f ∉ told o.k) : noughtF o f = true := by
  have := (right_parts h).2 f h8
  unfold goodF at this
  rwa [if_neg hf] at this
theorem ba_nil {s : ByteArray} (h : s.size = 0) : s = ⟨#[]⟩ := by
  obtain ⟨d⟩ := s
  have : d.size = 0 := h
  rw [Array.eq_empty_of_size_eq_zero this]
theorem told_cp {o : Opn} (h : rightO o = true) : (told o.k).foldl (fun p f => cpF f o p) { Opn.zero with k := o.k, ir := o.ir, im := o.im, t := o.t } = o := by
  have hk := six (right_parts h).1.2.2
  have hn := fun f (h8 : f ≤ 8) (hf : f ∉ told o.k) => right_not h h8 hf
  clear h
  obtain ⟨k, ir, im, t, br, bm, pr, pm, key, sr, sm, lr, lm, li, gr, gm, gi, text, cuts, flag⟩ := o
  dsimp only at hk hn ⊢
  rcases hk with rfl | rfl | rfl | rfl | rfl | rfl
  all_goals
    have n0 := hn 0 (by decide)
    have n1 := hn 1 (by decide)
    have n2 := hn 2 (by decide)
    have n3 := hn 3 (by decide)
    have n4 := hn 4 (by decide)
    have n5 := hn 5 (by decide)
    have n6 := hn 6 (by decide)
    have n7 := hn 7 (by decide)
    have n8 := hn 8 (by decide)
    clear hn
    simp [told, noughtF] at n0 n1 n2 n3 n4 n5 n6 n7 n8
    simp [told, cpF, Opn.zero, *]
    try rfl

end Go.Proofs.YtaojeanoojnknaaDoor

/-
  Ops as values: twenty cells.
-/
namespace Go.Proofs.YtaojeanoojnknaaDoor
open Go.RowKit
set_option linter.unusedVariables false
set_option maxRecDepth 100000

/-- An op's cells, its cuts' slice being v. -/
abbrev opl (o : Opn) (v : Value) : Array Value :=
  #[.int .i64 o.k,.int .i64 o.ir,.int .i64 o.im,.int .i64 o.t,.int .i64 o.br,.int .i64 o.bm,.int .i64 o.pr,.int .i64 o.pm,.string o.key,.int .i64 o.sr,.int .i64 o.sm,.int .i64 o.lr,.int .i64 o.lm,.int .i64 o.li,.int .i64 o.gr,.int .i64 o.gm,.int .i64 o.gi,.string o.text,v,.bool o.flag]
abbrev opv (o : Opn) (v : Value) : Value := .agg (opl o v)
abbrev opo (o : Opn) (v : Value) : Obj := .cells (opl o v) 43

end Go.Proofs.YtaojeanoojnknaaDoor

/-
  Slices in memory, whatever their elements: 'Sl sz w v n cells': the slice v has n elements of sz cells each, which read as 'cells'; rows of names, cuts and ops.
-/
namespace Go.Proofs.YtaojeanoojnknaaDoor
open Go.RowKit
set_option linter.unusedVariables false
set_option maxRecDepth 100000

/-- An op in memory. -/
def Ob (w : World) (b : Nat) (o : Opn) (v : Value) : Prop := w.heap[b]? = some (opo o v)
theorem Ob.new (w : World) (o : Opn) (v : Value) : Ob (w.alloc (opo o v)) w.heap.size o v := heap_alloc_new w _
theorem Ob.lt {w : World} {b : Nat} {o : Opn} {v : Value} (h : Ob w b o v) : b < w.heap.size := (Array.getElem?_eq_some_iff.1 h).1
theorem Ob.below {w w' : World} {b : Nat} {o : Opn} {v : Value} (h : Ob w b o v) (hb : Below w.heap.size w w') : Ob w' b o v := by
  unfold Ob; rw [hb.block b h.lt]; exact h
theorem Ob.cell {w : World} {b : Nat} {o : Opn} {v : Value} (h : Ob w b o v) (j : Nat) : w.cell? ⟨b, j, none⟩ = (opl o v)[j]? := cell_of_row w b j _ _ _ h
theorem Ob.frozen {w : World} {b : Nat} {o : Opn} {v : Value} (h : Ob w b o v) (j : Nat) : w.frozen? ⟨b, j, none⟩ = false := frozen_of_row w b j _ _ h
/-- All its cells, for the walk. -/
structure Oc (w : World) (b : Nat) (o : Opn) (v : Value) : Prop where
  c0 : w.cell? ⟨b, 0, none⟩ = some (.int .i64 o.k)
  c1 : w.cell? ⟨b, 1, none⟩ = some (.int .i64 o.ir)
  c2 : w.cell? ⟨b, 2, none⟩ = some (.int .i64 o.im)
  c3 : w.cell? ⟨b, 3, none⟩ = some (.int .i64 o.t)
  c4 : w.cell? ⟨b, 4, none⟩ = some (.int .i64 o.br)
  c5 : w.cell? ⟨b, 5, none⟩ = some (.int .i64 o.bm)
  c6 : w.cell? ⟨b, 6, none⟩ = some (.int .i64 o.pr)
  c7 : w.cell? ⟨b, 7, none⟩ = some (.int .i64 o.pm)
  c8 : w.cell? ⟨b, 8, none⟩ = some (.string o.key)
  c9 : w.cell? ⟨b, 9, none⟩ = some (.int .i64 o.sr)
  c10 : w.cell? ⟨b, 10, none⟩ = some (.int .i64 o.sm)
  c11 : w.cell? ⟨b, 11, none⟩ = some (.int .i64 o.lr)
  c12 : w.cell? ⟨b, 12, none⟩ = some (.int .i64 o.lm)
  c13 : w.cell? ⟨b, 13, none⟩ = some (.int .i64 o.li)
  c14 : w.cell? ⟨b, 14, none⟩ = some (.int .i64 o.gr)
  c15 : w.cell? ⟨b, 15, none⟩ = some (.int .i64 o.gm)
  c16 : w.cell? ⟨b, 16, none⟩ = some (.int .i64 o.gi)
  c17 : w.cell? ⟨b, 17, none⟩ = some (.string o.text)
  c18 : w.cell? ⟨b, 18, none⟩ = some v
  c19 : w.cell? ⟨b, 19, none⟩ = some (.bool o.flag)
theorem Ob.cells {w : World} {b : Nat} {o : Opn} {v : Value} (h : Ob w b o v) : Oc w b o v :=
  ⟨h.cell 0, h.cell 1, h.cell 2, h.cell 3, h.cell 4, h.cell 5, h.cell 6, h.cell 7, h.cell 8, h.cell 9, h.cell 10, h.cell 11, h.cell 12, h.cell 13, h.cell 14, h.cell 15, h.cell 16, h.cell 17, h.cell 18, h.cell 19⟩

theorem Ob.load {w : World} {b : Nat} {o : Opn} {v : Value} (h : Ob w b o v) : (loadVar 43 ⟨b, 0, none⟩).run Tryd.prog w = .ok (opv o v) w :=
  run_loadVar_row w b 43 43 (opl o v) (0, 0) _ h Tryd.underlying43 rfl (by kernel_rfl)

theorem wpList_load_op {ops : Array Oper} {rest : List Oper} {p : Oper} {a : Act} {w : World} {Q : Exit → Act → World → Prop} (hgd : p.guard = none) (x : Operand) (ho : p.op = .load 43 x)
    (b : Nat) (hx : a.eval x = .pointer (some ⟨b, 0, none⟩)) (o : Opn) (v : Value) (h : Ob w b o v)
    (hk : wpList Tryd.prog ops Q rest (a.put p.dst (opv o v)) w) : wpList Tryd.prog ops Q (p :: rest) a w :=
  wpList_load_row hgd 43 x ho b hx 43 (opl o v) (0, 0) _ h Tryd.underlying43 rfl (by kernel_rfl) hk

end Go.Proofs.YtaojeanoojnknaaDoor

/-
  A writer in memory ('Wr'), what may change while it writes ('Wx'), and what its method numbers writes: proved for all right numbers.
-/
namespace Go.Proofs.YtaojeanoojnknaaDoor
open Go.RowKit
set_option linter.unusedVariables false
set_option maxRecDepth 100000

end Go.Proofs.YtaojeanoojnknaaDoor

/-
  What told, slices.Contains (of fields), rightCuts and the functions that they call answer is proved here, for all kinds, fields and cuts.
-/
namespace Go.Proofs.YtaojeanoojnknaaDoor
open Go.RowKit
set_option linter.unusedVariables false
set_option maxRecDepth 100000

/-- Fields. -/
abbrev fc (l : List Nat) : List Value := l.map (fun (f : Nat) => .int .i64 f)
def Fs (w : World) (v : Value) (l : List Nat) : Prop := Sl 1 w v l.length (fc l)
theorem Fs.below {w w' : World} {v : Value} {l : List Nat} (h : Fs w v l) (hb : Below w.heap.size w w') : Fs w' v l := Sl.below h hb
theorem Fs.inv {w : World} {v : Value} {l : List Nat} (h : Fs w v l) (hn : 0 < l.length) :
    ∃ b off c, v = .slice (some ⟨b, off, none⟩) l.length c ∧ l.length ≤ c ∧ c ≤ maxLen ∧ b < w.heap.size ∧ ∀ i (hi : i < l.length), w.cell? ⟨b, off + i, none⟩ = some (.int .i64 (l[i] : Nat)) := by
  obtain ⟨b, off, c, h1, h2, h3, h4, h5⟩ := Sl.inv h hn (by decide)
  exact ⟨b, off, c, h1, h2, h3, h4, fun i hi => h5 i _ (by simp [hi])⟩

theorem told_lit (w : World) (l : List Nat) (h : l.length ≤ 9) : Fs (w.alloc (.cells (fc l).toArray 98)) (.slice (some ⟨w.heap.size, 0, none⟩) l.length l.length) l := by
  have := Sl.lit (sz := 1) w 98 (fc l).toArray l.length (by unfold maxLen; omega) (by simp)
  unfold Fs
  simpa using this

theorem told_any (k : Int) (w : World) : Calls Tryd.prog 54 #[.int .i64 k] w fun e w' => ∃ v, e = .returned v ∧ Fs w' v (told k) ∧ Below w.heap.size w w' ∧ ∀ b, v.ownBlock = some b → w.heap.size ≤ b := by
  by_cases hk : told k = []
  · rw [hk]
    have h1 : (k == 1) = false := by simp; rintro rfl; simp [told] at hk
    have h2 : (k == 2) = false := by simp; rintro rfl; simp [told] at hk
    have h3 : (k == 3) = false := by simp; rintro rfl; simp [told] at hk
    have h4 : (k == 4) = false := by simp; rintro rfl; simp [told] at hk
    have h5 : (k == 5) = false := by simp; rintro rfl; simp [told] at hk
    have h6 : (k == 6) = false := by simp; rintro rfl; simp [told] at hk
    clear hk
    go_enter Tryd.func54, Tryd.ntmps54
    go_wp2
    go_ret
    exact ⟨_, rfl, Sl.nil 1 w, Below.refl _ _, fun b hb => by cases hb⟩
  · rcases six hk with rfl | rfl | rfl | rfl | rfl | rfl
    · rw [show told 1 = [1, 2] from rfl]
      have HF := hid (told_lit w [1, 2] (by decide))
      go_enter Tryd.func54, Tryd.ntmps54
      go_wp2
      go_ret
      exact ⟨_, rfl, HF.out, ba _ _, fun b hb => by simp [Value.ownBlock] at hb; omega⟩
    · rw [show told 2 = [0, 1, 2] from rfl]
      have HF := hid (told_lit w [0, 1, 2] (by decide))
      go_enter Tryd.func54, Tryd.ntmps54
      go_wp2
      go_ret
      exact ⟨_, rfl, HF.out, ba _ _, fun b hb => by simp [Value.ownBlock] at hb; omega⟩
    · rw [show told 3 = [3, 4, 5, 6] from rfl]
      have HF := hid (told_lit w [3, 4, 5, 6] (by decide))
      go_enter Tryd.func54, Tryd.ntmps54
      go_wp2
      go_ret
      exact ⟨_, rfl, HF.out, ba _ _, fun b hb => by simp [Value.ownBlock] at hb; omega⟩
    · rw [show told 4 = [7] from rfl]
      have HF := hid (told_lit w [7] (by decide))
      go_enter Tryd.func54, Tryd.ntmps54
      go_wp2
      go_ret
      exact ⟨_, rfl, HF.out, ba _ _, fun b hb => by simp [Value.ownBlock] at hb; omega⟩
    · rw [show told 5 = [3, 4, 5, 1, 2] from rfl]
      have HF := hid (told_lit w [3, 4, 5, 1, 2] (by decide))
      go_enter Tryd.func54, Tryd.ntmps54
      go_wp2
      go_ret
      exact ⟨_, rfl, HF.out, ba _ _, fun b hb => by simp [Value.ownBlock] at hb; omega⟩
    · rw [show told 6 = [0, 8] from rfl]
      have HF := hid (told_lit w [0, 8] (by decide))
      go_enter Tryd.func54, Tryd.ntmps54
      go_wp2
      go_ret
      exact ⟨_, rfl, HF.out, ba _ _, fun b hb => by simp [Value.ownBlock] at hb; omega⟩

theorem index_any (v : Value) (l : List Nat) (f : Nat) (w : World) (h : Fs w v l) (hl : l.length ≤ 9) (hf : f ≤ 8) (hall : ∀ x ∈ l, x ≤ 8) :
    Calls Tryd.prog 71 #[v, .int .i64 f] w fun e w' => ∃ n : Int, e = .returned (.int .i64 n) ∧ (0 ≤ n ↔ f ∈ l) ∧ w = w' := by
  by_cases hz : l.length = 0
  · obtain rfl := List.eq_nil_of_length_eq_zero hz
    obtain ⟨a, c, rfl, _, _⟩ := Sl.form h
    clear h hl hall hz
    go_enter Tryd.func71, Tryd.ntmps71
    go_wp2
    refine wp_loop_rounds 1 ?_
    rw [rounds_succ]
    go_wp2
    go_ret
    exact ⟨_, rfl, by simp, rfl⟩
  · obtain ⟨b, off, c, rfl, _, _, _, hc⟩ := h.inv (by omega)
    obtain ⟨n, hn⟩ : ∃ n, l.length = n := ⟨_, rfl⟩
    have HN := hid hn
    rw [hn] at hl hz ⊢
    have HC := hid hc
    clear hn hc h hall
    go_enter Tryd.func71, Tryd.ntmps71
    go_wp2
    go_loopw [8] (fun i wr => ∃ k : Nat, k ≤ n ∧ i = .int .i64 k ∧ wr = w ∧ ∀ j (hj : j < l.length), j < k → l[j] ≠ f) (fun i _ => n - (intOf i).toNat)
    case atStart => exact ⟨0, Nat.zero_le _, rfl, rfl, fun j _ h => absurd h (Nat.not_lt_zero _)⟩
    case round =>
      obtain ⟨k, hk, rfl, rfl, ht⟩ := hrel
      have HT := hid ht
      clear ht
      by_cases hlt : k < n
      · have hkl : k < l.length := by rw [HN.out]; exact hlt
        have g1 := HC.out k hkl
        obtain ⟨x, hx⟩ : ∃ x, l[k] = x := ⟨_, rfl⟩
        rw [hx] at g1
        have HX := hid hx
        clear hx
        have b1' : (k : Int) < (n : Int) := by omega
        by_cases he : x = f
        · have he' : ((f : Int) == (x : Int)) = true := by simp [he]
          have HE := hid he
          clear he
          go_wp2
          go_ret
          refine ⟨_, rfl, ?_, rfl⟩
          have hkl : k < l.length := by rw [HN.out]; exact hlt
          have hm : l[k] ∈ l := List.getElem_mem hkl
          rw [HX.out, HE.out] at hm
          exact ⟨fun _ => hm, fun _ => by omega⟩
        · have he' : ((f : Int) == (x : Int)) = false := by simp; omega
          have HE := hid he
          clear he
          go_wp2
          go_roundw
          case rel =>
            refine ⟨k + 1, by omega, by go_num, by first | rfl | trivial, fun j hj hjk => ?_⟩
            by_cases e : j = k
            · subst e
              rw [HX.out]; exact HE.out
            · exact HT.out j hj (by omega)
          case measure => simp [intOf]; omega
      · have e1 : k = n := by omega
        clear HC
        go_wp2
        go_ret
        refine ⟨_, rfl, ?_, rfl⟩
        constructor
        · intro h; omega
        · intro hm
          obtain ⟨j, hj, e⟩ := List.getElem_of_mem hm
          exact absurd e (HT.out j hj (by have := HN.out; omega))

theorem contains_any (v : Value) (l : List Nat) (f : Nat) (w : World) (h : Fs w v l) (hl : l.length ≤ 9) (hf : f ≤ 8) (hall : ∀ x ∈ l, x ≤ 8) :
    Calls Tryd.prog 56 #[v, .int .i64 f] w fun e w' => e = .returned (.bool (decide (f ∈ l))) ∧ w = w' := by
  have HI := hid (fun W => index_any v l f W)
  obtain ⟨a, c, rfl, _, _⟩ := Sl.form h
  go_enter Tryd.func56, Tryd.ntmps56
  go_wp2_with fail
  refine (HI.out _ h hl hf hall).mono ?_
  rintro e w1 ⟨n, rfl, hn, rfl⟩
  have HN := hid hn
  clear hn h hl hf hall
  go_wp2
  go_ret
  refine ⟨retb ?_, rfl⟩
  simpa using HN.out


abbrev cutv (c : Ct) : Value := .agg #[.int .i64 c.r, .int .i64 c.n, .int .i64 c.f, .int .i64 c.t]

theorem wrong_any (c : Ct) (w : World) : Calls Tryd.prog 81 #[cutv c] w fun e w' => e = .returned (.bool (!rct c)) ∧ Below w.heap.size w w' := by
  obtain ⟨b, hb⟩ : ∃ b, rct c = b := ⟨_, rfl⟩
  rw [hb]
  have HR := hid hb
  have HB := hid (ba w (.cells #[.int .i64 c.r, .int .i64 c.n, .int .i64 c.f, .int .i64 c.t] 86))
  have hp := heap_alloc_new w (.cells #[.int .i64 c.r, .int .i64 c.n, .int .i64 c.f, .int .i64 c.t] 86)
  have k2 := fun o => ((ba (w.alloc (.cells #[.int .i64 c.r, .int .i64 c.n, .int .i64 c.f, .int .i64 c.t] 86)) o).cell (p := ⟨w.heap.size, 2, none⟩) (by simp)).trans (by rw [cell_of_row _ _ 2 _ _ _ hp]; rfl : _ = some (.int .i64 c.f))
  have k3 := fun o => ((ba (w.alloc (.cells #[.int .i64 c.r, .int .i64 c.n, .int .i64 c.f, .int .i64 c.t] 86)) o).cell (p := ⟨w.heap.size, 3, none⟩) (by simp)).trans (by rw [cell_of_row _ _ 3 _ _ _ hp]; rfl : _ = some (.int .i64 c.t))
  clear hp hb
  cases hro : ro c.r c.n
  all_goals cases h0 : decide (c.f < 0)
  all_goals cases h1 : decide (c.f < c.t)
  all_goals
    have HO := hid hro
    have H0 := hid h0
    have H1 := hid h1
    have h1' : decide (c.t ≤ c.f) = !decide (c.f < c.t) := by rw [Bool.eq_iff_iff]; simp
    rw [h1] at h1'
    go_enter Tryd.func81, Tryd.ntmps81
    go_wp2_with (go_at_call 47; refine (ro_any _ _ _).mono ?_; rintro e w2 ⟨rfl, rfl⟩; rw [hro])
    go_ret
    refine ⟨retb ?_, bt HB.out (ba _ _)⟩
    rw [← HR.out]
    have a1 := HO.out
    have a2 := H0.out
    have a3 := H1.out
    simp at a2 a3
    simp [rct, a1]
    try omega


abbrev wrongv : Value := .func (.func 81) #[] #[]

set_option maxHeartbeats 1000000 in
theorem indexf_any (v : Value) (l : List Ct) (w : World) (h : Cs w v l) :
    Calls Tryd.prog 93 #[v, wrongv] w fun e w' => ∃ n : Int, e = .returned (.int .i64 n) ∧ (0 ≤ n ↔ l.all rct = false) ∧ Below w.heap.size w w' := by
  by_cases hz : l.length = 0
  · obtain rfl := List.eq_nil_of_length_eq_zero hz
    obtain ⟨a, c, rfl, _, _⟩ := h.form
    clear h hz
    go_enter Tryd.func93, Tryd.ntmps93
    go_wp2
    refine wp_loop_rounds 1 ?_
    rw [rounds_succ]
    go_wp2
    go_ret
    exact ⟨_, rfl, by simp, Below.refl _ _⟩
  · obtain ⟨b, off, c, rfl, hlc, hcm, hbl, hc⟩ := h.inv (by omega)
    obtain ⟨n, hn⟩ : ∃ n, l.length = n := ⟨_, rfl⟩
    have HN := hid hn
    rw [hn] at hz hlc ⊢
    unfold maxLen at hcm
    have HC := hid hc
    have HBL := hid hbl
    clear hn hc h hbl
    go_enter Tryd.func93, Tryd.ntmps93
    go_wp2
    go_loopw [8] (fun i wr => ∃ k : Nat, k ≤ n ∧ i = .int .i64 k ∧ Below w.heap.size w wr ∧ ∀ j (hj : j < l.length), j < k → rct l[j] = true) (fun i _ => n - (intOf i).toNat)
    case atStart => exact ⟨0, Nat.zero_le _, rfl, Below.refl _ _, fun j _ h => absurd h (Nat.not_lt_zero _)⟩
    case round =>
      obtain ⟨k, hk, rfl, hbel, ht⟩ := hrel
      have HT := hid ht
      have HBE := hid hbel
      clear ht hbel
      by_cases hlt : k < n
      · have hkl : k < l.length := by rw [HN.out]; exact hlt
        obtain ⟨x, hx⟩ : ∃ x, l[k] = x := ⟨_, rfl⟩
        have g := HC.out k hkl
        rw [hx] at g
        have g0 := (HBE.out.cell (p := ⟨b, off + k * 4, none⟩) HBL.out).trans g.1
        have g1 := (HBE.out.cell (p := ⟨b, off + k * 4 + 1, none⟩) HBL.out).trans g.2.1
        have g2 := (HBE.out.cell (p := ⟨b, off + k * 4 + 2, none⟩) HBL.out).trans g.2.2.1
        have g3 := (HBE.out.cell (p := ⟨b, off + k * 4 + 3, none⟩) HBL.out).trans g.2.2.2
        have HX := hid hx
        clear hx g
        have b1' : (k : Int) < (n : Int) := by omega
        cases he : rct x
        · go_wp2_with fail
          refine (wrong_any x _).mono ?_
          rintro e w1 ⟨rfl, hb1⟩
          have HB1 := hid hb1
          clear hb1
          rw [he]
          have HE := hid he
          clear he
          go_wp2
          go_ret
          refine ⟨_, rfl, ?_, HBE.out.trans (HB1.out.mono HBE.out.size)⟩
          have hm : l[k] ∈ l := List.getElem_mem hkl
          rw [HX.out] at hm
          refine ⟨fun _ => ?_, fun _ => by omega⟩
          rw [List.all_eq_false]
          exact ⟨x, hm, by rw [HE.out]; decide⟩
        · go_wp2_with fail
          refine (wrong_any x _).mono ?_
          rintro e w1 ⟨rfl, hb1⟩
          have HB1 := hid hb1
          clear hb1
          rw [he]
          have HE := hid he
          clear he
          go_wp2
          go_roundw
          case rel =>
            refine ⟨k + 1, by omega, by go_num, HBE.out.trans (HB1.out.mono HBE.out.size), fun j hj hjk => ?_⟩
            by_cases e : j = k
            · subst e
              rw [HX.out]; exact HE.out
            · exact HT.out j hj (by omega)
          case measure => simp [intOf]; omega
      · have e1 : k = n := by omega
        clear HC
        go_wp2
        go_ret
        refine ⟨_, rfl, ?_, HBE.out⟩
        constructor
        · intro h; omega
        · intro hm
          rw [List.all_eq_false] at hm
          obtain ⟨x, hx, hne⟩ := hm
          obtain ⟨j, hj, e⟩ := List.getElem_of_mem hx
          have := HT.out j hj (by have := HN.out; omega)
          rw [e] at this
          exact absurd this hne

theorem containsf_any (v : Value) (l : List Ct) (w : World) (h : Cs w v l) :
    Calls Tryd.prog 82 #[v, wrongv] w fun e w' => e = .returned (.bool (!l.all rct)) ∧ Below w.heap.size w w' := by
  have HI := hid (fun W => indexf_any v l W)
  obtain ⟨a, c, rfl, _, _⟩ := h.form
  go_enter Tryd.func82, Tryd.ntmps82
  go_wp2_with fail
  refine (HI.out _ h).mono ?_
  rintro e w1 ⟨n, rfl, hn, hb⟩
  have HN := hid hn
  have HB := hid hb
  clear hn h hb
  go_wp2
  go_ret
  refine ⟨retb ?_, HB.out⟩
  have := HN.out
  simp only [decide_eq_true_eq, Bool.not_eq_true']
  exact this

theorem cuts_any (v : Value) (l : List Ct) (w : World) (h : Cs w v l) :
    Calls Tryd.prog 75 #[v] w fun e w' => e = .returned (.bool (decide (1 ≤ l.length ∧ l.length ≤ 16) && l.all rct)) ∧ Below w.heap.size w w' := by
  have HI := hid (fun W => containsf_any v l W)
  obtain ⟨a, c, rfl, _, _⟩ := h.form
  obtain ⟨b, hb⟩ : ∃ b, l.all rct = b := ⟨_, rfl⟩
  rw [hb] at HI ⊢
  clear hb
  have HH := hid h
  clear h
  obtain ⟨n, hn⟩ : ∃ n, l.length = n := ⟨_, rfl⟩
  rw [hn] at HI HH ⊢
  clear hn
  by_cases h1 : 1 ≤ n
  · by_cases h2 : n ≤ 16
    · rw [decide_eq_true ⟨h1, h2⟩]
      have h1' : decide ((1 : Int) ≤ n) = true := by simp; omega
      have h2' : decide ((n : Int) ≤ 16) = true := by simp; omega
      go_enter Tryd.func75, Tryd.ntmps75
      go_wp2_with fail
      refine (HI.out _ HH.out).mono ?_
      rintro e w1 ⟨rfl, hb⟩
      have HB := hid hb
      clear hb
      go_wp2
      go_ret
      refine ⟨retb ?_, HB.out⟩
      simp
    · rw [decide_eq_false (fun h => h2 h.2)]
      have h1' : decide ((1 : Int) ≤ n) = true := by simp; omega
      have h2' : decide ((n : Int) ≤ 16) = false := by simp; omega
      go_enter Tryd.func75, Tryd.ntmps75
      go_wp2
      go_ret
      exact ⟨rfl, Below.refl _ _⟩
  · rw [decide_eq_false (fun h => h1 h.1)]
    have h1' : decide ((1 : Int) ≤ n) = false := by simp; omega
    go_enter Tryd.func75, Tryd.ntmps75
    go_wp2
    go_ret
    exact ⟨rfl, Below.refl _ _⟩

end Go.Proofs.YtaojeanoojnknaaDoor

/-
  What a reader's method name reads is proved here, for every cursor.
-/
namespace Go.Proofs.YtaojeanoojnknaaDoor
open Go.RowKit
set_option linter.unusedVariables false
set_option maxRecDepth 100000

/-- A cursor that is elsewhere while another block changes. -/
theorem Fr.rows {S : Nat → Prop} {w w' : World} (h : Fr S w w') {k : Nat} {c : Array Value} {T : TypeId} {f : Nat × Nat} (hk : w.heap[k]? = some (.cells c T f)) (hs : ¬ S k) : w'.heap[k]? = some (.cells c T f) := by
  rw [h.block k (Array.getElem?_eq_some_iff.1 hk).1 hs]; exact hk
/-- A store into a row. -/
theorem set_row {w : World} {b i : Nat} {cs : Array Value} {T : TypeId} (h : w.heap[b]? = some (.cells cs T (0, 0))) (v : Value) : (w.setCell ⟨b, i, none⟩ v).heap[b]? = some (.cells (cs.setIfInBounds i v) T (0, 0)) := heap_setCell_same w b i cs T v h
theorem Fr.set {S : Nat → Prop} {a w : World} (h : Fr S a w) {b : Nat} (i : Nat) (v : Value) (hb : a.heap.size ≤ b ∨ S b) : Fr S a (w.setCell ⟨b, i, none⟩ v) :=
  h.trans (Fr.of_set w b i v) (fun k hk e => by subst e; rcases hb with hb | hb; omega; exact hb)

end Go.Proofs.YtaojeanoojnknaaDoor

/-
  What a reader's method cuts reads is proved here, for every cursor.
-/
namespace Go.Proofs.YtaojeanoojnknaaDoor
open Go.RowKit
set_option linter.unusedVariables false
set_option maxRecDepth 100000

theorem info_cut : (Tryd.prog.info? 86).map (fun i => (i.zero, i.size, i.bytes)) = some (some (.agg #[.int .i64 0, .int .i64 0, .int .i64 0, .int .i64 0]), 4, 32) := by kernel_rfl

end Go.Proofs.YtaojeanoojnknaaDoor

/-
  What nought answers is proved here, for all ops and fields.
-/
namespace Go.Proofs.YtaojeanoojnknaaDoor
open Go.RowKit
set_option linter.unusedVariables false
set_option maxRecDepth 100000

theorem beq_no (s : ByteArray) : (s.toList == ByteArray.toList ⟨#[]⟩) = decide (s.size = 0) := by
  rw [beq_tx, Bool.eq_iff_iff]
  simp only [decide_eq_true_eq]
  rw [← tx_length]
  constructor <;> intro h
  · rw [h]; rfl
  · rw [List.eq_nil_of_length_eq_zero h]; rfl

theorem toList_nil (s : ByteArray) : s.toList = [] ↔ s = ByteArray.empty := by
  have := beq_no s
  constructor <;> intro h
  · have e : (s.toList == ByteArray.toList ⟨#[]⟩) = true := by rw [h]; unfold ByteArray.toList ByteArray.toList.loop; decide
    rw [this] at e
    exact ba_nil (by simpa using e)
  · rw [h]; unfold ByteArray.toList ByteArray.toList.loop; decide
theorem nought_any (f : Nat) (hf : f ≤ 8) (o : Opn) (a : Option Addr) (c : Nat) (w : World) : Calls Tryd.prog 55 #[opv o (.slice a o.cuts.length c), .int .i64 f] w fun e w' => e = .returned (.bool (noughtF o f)) ∧ Below w.heap.size w w' := by
  have HB := hid (ba w (opo o (.slice a o.cuts.length c)))
  obtain ⟨b, hb⟩ : ∃ b, noughtF o f = b := ⟨_, rfl⟩
  rw [hb]
  have HR := hid hb
  clear hb
  rcases nine hf with rfl | rfl | rfl | rfl | rfl | rfl | rfl | rfl | rfl
  all_goals
    go_enter Tryd.func55, Tryd.ntmps55
    go_wp2_with fail
    all_goals
      go_ret
      refine ⟨retb ?_, HB.out⟩
      rw [← HR.out]
      simp [noughtF, toList_nil, *]
end Go.Proofs.YtaojeanoojnknaaDoor

/-
  Rows of ops in memory ('Os'); what Long answers is proved here, for all rows of ops.
-/
namespace Go.Proofs.YtaojeanoojnknaaDoor
open Go.RowKit
set_option linter.unusedVariables false
set_option maxRecDepth 100000

/-- Ops, each with its cuts' slice. -/
abbrev opc (p : Opn × Value) : List Value := (opl p.1 p.2).toList
def Os (w : World) (v : Value) (l : List (Opn × Value)) : Prop := Sl 20 w v l.length (l.flatMap opc) ∧ ∀ p ∈ l, Cs w p.2 p.1.cuts
theorem Os.inv {w : World} {v : Value} {l : List (Opn × Value)} (h : Os w v l) (hn : 0 < l.length) :
    ∃ b off c, v = .slice (some ⟨b, off, none⟩) l.length c ∧ l.length ≤ c ∧ c ≤ maxLen ∧ b < w.heap.size ∧ ∀ i (hi : i < l.length) j, j < 20 → w.cell? ⟨b, off + i * 20 + j, none⟩ = (opl (l[i]).1 (l[i]).2)[j]? := by
  obtain ⟨b, off, c, h1, h2, h3, h4, h5⟩ := Sl.inv h.1 hn (by decide)
  refine ⟨b, off, c, h1, h2, h3, h4, fun i hi j hj => ?_⟩
  have k := flat_at opc 20 (fun _ => rfl) l i j hi hj
  have hs : j < (opl (l[i]).1 (l[i]).2).size := hj
  have e : (opl (l[i]).1 (l[i]).2)[j]? = some ((opl (l[i]).1 (l[i]).2)[j]) := Array.getElem?_eq_getElem hs
  rw [e, Nat.add_assoc]
  refine h5 _ _ ?_
  rw [k, ← e]
  simp [opc]

/-- An op that is looked at. -/
def small (o : Opn) : Bool := decide (o.text.size ≤ 200) && decide (o.key.size ≤ 200) && decide (o.cuts.length ≤ 40)

set_option maxHeartbeats 2000000 in
theorem long_any (v : Value) (l : List (Opn × Value)) (most : Nat) (w : World) (h : Os w v l) (hm : l.length ≤ most) (hm' : most ≤ 1000) :
    Calls Tryd.prog 27 #[v, .int .i64 most] w fun e w' => e = .returned (.bool (!l.all (fun p => small p.1))) ∧ w = w' := by
  by_cases hz : l.length = 0
  · obtain rfl := List.eq_nil_of_length_eq_zero hz
    obtain ⟨a, c, rfl, _, _⟩ := Sl.form h.1
    clear h hz
    go_enter Tryd.func27, Tryd.ntmps27
    go_wp2
    refine wp_loop_rounds 1 ?_
    rw [rounds_succ]
    go_wp2
    go_ret
    exact ⟨rfl, rfl⟩
  · obtain ⟨b, off, c, rfl, hlc, hcm, hbl, hc⟩ := h.inv (by omega)
    have hcs := h.2
    obtain ⟨n, hn⟩ : ∃ n, l.length = n := ⟨_, rfl⟩
    have HN := hid hn
    rw [hn] at hz hlc hm ⊢
    unfold maxLen at hcm
    have HC := hid hc
    have HCS := hid hcs
    obtain ⟨r, hr⟩ : ∃ r, l.all (fun p => small p.1) = r := ⟨_, rfl⟩
    rw [hr]
    have HR := hid hr
    have hd1 : decide (most < n) = false := by simp; omega
    have hd2 : decide ((most : Int) < (n : Int)) = false := by simp; omega
    clear hn hc h hbl hcs hr
    go_enter Tryd.func27, Tryd.ntmps27
    go_wp2
    go_loopw [5] (fun i wr => ∃ k : Nat, k ≤ n ∧ i = .int .i64 k ∧ wr = w ∧ ∀ j (hj : j < l.length), j < k → small (l[j]).1 = true) (fun i _ => n - (intOf i).toNat)
    case atStart => exact ⟨0, Nat.zero_le _, rfl, rfl, fun j _ h => absurd h (Nat.not_lt_zero _)⟩
    case round =>
      obtain ⟨k, hk, rfl, rfl, ht⟩ := hrel
      have HT := hid ht
      clear ht
      by_cases hlt : k < n
      · have hkl : k < l.length := by rw [HN.out]; exact hlt
        obtain ⟨x, hx⟩ : ∃ x, l[k] = x := ⟨_, rfl⟩
        have g1 := HC.out k hkl 17 (by decide)
        have g2 := HC.out k hkl 8 (by decide)
        have g3 := HC.out k hkl 18 (by decide)
        rw [hx] at g1 g2 g3
        have hxc := HCS.out _ (List.getElem_mem hkl)
        rw [hx] at hxc
        obtain ⟨xa, xc, hxv, _, _⟩ := hxc.form
        simp at g1 g2 g3
        rw [hxv] at g3
        have HX := hid hx
        clear hx hxc hxv
        have b1' : (k : Int) < (n : Int) := by omega
        have hs : small x.1 = (decide (x.1.text.size ≤ 200) && decide (x.1.key.size ≤ 200) && decide (x.1.cuts.length ≤ 40)) := rfl
        cases t1 : decide (x.1.text.size ≤ 200)
        all_goals cases t2 : decide (x.1.key.size ≤ 200)
        all_goals cases t3 : decide (x.1.cuts.length ≤ 40)
        all_goals
          rw [t1, t2, t3] at hs
          have HS := hid hs
          simp at t1 t2 t3
          clear hs
          go_wp2
          try
            go_ret
            refine ⟨retb ?_, rfl⟩
            rw [← HR.out]
            have hf : l.all (fun p => small p.1) = false := by
              rw [List.all_eq_false]
              exact ⟨x, by have := List.getElem_mem hkl; rw [HX.out] at this; exact this, by rw [HS.out]; decide⟩
            rw [hf]
            decide
        go_roundw
        case rel =>
          refine ⟨k + 1, by omega, by go_num, by first | rfl | trivial, fun j hj hjk => ?_⟩
          by_cases e : j = k
          · subst e; rw [HX.out]; exact HS.out
          · exact HT.out j hj (by omega)
        case measure => simp [intOf]; omega
      · have e1 : k = n := by omega
        clear HC
        go_wp2
        go_ret
        refine ⟨retb ?_, rfl⟩
        rw [← HR.out]
        have hf : l.all (fun p => small p.1) = true := by
          rw [List.all_eq_true]
          intro p hp
          obtain ⟨j, hj, e⟩ := List.getElem_of_mem hp
          have := HT.out j hj (by have := HN.out; omega)
          rw [e] at this
          exact this
        rw [hf]
        decide

end Go.Proofs.YtaojeanoojnknaaDoor

/-
  What the reference's cursor answers to Num is proved here, for every cursor that is over nothing when it is lost.
-/
namespace Go.Proofs.YtaojeanoojnknaaDoor
open Go.RowKit
set_option linter.unusedVariables false
set_option maxRecDepth 100000

end Go.Proofs.YtaojeanoojnknaaDoor

/-
  What the reference's cursor answers to Bytes and Text, and what CopyBytes returns, is proved here, for at most 2^47 bytes, and cursors that are over nothing when they are lost.
-/
namespace Go.Proofs.YtaojeanoojnknaaDoor
open Go.RowKit
set_option linter.unusedVariables false
set_option maxRecDepth 100000

end Go.Proofs.YtaojeanoojnknaaDoor

/-
  That offshootref00.SameIds tells whether two lists of names are one is proved here.
-/
namespace Go.Proofs.YtaojeanoojnknaaDoor
open Go.RowKit
set_option linter.unusedVariables false
set_option maxRecDepth 100000

theorem take_step_id {xs ys : List (Int × Int)} {k : Nat} (h1 : k < xs.length) (h2 : k < ys.length) (h : xs.take k = ys.take k) (he : xs[k] = ys[k]) : xs.take (k + 1) = ys.take (k + 1) := by
  rw [List.take_succ_eq_append_getElem h1, List.take_succ_eq_append_getElem h2, h, he]

set_option maxHeartbeats 2000000 in
theorem sameids_any (a b : Value) (xs ys : List (Int × Int)) (w : World) (h1 : Ns w a xs) (h2 : Ns w b ys) :
    Calls Tryd.prog 24 #[a, b] w fun e w' => e = .returned (.bool (decide (xs = ys))) ∧ ∃ n, w' = w.drewN n := by
  have l1 := h1.len
  have l2 := h2.len
  unfold maxLen at l1 l2
  by_cases hl : xs.length = ys.length
  · by_cases hz : xs.length = 0
    · have e1 : xs = [] := List.eq_nil_of_length_eq_zero hz
      have e2 : ys = [] := List.eq_nil_of_length_eq_zero (by omega)
      subst e1 e2
      obtain ⟨a1, c1, rfl, _⟩ := h1.form
      obtain ⟨a2, c2, rfl, _⟩ := h2.form
      clear h1 h2 l1 l2 hl hz
      go_enter Tryd.func24, Tryd.ntmps24
      go_wp2
      refine wp_loop_rounds 1 ?_
      rw [rounds_succ]
      go_wp2
      go_ret
      exact ⟨rfl, 0, rfl⟩
    · obtain ⟨b1, o1, c1, rfl, _, _, _, hc1⟩ := h1.inv (by omega)
      obtain ⟨b2, o2, c2, rfl, _, _, _, hc2⟩ := h2.inv (by omega)
      rw [← hl]
      obtain ⟨n, hn⟩ : ∃ n, xs.length = n := ⟨_, rfl⟩
      have HL : Hid (ys.length = n) := by rw [← hl]; exact hn
      have HN : Hid (xs.length = n) := hn
      rw [hn]
      rw [hn] at hz l1
      clear hn hl h1 h2
      have hnn : ((n : Int) != (n : Int)) = false := by simp
      have HC1 := hid hc1
      have HC2 := hid hc2
      clear hc1 hc2
      go_enter Tryd.func24, Tryd.ntmps24
      go_wp2
      go_loopw [5] (fun i wr => ∃ k m : Nat, k ≤ n ∧ i = .int .i64 k ∧ wr = w.drewN m ∧ xs.take k = ys.take k) (fun i _ => n - (intOf i).toNat)
      case atStart => exact ⟨0, 0, Nat.zero_le _, rfl, rfl, by simp⟩
      case round =>
        obtain ⟨k, m, hk, rfl, rfl, ht⟩ := hrel
        have HT := hid ht
        clear ht
        by_cases hlt : k < n
        · have hx : k < xs.length := by have := HN.out; omega
          have hy : k < ys.length := by have := HL.out; omega
          obtain ⟨g1, g2⟩ := HC1.out k hx
          obtain ⟨g3, g4⟩ := HC2.out k hy
          obtain ⟨⟨p1, p2⟩, hp⟩ : ∃ p, xs[k] = p := ⟨_, rfl⟩
          obtain ⟨⟨q1, q2⟩, hq⟩ : ∃ p, ys[k] = p := ⟨_, rfl⟩
          rw [hp] at g1 g2
          rw [hq] at g3 g4
          have HP := hid hp
          have HQ := hid hq
          clear hp hq
          dsimp only at g1 g2 g3 g4
          have b1' : (k : Int) < (n : Int) := by omega
          by_cases e1 : p1 = q1
          · subst e1
            by_cases e2 : p2 = q2
            · subst e2
              go_wp2
              go_quiet (fail)
              go_wp2
              go_roundw
              case rel => exact ⟨k + 1, _, by omega, by go_num, rfl, take_step_id hx hy HT.out (by rw [HP.out, HQ.out])⟩
              case measure => simp [intOf]; omega
            · have e2' : (p2 == q2) = false := by simpa using e2
              go_wp2
              go_quiet (fail)
              go_wp2
              go_ret
              refine ⟨?_, _, World.drewN_drewN _ _ _⟩
              rw [decide_eq_false (fun h => e2 (by have := HP.out; subst h; rw [HQ.out] at this; simp at this; exact this.symm))]
              rfl
          · have e1' : (p1 == q1) = false := by simpa using e1
            go_wp2
            go_quiet (fail)
            go_wp2
            go_ret
            refine ⟨?_, _, World.drewN_drewN _ _ _⟩
            rw [decide_eq_false (fun h => e1 (by have := HP.out; subst h; rw [HQ.out] at this; simp at this; exact this.1.symm))]
            rfl
        · go_wp2
          go_ret
          refine ⟨?_, _, rfl⟩
          have e1 : k = n := by omega
          have h3 := HT.out
          rw [List.take_of_length_le (by have := HN.out; omega), List.take_of_length_le (by have := HL.out; omega)] at h3
          rw [decide_eq_true h3]; rfl
  · have hne : ((xs.length : Int) != (ys.length : Int)) = true := by simp; omega
    obtain ⟨a1, c1, rfl, _⟩ := h1.form
    obtain ⟨a2, c2, rfl, _⟩ := h2.form
    clear h1 h2
    go_enter Tryd.func24, Tryd.ntmps24
    go_wp2
    go_ret
    exact ⟨by rw [decide_eq_false (by intro e; exact hl (by rw [e]))]; rfl, 0, rfl⟩

end Go.Proofs.YtaojeanoojnknaaDoor
