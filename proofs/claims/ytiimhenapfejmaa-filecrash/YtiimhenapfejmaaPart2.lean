/-
  Parts of the proof, one behind the other; what each proves stands at its head.
-/
import Derived.Test.YtiimhenapfejmaaPart1
import Derived.Deep.SlicePairs
import Derived.Deep.Strs
import Derived.Laws.BytesString
import Derived.Lib.SlBytesConst
import Derived.Test.YtiimhenapfejmaaRows
import Derived.Deep.QuietTactic
import Derived.BigQuiet
import Derived.ProofKit

/-
  A list of calls in memory (two numbers and bytes): 'Dl w v qs': the slice v reads as qs; what great and do return, for all calls and files.
-/
namespace Go.Proofs.Ytiimhenapfejmaa
open Go.RowKit Go.ChangeShapes Go.WideShapes
set_option linter.unusedVariables false
set_option maxRecDepth 100000

abbrev Cal := Int × Int × List Int
def cal0 : Cal := (0, 0, [])

def Dl (w : World) (v : Value) (qs : List Cal) : Prop :=
  ∃ a c, v = .slice a qs.length c ∧ qs.length ≤ c ∧ c ≤ maxLen ∧
    ∀ i, i < qs.length → ∃ b off u, a = some ⟨b, off, none⟩ ∧ w.cell? ⟨b, off + i * 3, none⟩ = some (.int .i64 (qs.getD i cal0).1) ∧ w.cell? ⟨b, off + i * 3 + 1, none⟩ = some (.int .i64 (qs.getD i cal0).2.1) ∧
      w.cell? ⟨b, off + i * 3 + 2, none⟩ = some u ∧ Bs w u (qs.getD i cal0).2.2
theorem Dl.below {w w' : World} {v : Value} {qs : List Cal} (h : Dl w v qs) (hb : Below w.heap.size w w') : Dl w' v qs := by
  obtain ⟨a, c, h1, h2, h3, h4⟩ := h
  refine ⟨a, c, h1, h2, h3, fun i hi => ?_⟩
  obtain ⟨b, off, u, e1, e2, e3, e4, e5⟩ := h4 i hi
  exact ⟨b, off, u, e1, by rw [hb.cell (World.block_lt_of_cell? _ _ e2)]; exact e2, by rw [hb.cell (World.block_lt_of_cell? _ _ e3)]; exact e3, by rw [hb.cell (World.block_lt_of_cell? _ _ e4)]; exact e4, e5.below hb⟩
theorem Dl.nil (w : World) : Dl w (.slice none 0 0) [] := ⟨none, 0, rfl, Nat.le_refl _, Nat.zero_le _, fun i hi => absurd hi (Nat.not_lt_zero _)⟩
theorem Dl.len {w : World} {v : Value} {qs : List Cal} (h : Dl w v qs) : qs.length ≤ maxLen := by
  obtain ⟨a, c, _, h2, h3, _⟩ := h
  exact Nat.le_trans h2 h3
theorem Dl.form {w : World} {v : Value} {qs : List Cal} (h : Dl w v qs) : ∃ a c, v = .slice a qs.length c := by
  obtain ⟨a, c, e, _⟩ := h
  exact ⟨a, c, e⟩
theorem Dl.inv {w : World} {v : Value} {qs : List Cal} (h : Dl w v qs) (hx : 0 < qs.length) :
    ∃ b off c, v = .slice (some ⟨b, off, none⟩) qs.length c ∧ ∀ i, i < qs.length → ∃ u, w.cell? ⟨b, off + i * 3, none⟩ = some (.int .i64 (qs.getD i cal0).1) ∧ w.cell? ⟨b, off + i * 3 + 1, none⟩ = some (.int .i64 (qs.getD i cal0).2.1) ∧
      w.cell? ⟨b, off + i * 3 + 2, none⟩ = some u ∧ Bs w u (qs.getD i cal0).2.2 := by
  obtain ⟨a, c, h1, h2, h3, h5⟩ := h
  obtain ⟨b, off, u, e1, _⟩ := h5 0 hx
  refine ⟨b, off, c, by rw [h1, e1], fun i hi => ?_⟩
  obtain ⟨b', off', u', e2, e3⟩ := h5 i hi
  rw [e1] at e2
  simp only [Option.some.injEq, Addr.mk.injEq, and_true] at e2
  obtain ⟨rfl, rfl⟩ := e2
  exact ⟨u', e3⟩

theorem cells_call : Try.prog.cellsOf 34 = 3 := by kernel_rfl
theorem cells_int : Try.prog.cellsOf 3 = 1 := by kernel_rfl

theorem list3 {α : Type} {l : List α} (h : l.length = 3) : ∃ a b c, l = [a, b, c] := by
  match l, h with
  | [a, b, c], _ => exact ⟨a, b, c, rfl⟩

section
variable {H : Type} {enc : TypeId × Value → H} {W : World} {held : Bool}
/-- Bytes that came in, and what they weigh. -/
theorem trod_u8s {n : Nat} {v : Value} {d : DataW H} {p : List MemPlace} (h : DataW.trod enc Try.prog W 0 (fun _ => true) held n 32 [v] = some (d, p)) : ∃ l, Bs W v l ∧ ((∀ m ∈ d.weights Try.prog 32, m ≤ reachBytes) → l.length ≤ 140737488355328) := by
  rcases open_ints Try.underlying32 Try.underlying5 cells_u8 h with ⟨hcs, _⟩ | ⟨x, l, c, zs, hcs, _, hl, hm, hz, hd, hcell, hwz⟩
  · simp at hcs
    subst hcs
    exact ⟨[], Bs.nil W, fun _ => Nat.zero_le _⟩
  · simp at hcs
    subst hcs
    refine ⟨zs.take l, Bs.of_row hl hm (by simpa using hz) hcell hwz, fun hw => ?_⟩
    simp only [Prod.mk.injEq] at hd
    rw [hd.1] at hw
    simp only [DataW.weights, Try.underlying32, bytes_u8] at hw
    have := hw _ (List.mem_cons_self ..)
    have hr : reachBytes < 2 ^ 47 := reachBytes_lt
    rw [List.length_take]
    simp [lits] at this
    omega
theorem trod_call {n : Nat} {cs : List Value} {d : DataW H} {p : List MemPlace} (h : DataW.trod enc Try.prog W 0 (fun _ => true) held n 34 cs = some (d, p)) :
    ∃ (q : Cal) (u : Value), cs = [.int .i64 q.1, .int .i64 q.2.1, u] ∧ Bs W u q.2.2 ∧ ((∀ m ∈ d.weights Try.prog 34, m ≤ reachBytes) → q.2.2.length ≤ 140737488355328) := by
  obtain ⟨y0, y1, y2, k, hx, hl, g0, g1, g2⟩ := Go.Deep.trod_struct3 Try.underlying34 h
  rw [cells_call] at hl
  obtain ⟨v0, v1, v2, rfl⟩ := list3 hl
  simp [cells_int, cells_u8s] at g0 g1 g2
  obtain ⟨a, e0, _⟩ := DataW.trod_int Try.underlying3 g0
  obtain ⟨b, e1, _⟩ := DataW.trod_int Try.underlying3 g1
  simp at e0 e1
  subst e0; subst e1
  obtain ⟨l, hl2, hw⟩ := trod_u8s (d := y2.1) (p := y2.2) g2
  refine ⟨(a, b, l), v2, rfl, hl2, fun hm => hw (fun m hm2 => hm m ?_)⟩
  simp only [Prod.mk.injEq] at hx
  rw [hx.1]
  simp only [DataW.weights, Try.underlying34]
  exact DataW.weights_mem_each (j := 2) rfl rfl m hm2
end

/-- A list of calls that came in; the bytes of each are at most 2^47. -/
theorem Dl.open {H : Type} {enc : TypeId × Value → H} {W : World} {a : Option Addr} {len cap : Nat} {d : DataW H} {p : List MemPlace}
    (h : DataW.Trod enc Try.prog W 0 (fun _ => true) true 22 (.slice a len cap) d p) (hz : ∀ n ∈ d.weights Try.prog 22, n ≤ reachBytes) : ∃ qs, Dl W (.slice a len cap) qs ∧ ∀ q ∈ qs, q.2.2.length ≤ 140737488355328 := by
  obtain ⟨fuel, hf⟩ := h
  rcases Go.Deep.open_slice Try.underlying22 hf with ⟨hcs, _⟩ | ⟨x, l, c, m, n, D, Pl, hcs, _, hl, hm, hmm, hd, hx⟩
  · simp [Value.cells] at hcs
    obtain ⟨rfl, rfl, rfl⟩ := hcs
    exact ⟨[], Dl.nil W, fun q hq => by cases hq⟩
  · simp [Value.cells] at hcs
    obtain ⟨rfl, rfl, rfl⟩ := hcs
    simp at hmm
    subst hmm
    simp only [Prod.mk.injEq] at hd
    rw [cells_call] at hx
    have each : ∀ i, i < len → ∃ q : Cal × Value, W.cells? 0 (x.add (i * 3)) 3 = some [.int .i64 q.1.1, .int .i64 q.1.2.1, q.2] ∧ Bs W q.2 q.1.2.2 ∧ q.1.2.2.length ≤ 140737488355328 := fun i hi => by
      obtain ⟨cs', h1, h2⟩ := hx i (by omega)
      obtain ⟨q, u, rfl, h3, h4⟩ := trod_call h2
      refine ⟨(q, u), h1, h3, h4 (fun k hk => hz k ?_)⟩
      rw [hd.1]
      simp only [DataW.weights, Try.underlying22]
      exact List.mem_cons.2 (Or.inr (List.mem_append.2 (Or.inl (weights_all_mem (List.mem_map.2 ⟨i, List.mem_range.2 hi, rfl⟩) _ hk))))
    have hinh : Inhabited (Cal × Value) := ⟨(cal0, .slice none 0 0)⟩
    obtain ⟨q, hq⟩ := Go.Deep.choose_lt each
    refine ⟨(List.range len).map (fun i => (q i).1), ⟨some x, _, by simp, by simpa using hl, hm, fun i hi => ?_⟩, fun r hr => ?_⟩
    · simp at hi
      obtain ⟨g0, g1, _⟩ := hq i hi
      obtain ⟨_, _, hcell⟩ := World.cells?_some g0
      have c0 := hcell 0 (by decide)
      have c1 := hcell 1 (by decide)
      have c2 := hcell 2 (by decide)
      rw [Go.Deep.add_add] at c0 c1 c2
      obtain ⟨b, off, spot⟩ := x
      have hs : spot = none := by
        obtain ⟨_, _, hcell0⟩ := World.cells?_some (hq 0 (by omega)).1
        simpa [Addr.add] using World.cell?_spot (hcell0 0 (by decide))
      subst hs
      rw [Addr.add_lit] at c0 c1 c2
      have hg : ((List.range len).map (fun i => (q i).1)).getD i cal0 = (q i).1 := by simp [List.getD, hi]
      rw [hg]
      refine ⟨b, off, (q i).2, rfl, c0, ?_, ?_, g1⟩
      · rw [Nat.add_assoc]; exact c1
      · rw [Nat.add_assoc]; exact c2
    · obtain ⟨i, hi, rfl⟩ := List.mem_map.1 hr
      exact (hq i (List.mem_range.1 hi)).2.2

/-- A bool is returned. -/
def Bo (e : Ending) : Prop := ∃ r : Bool, e = .returned (.bool r)

set_option maxHeartbeats 1000000 in
theorem great_any (a : Value) (qs : List Cal) (w : World) (h : Dl w a qs) (hx : ∀ q ∈ qs, q.2.2.length ≤ 140737488355328) :
    Calls Try.prog 8 #[a] w fun e w' => Bo e ∧ w = w' := by
  have l1 := h.len
  unfold maxLen at l1
  by_cases hz : qs.length = 0
  · have e1 : qs = [] := List.eq_nil_of_length_eq_zero hz
    subst e1
    obtain ⟨a1, c1, rfl⟩ := h.form
    clear h l1 hz hx
    go_enter Try.func8, Try.ntmps8
    go_wp2
    refine wp_loop_rounds 1 ?_
    rw [rounds_succ]
    go_wp2
    go_ret
    exact ⟨⟨false, rfl⟩, rfl⟩
  · obtain ⟨b, off, c, rfl, hc⟩ := h.inv (by omega)
    obtain ⟨n, hn⟩ : ∃ n, qs.length = n := ⟨_, rfl⟩
    have HN := hid hn
    have HC := hid hc
    have HX := hid hx
    rw [hn] at l1 hz ⊢
    clear h hc hx hn
    by_cases hb : (100 : Int) < n
    · go_enter Try.func8, Try.ntmps8
      go_wp2
      go_ret
      exact ⟨⟨true, rfl⟩, rfl⟩
    · go_enter Try.func8, Try.ntmps8
      go_wp2
      go_loop [3, 4] (fun s i => ∃ k m : Nat, k ≤ n ∧ i = .int .i64 k ∧ s = .int .i64 m ∧ m ≤ 20000) (fun _ i => n - (intOf i).toNat)
      case atStart => exact ⟨0, 0, Nat.zero_le _, rfl, rfl, Nat.zero_le _⟩
      case round =>
        obtain ⟨k, m, hk, rfl, rfl, hs⟩ := hrel
        by_cases hlt : k < n
        · have hlt' : (k : Int) < (n : Int) := by omega
          obtain ⟨u, -, -, g2, g3⟩ := HC.out k (by rw [HN.out]; exact hlt)
          obtain ⟨a1, d1, rfl⟩ := g3.form
          have hlm : (qs.getD k cal0).2.2.length ≤ 140737488355328 := by
            have hk' : k < qs.length := by rw [HN.out]; exact hlt
            rw [List.getD_eq_getElem?_getD, List.getElem?_eq_getElem hk', Option.getD_some]
            exact HX.out _ (List.getElem_mem hk')
          obtain ⟨j, hj⟩ : ∃ j, (qs.getD k cal0).2.2.length = j := ⟨_, rfl⟩
          rw [hj] at hlm g2
          clear hj g3
          by_cases hg : (20000 : Int) < (m : Int) + j
          · go_wp2
            go_ret
            exact ⟨⟨true, rfl⟩, rfl⟩
          · go_wp2
            go_round
            case rel => exact ⟨k + 1, m + j, by omega, by go_num, by go_num, by omega⟩
            case measure => simp [intOf]; omega
        · go_wp2
          go_ret
          exact ⟨⟨false, rfl⟩, rfl⟩

end Go.Proofs.Ytiimhenapfejmaa

/-
  What do does to a file is proved here, for all files and calls.
-/
namespace Go.Proofs.Ytiimhenapfejmaa
open Go.RowKit
set_option linter.unusedVariables false
set_option maxRecDepth 100000

/-- What a call answers and leaves. -/
def doS (R : Nat) (q : Cal) (xs : List Int) (n : Nat) : Int × List Int × Nat :=
  if q.1 = 0 then appS R q.2.2 xs n else if q.1 = 1 then (0, xs, xs.length) else if q.1 = 2 then repS R q.2.2 xs n else if q.1 = 3 then trimS q.2.1 xs n else if q.1 = 4 then crashS q.2.1 xs n else (0, xs, n)
theorem left_le (k : Int) (xs : List Int) (n : Nat) (h : n ≤ xs.length) : left k xs n ≤ xs.length := by unfold left; omega
theorem doS_ok (R : Nat) (q : Cal) (xs : List Int) (n : Nat) (h : n ≤ xs.length) : (doS R q xs n).2.2 ≤ (doS R q xs n).2.1.length := by
  unfold doS
  split
  · unfold appS; split
    · simp; omega
    · exact h
  · split
    · exact Nat.le_refl _
    · split
      · unfold repS; split
        · exact Nat.le_refl _
        · exact h
      · split
        · unfold trimS; split
          · show min n q.2.1.toNat ≤ (xs.take q.2.1.toNat).length
            rw [List.length_take]; omega
          · exact h
        · split
          · unfold crashS
            show left q.2.1 xs n ≤ (xs.take (left q.2.1 xs n)).length
            have := left_le q.2.1 xs n h
            rw [List.length_take]; omega
          · exact h

theorem Fo.before {B b R : Nat} {v : Value} {w w1 w' : World} {r : Int × List Int × Nat} (h : Fo B b R v w1 r w') (hb : Below w.heap.size w w1) : Fo B b R v w r w' := by
  obtain ⟨v', h1, h2⟩ := h
  exact ⟨v', h1, (Fx.of_below hb).trans h2⟩

section
variable {B : Nat} {w : World} {b : Nat} {v : Value} {xs : List Int} {n R : Nat}
set_option maxHeartbeats 2000000 in
theorem do_any (hB : B ≤ w.heap.size) (h : Fi B w b v xs n R) (hx : n ≤ xs.length) (what k : Int) (u : Value) (ys : List Int) (hu : Bs w u ys) :
    Calls Try.prog 12 #[.pointer (some ⟨b, 0, none⟩), .agg #[.int .i64 what, .int .i64 k, u]] w fun e w' =>
      Fe (doS R (what, k, ys) xs n) e ∧ Fo B b R v w (doS R (what, k, ys) xs n) w' := by
  obtain ⟨O, hO⟩ : ∃ O : Obj, Obj.cells #[.int .i64 what, .int .i64 k, u] 34 (0, 0) = O := ⟨_, rfl⟩
  have hb := ba w O
  have HB := hid hb
  have HF := hid (h.below hb)
  have HU := hid (hu.below hb)
  have HBB : B ≤ (w.alloc O).heap.size := Nat.le_trans hB (by simp)
  obtain ⟨ua, uc, rfl⟩ := hu.form
  have HO := hid hO
  rw [← hO] at HB HF HU HBB
  clear h hu hO hb
  obtain ⟨r, hr⟩ : ∃ r, doS R (what, k, ys) xs n = r := ⟨_, rfl⟩
  have HR := hid hr
  rw [hr]
  clear hr
  by_cases h0 : what = 0
  · subst h0
    have hr : r = appS R ys xs n := by rw [← HR.out]; unfold doS; simp
    subst hr
    go_enter Try.func12, Try.ntmps12
    go_wp2_with fail
    refine (fappend_any HBB HF.out _ ys HU.out).mono ?_
    rintro e w1 ⟨he, hf⟩
    have HE := hid he
    have HF1 := hid hf
    unfold Fe at he
    subst he
    clear hf
    go_wp2
    go_ret
    exact ⟨HE.out, HF1.out.before HB.out⟩
  · have h0' : (what == 0) = false := by simpa using h0
    by_cases h1 : what = 1
    · subst h1
      have hr : r = (0, xs, xs.length) := by rw [← HR.out]; unfold doS; simp
      subst hr
      go_enter Try.func12, Try.ntmps12
      go_wp2_with fail
      refine (sync_any HF.out).mono ?_
      rintro e w1 ⟨rfl, hf, hx1⟩
      have HF1 := hid hf
      have HX1 := hid hx1
      clear hf hx1
      go_wp2
      go_ret
      exact ⟨rfl, (Fo.mk HF1.out HX1.out rfl).before HB.out⟩
    · have h1' : (what == 1) = false := by simpa using h1
      by_cases h2 : what = 2
      · subst h2
        have hr : r = repS R ys xs n := by rw [← HR.out]; unfold doS; simp
        subst hr
        go_enter Try.func12, Try.ntmps12
        go_wp2_with fail
        refine (freplace_any HBB HF.out _ ys HU.out).mono ?_
        rintro e w1 ⟨he, hf⟩
        have HE := hid he
        have HF1 := hid hf
        unfold Fe at he
        subst he
        clear hf
        go_wp2
        go_ret
        exact ⟨HE.out, HF1.out.before HB.out⟩
      · have h2' : (what == 2) = false := by simpa using h2
        by_cases h3 : what = 3
        · subst h3
          have hr : r = trimS k xs n := by rw [← HR.out]; unfold doS; simp
          subst hr
          go_enter Try.func12, Try.ntmps12
          go_wp2_with fail
          refine (ftrim_any HF.out k).mono ?_
          rintro e w1 ⟨he, hf⟩
          have HE := hid he
          have HF1 := hid hf
          unfold Fe at he
          subst he
          clear hf
          go_wp2
          go_ret
          exact ⟨HE.out, HF1.out.before HB.out⟩
        · have h3' : (what == 3) = false := by simpa using h3
          by_cases h4 : what = 4
          · subst h4
            have hr : r = crashS k xs n := by rw [← HR.out]; unfold doS; simp
            subst hr
            go_enter Try.func12, Try.ntmps12
            go_wp2_with fail
            refine (fcrash_any HF.out hx k).mono ?_
            rintro e w1 ⟨rfl, hf⟩
            have HF1 := hid hf
            clear hf
            go_wp2
            go_ret
            exact ⟨rfl, HF1.out.before HB.out⟩
          · have h4' : (what == 4) = false := by simpa using h4
            have hr : r = (0, xs, n) := by rw [← HR.out]; unfold doS; simp [h0, h1, h2, h3, h4]
            subst hr
            go_enter Try.func12, Try.ntmps12
            go_wp2
            go_ret
            exact ⟨rfl, (Fo.mk HF.out (Fx.refl _ _ _) rfl).before HB.out⟩
end
end Go.Proofs.Ytiimhenapfejmaa

/-
  What file.Load and file.New return is proved here, for all rooms and bytes.
-/
namespace Go.Proofs.Ytiimhenapfejmaa
open Go.RowKit
set_option linter.unusedVariables false
set_option maxRecDepth 100000

/-- A file that is new. -/
theorem Fi.new (w : World) (R : Nat) (hR : R ≤ 1048576) : Fi w.heap.size (w.alloc (.cells #[.slice none 0 0, .int .i64 0, .int .i64 R] 54 (0, 0))) w.heap.size (.slice none 0 0) [] 0 R :=
  ⟨heap_alloc_new w _, Nat.le_refl _, Ow.nil _ _, Byt.nil, Nat.zero_le _, Nat.zero_le _, hR⟩

/-- Which error there is. -/
def loadE (m : Nat) (R : Int) : Int := if R < 0 ∨ 1048576 < R then 11 else if R < m then 14 else 0

section
variable {w : World}

set_option maxHeartbeats 2000000 in
theorem load_bad (u : Value) (R : Int) (h : R < 0 ∨ 1048576 < R) : Calls Try.prog 25 #[u, .int .i64 R] w fun e w' => e = .returned (.tuple #[.pointer none, .int .i64 11]) ∧ w = w' := by
  by_cases h1 : R < 0
  · go_enter Try.func25, Try.ntmps25
    go_wp2
    go_ret2
    exact ⟨rfl, rfl⟩
  · have h1' : decide (R < 0) = false := by simp; omega
    have h2 : (1048576 : Int) < R := by omega
    go_enter Try.func25, Try.ntmps25
    go_wp2
    go_ret2
    exact ⟨rfl, rfl⟩

set_option maxHeartbeats 2000000 in
theorem load_full (u : Value) (ys : List Int) (R : Nat) (hR : R ≤ 1048576) (hu : Bs w u ys) (h : R < ys.length) : Calls Try.prog 25 #[u, .int .i64 R] w fun e w' => e = .returned (.tuple #[.pointer none, .int .i64 14]) ∧ Below w.heap.size w w' := by
  have HF := hid (Fi.new w R hR)
  have HU := hid (hu.below (ba w (.cells #[.slice none 0 0, .int .i64 0, .int .i64 R] 54 (0, 0))))
  have hr : repS R ys [] 0 = (14, [], 0) := if_neg (by omega)
  have HR := hid hr
  obtain ⟨ua, uc, rfl⟩ := hu.form
  have h1 : decide ((R : Int) < 0) = false := by simp
  have h2 : decide ((1048576 : Int) < (R : Int)) = false := by simp; omega
  clear hr hu
  go_enter Try.func25, Try.ntmps25
  go_wp2_with fail
  refine (freplace_any (by simp) HF.out _ ys HU.out).mono ?_
  rintro e w1 ⟨he, hf⟩
  obtain rfl := he.out HR.out
  obtain ⟨v1, hf1, hx1⟩ := hf.out HR.out
  have HX := hid hx1
  clear hf1 hx1 he hf
  go_wp2
  go_ret2
  exact ⟨rfl, (ba w _).trans (HF.out.fr HX.out (by simp))⟩

set_option maxHeartbeats 2000000 in
theorem load_ok (u : Value) (ys : List Int) (R : Nat) (hR : R ≤ 1048576) (hu : Bs w u ys) (h : ys.length ≤ R) : Calls Try.prog 25 #[u, .int .i64 R] w fun e w' =>
    e = .returned (.tuple #[.pointer (some ⟨w.heap.size, 0, none⟩), .int .i64 0]) ∧ Below w.heap.size w w' ∧ ∃ v, Fi w.heap.size w' w.heap.size v ys ys.length R := by
  have HF := hid (Fi.new w R hR)
  have HU := hid (hu.below (ba w (.cells #[.slice none 0 0, .int .i64 0, .int .i64 R] 54 (0, 0))))
  have hr : repS R ys [] 0 = (0, ys, ys.length) := if_pos h
  have HR := hid hr
  obtain ⟨ua, uc, rfl⟩ := hu.form
  have h1 : decide ((R : Int) < 0) = false := by simp
  have h2 : decide ((1048576 : Int) < (R : Int)) = false := by simp; omega
  clear hr hu
  go_enter Try.func25, Try.ntmps25
  go_wp2_with fail
  refine (freplace_any (by simp) HF.out _ ys HU.out).mono ?_
  rintro e w1 ⟨he, hf⟩
  obtain rfl := he.out HR.out
  obtain ⟨v1, hf1, hx1⟩ := hf.out HR.out
  have HX := hid hx1
  have HF1 := hid hf1
  clear hf1 hx1 he hf
  go_wp2
  go_ret2
  exact ⟨rfl, (ba w _).trans (HF.out.fr HX.out (by simp)), _, HF1.out⟩

set_option maxHeartbeats 2000000 in
theorem new_bad (R : Int) (h : R < 0 ∨ 1048576 < R) : Calls Try.prog 9 #[.int .i64 R] w fun e w' => e = .returned (.tuple #[.pointer none, .int .i64 11]) ∧ w = w' := by
  have H := hid h
  clear h
  go_enter Try.func9, Try.ntmps9
  go_wp2_with fail
  refine (load_bad _ R H.out).mono ?_
  rintro e w1 ⟨rfl, rfl⟩
  go_wp2
  go_ret2
  exact ⟨rfl, rfl⟩

set_option maxHeartbeats 2000000 in
theorem new_ok (R : Nat) (hR : R ≤ 1048576) : Calls Try.prog 9 #[.int .i64 R] w fun e w' =>
    e = .returned (.tuple #[.pointer (some ⟨w.heap.size, 0, none⟩), .int .i64 0]) ∧ Below w.heap.size w w' ∧ ∃ v, Fi w.heap.size w' w.heap.size v [] 0 R := by
  go_enter Try.func9, Try.ntmps9
  go_wp2_with fail
  refine (load_ok _ [] R hR (Bs.nil w) (Nat.zero_le _)).mono ?_
  rintro e w1 ⟨rfl, hb, v, hf⟩
  have HB := hid hb
  have HF := hid hf
  clear hb hf
  go_wp2
  go_ret2
  exact ⟨rfl, HB.out, v, HF.out⟩
end
end Go.Proofs.Ytiimhenapfejmaa

/-
  Plain mathematics of numbers as bytes: how many bytes a number takes, which ones, and back. Nothing of the program is imported.
-/
namespace Go.Proofs.Ytiimhenapfejmaa.M

theorem ipow_le (a : Nat) {b c : Nat} (ha : 0 < a) (h : b ≤ c) : (a : Int) ^ b ≤ (a : Int) ^ c := by
  have := Nat.pow_le_pow_right ha h
  rw [← Int.natCast_pow, ← Int.natCast_pow]
  omega
theorem pow2_le {b c : Nat} (h : b ≤ c) : (2 : Int) ^ b ≤ 2 ^ c := ipow_le 2 (by decide) h
theorem pow256_le {b c : Nat} (h : b ≤ c) : (256 : Int) ^ b ≤ 256 ^ c := ipow_le 256 (by decide) h

/-- With c bytes the numbers below it can be told. -/
def bd (c : Nat) : Int := 128 ^ c

/-- How many bytes a number takes. -/
def sz (n : Int) : Nat :=
  if n < 128 then 1 else if n < 16384 then 2 else if n < 2097152 then 3 else if n < 268435456 then 4 else if n < 34359738368 then 5 else if n < 4398046511104 then 6 else 7

theorem sz_pos (n : Int) : 1 ≤ sz n ∧ sz n ≤ 7 := by unfold sz; constructor <;> (repeat' split) <;> omega

theorem sz_of {n : Int} {k : Nat} (h1 : 1 ≤ k) (h7 : k ≤ 7) (hl : k = 1 ∨ bd (k - 1) ≤ n) (hu : k = 7 ∨ n < bd k) : sz n = k := by
  have : k = 1 ∨ k = 2 ∨ k = 3 ∨ k = 4 ∨ k = 5 ∨ k = 6 ∨ k = 7 := by omega
  unfold bd at hl hu
  rcases this with rfl | rfl | rfl | rfl | rfl | rfl | rfl <;> simp at hl hu <;> unfold sz <;> (repeat' split) <;> omega

/-- The lowest k bytes of a number, the highest first. -/
def be : Nat → Int → List Int
  | 0, _ => []
  | k + 1, n => (n / 256 ^ k) % 256 :: be k n

theorem be_length (k : Nat) (n : Int) : (be k n).length = k := by
  induction k with
  | zero => rfl
  | succ k ih => simp [be, ih]

theorem be_byte (k : Nat) (n : Int) : ∀ x ∈ be k n, 0 ≤ x ∧ x < 256 := by
  induction k with
  | zero => intro x hx; cases hx
  | succ k ih =>
    intro x hx
    simp only [be, List.mem_cons] at hx
    rcases hx with rfl | hx
    · exact ⟨Int.emod_nonneg _ (by decide), Int.emod_lt_of_pos _ (by decide)⟩
    · exact ih x hx

/-- What is added to the first of k bytes. -/
def mask (k : Nat) : Int := 256 - 2 ^ (9 - k)

/-- A number's bytes, k of them. -/
def encK (k : Nat) (n : Int) : List Int :=
  match be k n with
  | [] => []
  | x :: r => (x + mask k) :: r

/-- A number's bytes. -/
def enc (n : Int) : List Int := encK (sz n) n

theorem pow_le_of {j : Nat} {n : Int} (h : sz n = j) (hn : n < 562949953421312) : n < 128 ^ j := by
  subst h
  unfold sz
  (repeat' split) <;> simp <;> omega

/-- The highest byte leaves room for what is added to it. -/
theorem be_head {j : Nat} {n x : Int} {r : List Int} (h0 : 0 ≤ n) (hn : n < 562949953421312) (hj : sz n = j) (hx : be j n = x :: r) : 0 ≤ x ∧ x < 2 ^ (8 - j) := by
  have h1 := sz_pos n
  have h2 := pow_le_of hj hn
  rw [hj] at h1
  have : j = 1 ∨ j = 2 ∨ j = 3 ∨ j = 4 ∨ j = 5 ∨ j = 6 ∨ j = 7 := by omega
  rcases this with rfl | rfl | rfl | rfl | rfl | rfl | rfl <;> simp [be] at hx h2 ⊢ <;> omega

theorem enc_byte (n : Int) (h0 : 0 ≤ n) (hn : n < 562949953421312) : ∀ x ∈ enc n, 0 ≤ x ∧ x < 256 := by
  unfold enc encK
  have h1 := sz_pos n
  have hb := be_byte (sz n) n
  obtain ⟨j, hj⟩ : ∃ j, sz n = j := ⟨_, rfl⟩
  rw [hj] at hb h1 ⊢
  split
  · intro x hx; cases hx
  · rename_i y r hx
    have hh := be_head h0 hn hj hx
    rw [hx] at hb
    intro x hm
    simp only [List.mem_cons] at hm
    rcases hm with rfl | hm
    · have : j = 1 ∨ j = 2 ∨ j = 3 ∨ j = 4 ∨ j = 5 ∨ j = 6 ∨ j = 7 := by omega
      unfold mask
      rcases this with rfl | rfl | rfl | rfl | rfl | rfl | rfl <;> simp at hh ⊢ <;> omega
    · exact hb x (by simp [hm])

def right (n : Int) : Bool := decide (0 ≤ n ∧ n < 562949953421312)

theorem encK_length (k : Nat) (n : Int) : (encK k n).length = k := by
  unfold encK
  have := be_length k n
  split
  · rename_i h; rw [h] at this; exact this
  · rename_i h; rw [h] at this; simpa using this

theorem enc_length (n : Int) : (enc n).length = sz n := encK_length _ _

/-- How many bytes a number has whose first byte is b (8 and 9: none has). -/
def cnt (b : Int) : Nat :=
  if b < 128 then 1 else if b < 192 then 2 else if b < 224 then 3 else if b < 240 then 4 else if b < 248 then 5 else if b < 252 then 6 else if b < 254 then 7 else if b < 255 then 8 else 9

theorem cnt_pos (b : Int) : 1 ≤ cnt b ∧ cnt b ≤ 9 := by unfold cnt; constructor <;> (repeat' split) <;> omega

/-- Bytes behind a number, the highest first. -/
def fold (n : Int) (l : List Int) : Int := l.foldl (fun n x => n * 256 + x) n

/-- The number that bytes begin with, and how many of them it takes. -/
def first : List Int → Option (Int × Nat)
  | [] => none
  | b :: r => if 7 < cnt b ∨ r.length + 1 < cnt b then none else
      if sz (fold (b % 2 ^ (8 - cnt b)) (r.take (cnt b - 1))) = cnt b then some (fold (b % 2 ^ (8 - cnt b)) (r.take (cnt b - 1)), cnt b) else none

/-- The three answers of 'first'. -/
def fn (xs : List Int) : Int := match first xs with | some p => p.1 | none => 0
def fc (xs : List Int) : Nat := match first xs with | some p => p.2 | none => 0
def fo (xs : List Int) : Bool := (first xs).isSome

theorem fo_spec {xs : List Int} (h : fo xs = true) : 1 ≤ fc xs ∧ fc xs ≤ xs.length ∧ sz (fn xs) = fc xs := by
  unfold fo at h
  cases xs with
  | nil => simp [first] at h
  | cons b r =>
    by_cases h1 : 7 < cnt b ∨ r.length + 1 < cnt b
    · simp [first, h1] at h
    · by_cases h2 : sz (fold (b % 2 ^ (8 - cnt b)) (r.take (cnt b - 1))) = cnt b
      · have e : first (b :: r) = some (fold (b % 2 ^ (8 - cnt b)) (r.take (cnt b - 1)), cnt b) := by rw [first, if_neg h1, if_pos h2]
        simp only [fn, fc, e]
        have := cnt_pos b
        exact ⟨by omega, by simp; omega, h2⟩
      · simp [first, h1, h2] at h

/-- What a cursor over xs answers, and what it is then over: the next number .. -/
def numOk (most : Int) (xs : List Int) : Bool := fo xs && decide (fn xs ≤ most)
def numV (most : Int) (xs : List Int) : Int := if numOk most xs then fn xs else 0
def numS (most : Int) (xs : List Int) : List Int := if numOk most xs then xs.drop (fc xs) else []
def numL (most : Int) (xs : List Int) (lost : Bool) : Bool := if numOk most xs then lost else true
/-- .. so many next bytes. -/
def takeOk (n : Int) (xs : List Int) : Bool := decide (0 ≤ n ∧ n ≤ xs.length)
def takeV (n : Int) (xs : List Int) : List Int := if takeOk n xs then xs.take n.toNat else []
def takeS (n : Int) (xs : List Int) : List Int := if takeOk n xs then xs.drop n.toNat else []
def takeL (n : Int) (xs : List Int) (lost : Bool) : Bool := if takeOk n xs then lost else true
/-- Bytes as a text. -/
def str (xs : List Int) : ByteArray := xs.foldl (fun r n => r.push (UInt8.ofNat n.toNat)) ByteArray.empty

theorem fold_bound (m : Int) (l : List Int) (hl : ∀ x ∈ l, 0 ≤ x ∧ x < 256) : ∀ n : Int, 0 ≤ n → n < m → 0 ≤ fold n l ∧ fold n l < m * 256 ^ l.length := by
  induction l generalizing m with
  | nil => intro n h0 h1; simpa [fold] using ⟨h0, h1⟩
  | cons x r ih =>
    intro n h0 h1
    have hx := hl x (by simp)
    have := ih (m * 256) (fun y hy => hl y (by simp [hy])) (n * 256 + x) (by omega) (by omega)
    simp only [fold, List.foldl_cons, List.length_cons] at this ⊢
    rw [Int.pow_succ, Int.mul_comm (256 ^ r.length) 256, ← Int.mul_assoc]
    exact this

theorem fold_snoc (n : Int) (l : List Int) (x : Int) : fold n (l ++ [x]) = fold n l * 256 + x := by simp [fold]

end Go.Proofs.Ytiimhenapfejmaa.M

/-
  What a conversion of bytes to a text comes to, for all slices that read as bytes.
-/
namespace Go.Proofs.Ytiimhenapfejmaa
open Go.RowKit
set_option linter.unusedVariables false
set_option maxRecDepth 100000

/-- A conversion of bytes to a text. -/
theorem conv_str {w : World} {v : Value} {xs : List Int} (h : Bs w v xs) : (convert 32 9 v).run Try.prog w = .ok (.string (M.str xs)) w := by
  have h' := h
  obtain ⟨a, c, rfl, _⟩ := h
  rw [run_convert_bytes_string w 32 9 5 a xs.length c Try.underlying32 Try.underlying5 Try.underlying9]
  cases a with
  | none =>
    have hx : xs.length = 0 := by
      obtain ⟨a', c', h1, h2, _, h4, _⟩ := h'
      simp only [Value.slice.injEq] at h1
      have := h4 h1.1.symm
      omega
    have e1 : xs = [] := List.eq_nil_of_length_eq_zero hx
    subst e1
    rfl
  | some A =>
    have hl := run_loadCells_list (P := Try.prog) w A (cs xs) (cells_at h')
    rw [List.length_map] at hl
    rw [run_bytesToString w A xs.length c xs hl]
    rfl

end Go.Proofs.Ytiimhenapfejmaa

/-
  That alive answers true is proved here.
-/
namespace Go.Proofs.Ytiimhenapfejmaa
open Go.RowKit
set_option linter.unusedVariables false
set_option maxRecDepth 100000

theorem World.grownBy.below' {w w' : World} {m : Nat} (h : (w.drewN m).grownBy w' none) : Below w.heap.size w w' := ⟨h.os, h.tape, h.output, h.size, fun k hk => h.block k hk (by simp)⟩
/-- A row of bytes that is a block by itself. -/
theorem Bs.blk {w : World} {b e : Nat} {fr : Nat × Nat} (xs : List Int) (h : w.heap[b]? = some (.cells (cs xs).toArray e fr)) (hl : xs.length ≤ maxLen) (hr : ∀ x ∈ xs, 0 ≤ x ∧ x < 256) :
    Bs w (.slice (some ⟨b, 0, none⟩) xs.length xs.length) xs := by
  refine ⟨_, _, rfl, Nat.le_refl _, hl, (fun e => by cases e), fun i hi => ⟨b, 0, rfl, ?_⟩, hr⟩
  rw [Nat.zero_add, cell_of_row w b i _ e fr h]
  simp [hi]

set_option maxHeartbeats 2000000 in
theorem alive_any (w : World) : Calls Try.prog 7 #[] w fun e w' => e = .returned (.bool true) ∧ Below w.heap.size w w' := by
  have r1 : appS 9 [97, 98] [] 0 = (0, [97, 98], 0) := by decide
  have r2 : appS 9 [99, 100] [97, 98] 2 = (0, [97, 98, 99, 100], 2) := by decide
  have r3 : crashS 1 [97, 98, 99, 100] 2 = (0, [97, 98, 99], 3) := by decide
  have r4 : appS 9 [0, 0, 0, 0, 0, 0, 0] [97, 98, 99] 3 = (14, [97, 98, 99], 3) := by decide
  have R1 := hid r1
  have R2 := hid r2
  have R3 := hid r3
  have R4 := hid r4
  clear r1 r2 r3 r4
  have kc := fun (w : World) (C : Array Value) (n c : Nat) => Lib.run_convert_bytes_const (P := Try.prog) w 32 5 C n c Try.underlying32 Try.underlying5
  go_enter Try.func7, Try.ntmps7
  go_wp2_with fail
  refine (new_ok 9 (by decide)).mono ?_
  rintro e w1 ⟨rfl, b1, v1, hf1⟩
  obtain ⟨b, hb⟩ : ∃ b, w.heap.size = b := ⟨_, rfl⟩
  have HB := hid hb
  rw [hb] at b1 hf1 ⊢
  have HB1 := hid b1
  have HF1 := hid hf1
  have HL1 := hf1.lt
  clear b1 hf1 hb
  go_wp2_with fail
  refine (fappend_any (ys := [97, 98]) (by simp; omega) (HF1.out.below (ba w1 _)) _ (Bs.blk (e := 5) (fr := (2, 3)) [97, 98] (heap_alloc_new w1 _) (by decide) (by decide))).mono ?_
  rintro e w2 ⟨he, hf⟩
  obtain rfl := he.out R1.out
  obtain ⟨v2, hf2, hx2⟩ := hf.out R1.out
  have hl2 := hx2.size
  have hs2 : b < w2.heap.size := hf2.lt
  have HB2 := hid ((HB1.out.trans ((ba w1 _).mono (by omega))).trans ((HF1.out.below (ba w1 _)).fr hx2 (by simp; omega)))
  have HF2 := hid hf2
  clear he hf hf2 hx2 hl2
  go_wp2_with fail
  refine (sync_any HF2.out).mono ?_
  rintro e w3 ⟨rfl, hf3, hx3⟩
  have hs3 : b < w3.heap.size := hf3.lt
  have HB3 := hid (HB2.out.trans (HF2.out.fr hx3 (by omega)))
  have HF3 := hid hf3
  clear hf3 hx3
  go_wp2_with fail
  refine (fappend_any (ys := [99, 100]) (by simp; omega) (HF3.out.below (ba w3 _)) _ (Bs.blk (e := 5) (fr := (2, 3)) [99, 100] (heap_alloc_new w3 _) (by decide) (by decide))).mono ?_
  rintro e w4 ⟨he, hf⟩
  obtain rfl := he.out R2.out
  obtain ⟨v4, hf4, hx4⟩ := hf.out R2.out
  have hs4 : b < w4.heap.size := hf4.lt
  have HB4 := hid ((HB3.out.trans ((ba w3 _).mono (by omega))).trans ((HF3.out.below (ba w3 _)).fr hx4 (by simp; omega)))
  have HF4 := hid hf4
  clear he hf hf4 hx4
  go_wp2_with fail
  refine (fcrash_any HF4.out (by decide) 1).mono ?_
  rintro e w5 ⟨rfl, hf⟩
  obtain ⟨v5, hf5, hx5⟩ := hf.out R3.out
  have hs5 : b < w5.heap.size := hf5.lt
  have HB5 := hid (HB4.out.trans (HF4.out.fr hx5 (by omega)))
  have HF5 := hid hf5
  clear hf hf5 hx5
  go_wp2_with fail
  refine (bytes_any HF5.out).mono ?_
  rintro e w6 ⟨v6, rfl, ho, hb6⟩
  have hcv := conv_str (ho.bs HF5.out.byt)
  obtain ⟨a6, c6, rfl, -⟩ := ho.form
  have hm : M.str [97, 98, 99] = ⟨#[97, 98, 99]⟩ := by decide
  rw [hm, show [(97 : Int), 98, 99].length = 3 from rfl] at hcv
  rw [show [(97 : Int), 98, 99].length = 3 from rfl] at ho ⊢
  have HB6 := hid (HB5.out.trans (hb6.mono (by omega)))
  have HF6 := hid (HF5.out.below hb6)
  have hs6 : b < w6.heap.size := HF6.out.lt
  clear ho hb6 hm
  go_wp2_with fail
  refine (synced_any HF6.out).mono ?_
  rintro e w7 ⟨rfl, rfl⟩
  go_wp2_with fail
  refine (room_any HF6.out).mono ?_
  rintro e w7 ⟨rfl, m, rfl⟩
  obtain ⟨i0, hi, hz0, hz1, hz2⟩ := info_parts info_u8
  obtain ⟨w7, hrun, hown, hgrow⟩ := run_make_full (P := Try.prog) (w6.drewN m) (w6.drewN m).heap.size 32 5 i0 (.int .u8 0) 1 Try.underlying32 hi hz0 hz1 .i64 .i64 7 (by rw [hz2]; decide) (by decide) (Nat.le_refl _)
  have ho7 : Ow (w6.drewN m).heap.size w7 (.slice (some ⟨w6.heap.size, 0, none⟩) 7 7) [0, 0, 0, 0, 0, 0, 0] := by
    have hm : (madeCells (Value.int .u8 0).cells (7 * 1)).toList = cs [0, 0, 0, 0, 0, 0, 0] := by kernel_rfl
    rw [hm] at hown
    exact hown
  have hb7 : Below w6.heap.size w6 w7 := World.grownBy.below' hgrow
  have HO7 := hid ho7
  have HB7 := hid hb7
  have hs7 : w6.heap.size ≤ w7.heap.size := hb7.size
  clear hown hgrow ho7 hb7 hz0 hz1 hz2 hi
  rw [show ((7 : Nat) : Int) = 7 from rfl] at hrun
  go_wp2_with fail
  refine (fappend_any (ys := [0, 0, 0, 0, 0, 0, 0]) (by omega) (HF6.out.below HB7.out) _ (HO7.out.bs (fun x hx => by simp at hx; omega))).mono ?_
  rintro e w8 ⟨he, hf⟩
  obtain rfl := he.out R4.out
  obtain ⟨v8, hf8, hx8⟩ := hf.out R4.out
  have HB8 := hid ((HB6.out.trans (HB7.out.mono (by omega))).trans ((HF6.out.below HB7.out).fr hx8 (by omega)))
  clear he hf hf8 hx8
  go_wp2
  go_ret
  exact ⟨rfl, by rw [HB.out]; exact HB8.out⟩
end Go.Proofs.Ytiimhenapfejmaa

/-
  That offshootref00.SameBytes tells whether two lists of bytes are one is proved here, for all slices that read as bytes.
-/
namespace Go.Proofs.Ytiimhenapfejmaa
open Go.RowKit
set_option linter.unusedVariables false
set_option maxRecDepth 100000

theorem take_step {xs ys : List Int} {k : Nat} (h1 : k < xs.length) (h2 : k < ys.length) (h : xs.take k = ys.take k) (he : xs.getD k 0 = ys.getD k 0) : xs.take (k + 1) = ys.take (k + 1) := by
  rw [List.take_succ_eq_append_getElem h1, List.take_succ_eq_append_getElem h2, h]
  simp [List.getD, h1, h2] at he
  rw [he]
theorem not_eq_of_at {xs ys : List Int} {k : Nat} (he : xs.getD k 0 ≠ ys.getD k 0) : xs ≠ ys := by
  intro e; exact he (by rw [e])

set_option maxHeartbeats 1000000 in
theorem same_any (a b : Value) (xs ys : List Int) (w : World) (h1 : Bs w a xs) (h2 : Bs w b ys) :
    Calls Try.prog 18 #[a, b] w fun e w' => e = .returned (.bool (decide (xs = ys))) ∧ ∃ n, w' = w.drewN n := by
  have l1 := h1.len
  have l2 := h2.len
  unfold maxLen at l1 l2
  by_cases hl : xs.length = ys.length
  · by_cases hz : xs.length = 0
    · have e1 : xs = [] := List.eq_nil_of_length_eq_zero hz
      have e2 : ys = [] := List.eq_nil_of_length_eq_zero (by omega)
      subst e1 e2
      obtain ⟨a1, c1, rfl, _⟩ := h1.inv_nil
      obtain ⟨a2, c2, rfl, _⟩ := h2.inv_nil
      clear h1 h2 l1 l2 hl hz
      go_enter Try.func18, Try.ntmps18
      go_wp2
      refine wp_loop_rounds 1 ?_
      rw [rounds_succ]
      go_wp2
      go_ret
      exact ⟨rfl, 0, rfl⟩
    · obtain ⟨b1, o1, c1, rfl, _, _, hc1⟩ := h1.inv (by omega)
      obtain ⟨b2, o2, c2, rfl, _, _, hc2⟩ := h2.inv (by omega)
      rw [← hl]
      obtain ⟨n, hn⟩ : ∃ n, xs.length = n := ⟨_, rfl⟩
      have HL : Hid (ys.length = n) := by rw [← hl]; exact hn
      have HN : Hid (xs.length = n) := hn
      rw [hn]
      rw [hn] at hz l1
      clear hn hl h1 h2
      have hnn : ((n : Int) != (n : Int)) = false := by simp
      go_enter Try.func18, Try.ntmps18
      go_wp2
      go_loopw [5] (fun i wr => ∃ k m : Nat, k ≤ n ∧ i = .int .i64 k ∧ wr = w.drewN m ∧ xs.take k = ys.take k) (fun i _ => n - (intOf i).toNat)
      case atStart => exact ⟨0, 0, Nat.zero_le _, rfl, rfl, by simp⟩
      case round =>
        obtain ⟨k, m, hk, rfl, rfl, ht⟩ := hrel
        have HT := hid ht
        clear ht
        by_cases hlt : k < n
        · have g1 := hc1 k (by have := HN.out; omega)
          have g2 := hc2 k (by have := HL.out; omega)
          clear hc1 hc2
          have b1' : (k : Int) < (n : Int) := by omega
          go_wp2
          go_quiet (fail)
          by_cases he : xs.getD k 0 = ys.getD k 0
          · have he' : (xs[k]?.getD 0 != ys[k]?.getD 0) = false := by simpa [List.getD] using he
            have HE := hid he
            clear he
            go_wp2
            go_roundw
            case rel => exact ⟨k + 1, _, by omega, by go_num, rfl, take_step (by have := HN.out; omega) (by have := HL.out; omega) HT.out HE.out⟩
            case measure => simp [intOf]; omega
          · have he' : (xs[k]?.getD 0 != ys[k]?.getD 0) = true := by simpa [List.getD] using he
            have HE := hid he
            clear he
            go_wp2
            go_ret
            exact ⟨by rw [decide_eq_false (not_eq_of_at HE.out)]; rfl, _, World.drewN_drewN _ _ _⟩
        · clear hc1 hc2
          go_wp2
          go_ret
          refine ⟨?_, _, rfl⟩
          have e1 : k = n := by omega
          have h3 := HT.out
          rw [List.take_of_length_le (by have := HN.out; omega), List.take_of_length_le (by have := HL.out; omega)] at h3
          rw [decide_eq_true h3]; rfl
  · have hne : ((xs.length : Int) != (ys.length : Int)) = true := by simp; omega
    obtain ⟨a1, c1, rfl, _⟩ := h1
    obtain ⟨a2, c2, rfl, _⟩ := h2
    go_enter Try.func18, Try.ntmps18
    go_wp2
    go_ret
    exact ⟨by rw [decide_eq_false (by intro e; exact hl (by rw [e]))]; rfl, 0, rfl⟩


theorem same_b (a b : Value) (xs ys : List Int) (w : World) (h1 : Bs w a xs) (h2 : Bs w b ys) :
    Calls Try.prog 18 #[a, b] w fun e w' => e = .returned (.bool (decide (xs = ys))) ∧ Below w.heap.size w w' :=
  (same_any a b xs ys w h1 h2).mono fun _ _ ⟨he, n, hw⟩ => ⟨he, by rw [hw]; exact bd w n⟩

end Go.Proofs.Ytiimhenapfejmaa

/-
  That FileCrash returns true is proved here, for all rooms, rows of calls (whose bytes are less than 2^47 each) and numbers that are kept.
-/
namespace Go.Proofs.Ytiimhenapfejmaa
open Go.RowKit
set_option linter.unusedVariables false
set_option maxRecDepth 100000

theorem left_ge (k : Int) (xs : List Int) (n : Nat) : n ≤ left k xs n := by unfold left; omega

set_option maxHeartbeats 4000000 in
theorem crash_walk (room : Int) (v : Value) (qs : List Cal) (keep : Int) (w : World) (h0 : (Lit.int .i64 room).wf = true) (h1 : Dl w v qs ∧ ∀ q ∈ qs, q.2.2.length ≤ 140737488355328) (h2 : (Lit.int .i64 keep).wf = true) :
    Calls Try.prog 5 #[.int .i64 room, v, .int .i64 keep] w fun e w' => e = .returned (.bool true) ∧ Below w.heap.size w w' := by
  obtain ⟨hd, hx⟩ := h1
  have l1 := hd.len
  unfold maxLen at l1
  have HD := hid hd
  have HX := hid hx
  obtain ⟨va, vc, rfl⟩ := hd.form
  obtain ⟨N, hN⟩ : ∃ N, qs.length = N := ⟨_, rfl⟩
  have HN := hid hN
  rw [hN] at HD l1 ⊢
  clear hd hx hN h0 h2
  go_enter Try.func5, Try.ntmps5
  go_wp2_with fail
  refine (alive_any w).mono ?_
  rintro e w1 ⟨rfl, b1⟩
  have B1 := hid b1
  clear b1
  go_wp2_with fail
  refine (great_any _ qs w1 (HD.out.below B1.out) HX.out).mono ?_
  rintro e w2 ⟨⟨r, rfl⟩, rfl⟩
  cases r with
  | true =>
    go_wp2
    go_ret
    exact ⟨rfl, B1.out⟩
  | false =>
    go_wp2_with fail
    by_cases hr : room < 0 ∨ 1048576 < room
    · refine (new_bad room hr).mono ?_
      rintro e w3 ⟨rfl, rfl⟩
      by_cases hr1 : room < 0
      · clear hr
        go_wp2
        go_ret
        exact ⟨rfl, B1.out⟩
      · have hr1' : decide (room < 0) = false := by simp; omega
        have hr2 : (1048576 : Int) < room := by omega
        clear hr
        go_wp2
        go_ret
        exact ⟨rfl, B1.out⟩
    · obtain ⟨R, rfl⟩ : ∃ R : Nat, room = R := ⟨room.toNat, by omega⟩
      have hR : R ≤ 1048576 := by omega
      refine (new_ok R hR).mono ?_
      rintro e w3 ⟨rfl, b3, v3, f3⟩
      obtain ⟨b, hb⟩ : ∃ b, w1.heap.size = b := ⟨_, rfl⟩
      rw [hb] at b3 f3 ⊢
      have hwb : w.heap.size ≤ b := by rw [← hb]; exact B1.out.size
      have HB := hid hb
      have B3 := hid b3
      have F3 := hid f3
      clear hr hb b3 f3
      go_wp2
      go_loopw [9] (fun i wr => ∃ (k : Nat) (v' : Value) (xs : List Int) (n : Nat), k ≤ N ∧ i = .int .i64 k ∧ Fi b wr b v' xs n R ∧ n ≤ xs.length ∧ Below b w1 wr) (fun i _ => N - (intOf i).toNat)
      case atStart => exact ⟨0, _, _, _, Nat.zero_le _, rfl, F3.out, Nat.zero_le _, B3.out⟩
      case round =>
        obtain ⟨k, v', xs, n, hk, rfl, f, hn, bw⟩ := hrel
        have F := hid f
        have BW := hid bw
        obtain ⟨M, hM⟩ : ∃ M, xs.length = M := ⟨_, rfl⟩
        have HM := hid hM
        have HNM := hid hn
        have hbw : b < wr.heap.size := f.lt
        have hd' : Dl wr (.slice va N vc) qs := HD.out.below (B1.out.trans (BW.out.mono hwb))
        by_cases hlt : k < N
        · have hlt' : (k : Int) < (N : Int) := by omega
          obtain ⟨b0, off, c0, e0, hc⟩ := hd'.inv (by rw [HN.out]; omega)
          rw [HN.out] at hc
          simp only [Value.slice.injEq] at e0
          obtain ⟨rfl, -, rfl⟩ := e0
          obtain ⟨u, g0, g1, g2, g3⟩ := hc k hlt
          have G3 := hid g3
          obtain ⟨ua, uc, rfl⟩ := g3.form
          clear f bw hM hn hd' hc g3
          obtain ⟨q, hq⟩ : ∃ q, qs.getD k cal0 = q := ⟨_, rfl⟩
          rw [hq] at g0 g1 g2 G3
          obtain ⟨q1, q2, ys⟩ := q
          simp only at g0 g1 g2 G3
          clear hq
          go_wp2_with fail
          refine (do_any (by omega) F.out HNM.out q1 q2 _ ys G3.out).mono ?_
          rintro e w4 ⟨he, hf⟩
          have hok := doS_ok R (q1, q2, ys) xs n HNM.out
          obtain ⟨⟨z, xs2, n2⟩, hr⟩ : ∃ r, doS R (q1, q2, ys) xs n = r := ⟨_, rfl⟩
          rw [hr] at hok
          obtain rfl := he.out hr
          obtain ⟨v4, f4, x4⟩ := hf.out hr
          have hn2 : n2 ≤ xs2.length := hok
          have hl2 : xs2.length ≤ R := f4.nums.2.1
          have hbw4 : b < w4.heap.size := f4.lt
          have BW4 := hid (BW.out.trans (F.out.fr x4 (by omega)))
          have F4 := hid f4
          obtain ⟨M2, hM2⟩ : ∃ M, xs2.length = M := ⟨_, rfl⟩
          have HM2 := hid hM2
          rw [hM2] at hn2 hl2
          clear he hf hr hok f4 x4 hM2 g0 g1 g2 G3 F BW HM HNM
          go_wp2_with fail
          refine (synced_any F4.out).mono ?_
          rintro e w5 ⟨rfl, rfl⟩
          go_wp2_with fail
          refine (size_any F4.out).mono ?_
          rintro e w5 ⟨rfl, rfl⟩
          rw [HM2.out]
          have q1' : decide ((M2 : Int) < (n2 : Int)) = false := by simp; omega
          go_wp2_with fail
          refine (size_any F4.out).mono ?_
          rintro e w5 ⟨rfl, rfl⟩
          rw [HM2.out]
          go_wp2_with fail
          refine (room_any F4.out).mono ?_
          rintro e w5 ⟨rfl, m, rfl⟩
          rw [HM2.out]
          have q2' : ((M2 : Int) + ((R : Int) - M2) != (R : Int)) = false := by simp; omega
          go_wp2
          go_roundw
          case rel => exact ⟨k + 1, _, _, _, by omega, by go_num, F4.out.drewN _, by rw [HM2.out]; exact hn2, below_drewN BW4.out _⟩
          case measure => simp [intOf]; omega
        · have e1 : k = N := by omega
          have hl : M ≤ R := by rw [← hM]; exact f.nums.2.1
          rw [hM] at hn
          obtain ⟨L, hL⟩ : ∃ L, left keep xs n = L := ⟨_, rfl⟩
          have h3 := left_ge keep xs n
          have h4 := left_le keep xs n HNM.out
          have h5 : (L : Int) - n ≤ if keep < 0 then 0 else keep := by
            rw [← hL]; unfold left
            split <;> omega
          rw [hL] at h3 h4
          rw [hM] at h4
          have HL := hid hL
          have hyl : (xs.take L).length = L := by rw [List.length_take, HM.out]; omega
          have HYL := hid hyl
          have HR : Hid (crashS keep xs n = (0, xs.take L, L)) := by show crashS keep xs n = (0, xs.take L, L); unfold crashS; rw [hL]
          have HR2 : Hid (crashS keep (xs.take L) L = (0, xs.take L, L)) := by
            show crashS keep (xs.take L) L = (0, xs.take L, L)
            have : left keep (xs.take L) L = L := by unfold left; rw [hyl]; omega
            unfold crashS; rw [this, List.take_take, Nat.min_self]
          clear f bw hM hd' hL hyl hk
          go_wp2_with fail
          refine (bytes_any F.out).mono ?_
          rintro e w5 ⟨v5, rfl, o5, b5⟩
          have O5 := hid o5
          obtain ⟨a5, c5, rfl, k5⟩ := o5.form
          rw [HM.out] at O5 k5 ⊢
          have hb5 : b < w5.heap.size := Nat.lt_of_lt_of_le hbw b5.size
          have F5 := hid (F.out.below b5)
          have BW5 := hid (BW.out.trans (b5.mono (by omega)))
          have hv5 : ∀ i, (Value.slice a5 M c5).ownBlock = some i → wr.heap.size ≤ i := fun i hi => (O5.out.lt i hi).1
          have HV5 := hid hv5
          clear o5 b5 hv5
          go_wp2_with fail
          refine (synced_any F5.out).mono ?_
          rintro e w6 ⟨rfl, rfl⟩
          go_wp2_with fail
          refine (fcrash_any F5.out HNM.out keep).mono ?_
          rintro e w6 ⟨rfl, hf6⟩
          obtain ⟨v6, f6, x6⟩ := hf6.out HR.out
          have hb6 : b < w6.heap.size := f6.lt
          have F6 := hid f6
          have BW6 := hid (BW5.out.trans (F5.out.fr x6 (by omega)))
          have O6 : Hid (Ow wr.heap.size w6 (.slice a5 M c5) xs) := O5.out.of_block (fun i hi => x6.block (O5.out.lt i hi).2 (by have := HV5.out i hi; omega) (fun h => by have := HV5.out i hi; have := (F.out.own.lt i h).2; omega))
          clear hf6 f6 x6 O5 F5 BW5
          go_wp2_with fail
          refine (bytes_any F6.out).mono ?_
          rintro e w7 ⟨v7, rfl, o7, b7⟩
          have O7 := hid o7
          obtain ⟨a7, c7, rfl, k7⟩ := o7.form
          rw [HYL.out] at O7 k7 ⊢
          have hb7 : b < w7.heap.size := Nat.lt_of_lt_of_le hb6 b7.size
          have F7 := hid (F6.out.below b7)
          have BW7 := hid (BW6.out.trans (b7.mono (by omega)))
          have P7 : Hid (Ow wr.heap.size w7 (.slice a5 M c5) xs) := O6.out.of_block (fun i hi => b7.block i (O6.out.lt i hi).2)
          have HY : Hid (Bs w7 (.slice a7 L c7) (xs.take L)) := O7.out.bs (F.out.byt.take L)
          have HZ : Hid (Bs w7 (.slice a5 L c5) (xs.take L)) := (P7.out.bs F.out.byt).take L (by omega)
          have P6 := hid F6.out
          clear o7 b7 F6 BW6 O6
          have t1 : decide ((L : Int) < (n : Int)) = false := by simp; omega
          have t2 : decide ((M : Int) < (L : Int)) = false := by simp; omega
          by_cases hk0 : keep < 0
          · rw [if_pos hk0] at h5
            have t3 : decide ((0 : Int) < (L : Int) - n) = false := by simp; omega
            go_wp2_with fail
            refine (same_any _ _ _ _ w7 HY.out HZ.out).mono ?_
            rintro e w8 ⟨rfl, m8, rfl⟩
            rw [decide_eq_true rfl]
            go_wp2_with fail
            refine (synced_any (F7.out.drewN m8)).mono ?_
            rintro e w8 ⟨rfl, rfl⟩
            go_wp2_with fail
            refine (fcrash_any (F7.out.drewN m8) (by rw [HYL.out]; exact Nat.le_refl _) keep).mono ?_
            rintro e w9 ⟨rfl, hf9⟩
            obtain ⟨v9, f9, x9⟩ := hf9.out HR2.out
            have hb9 : b < w9.heap.size := f9.lt
            have F9 := hid f9
            have BW9 := hid ((below_drewN BW7.out m8).trans ((F7.out.drewN m8).fr x9 (by show b ≤ w7.heap.size; omega)))
            have HY9 : Hid (Bs w9 (.slice a7 L c7) (xs.take L)) := (Ow.of_block (B := w6.heap.size) (w := w7.drewN m8) (by have := O7.out; exact this) (fun i hi => x9.block (O7.out.lt i hi).2 (by have := (O7.out.lt i hi).1; omega) (fun h => by
              have h1 := (O7.out.lt i hi).1
              have h2 := (P6.out.own.lt i h).2
              omega))).bs (F.out.byt.take L)
            clear hf9 f9 x9
            go_wp2_with fail
            refine (bytes_any F9.out).mono ?_
            rintro e w10 ⟨v10, rfl, o10, b10⟩
            have O10 := hid (o10.bs F9.out.byt)
            have HY10 := hid (HY9.out.below b10)
            have BW10 := hid (BW9.out.trans (b10.mono (by omega)))
            clear o10 b10
            go_wp2_with fail
            refine (same_any _ _ _ _ w10 O10.out HY10.out).mono ?_
            rintro e w11 ⟨rfl, m11, rfl⟩
            rw [decide_eq_true rfl]
            go_wp2
            go_ret
            exact ⟨rfl, B1.out.trans ((below_drewN BW10.out m11).mono hwb)⟩
          · rw [if_neg hk0] at h5
            have t3 : decide (keep < (L : Int) - n) = false := by simp; omega
            go_wp2_with fail
            refine (same_any _ _ _ _ w7 HY.out HZ.out).mono ?_
            rintro e w8 ⟨rfl, m8, rfl⟩
            rw [decide_eq_true rfl]
            go_wp2_with fail
            refine (synced_any (F7.out.drewN m8)).mono ?_
            rintro e w8 ⟨rfl, rfl⟩
            go_wp2_with fail
            refine (fcrash_any (F7.out.drewN m8) (by rw [HYL.out]; exact Nat.le_refl _) keep).mono ?_
            rintro e w9 ⟨rfl, hf9⟩
            obtain ⟨v9, f9, x9⟩ := hf9.out HR2.out
            have hb9 : b < w9.heap.size := f9.lt
            have F9 := hid f9
            have BW9 := hid ((below_drewN BW7.out m8).trans ((F7.out.drewN m8).fr x9 (by show b ≤ w7.heap.size; omega)))
            have HY9 : Hid (Bs w9 (.slice a7 L c7) (xs.take L)) := (Ow.of_block (B := w6.heap.size) (w := w7.drewN m8) (by have := O7.out; exact this) (fun i hi => x9.block (O7.out.lt i hi).2 (by have := (O7.out.lt i hi).1; omega) (fun h => by
              have h1 := (O7.out.lt i hi).1
              have h2 := (P6.out.own.lt i h).2
              omega))).bs (F.out.byt.take L)
            clear hf9 f9 x9
            go_wp2_with fail
            refine (bytes_any F9.out).mono ?_
            rintro e w10 ⟨v10, rfl, o10, b10⟩
            have O10 := hid (o10.bs F9.out.byt)
            have HY10 := hid (HY9.out.below b10)
            have BW10 := hid (BW9.out.trans (b10.mono (by omega)))
            clear o10 b10
            go_wp2_with fail
            refine (same_any _ _ _ _ w10 O10.out HY10.out).mono ?_
            rintro e w11 ⟨rfl, m11, rfl⟩
            rw [decide_eq_true rfl]
            go_wp2
            go_ret
            exact ⟨rfl, B1.out.trans ((below_drewN BW10.out m11).mono hwb)⟩
end Go.Proofs.Ytiimhenapfejmaa
